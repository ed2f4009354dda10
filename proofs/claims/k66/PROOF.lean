import PyProof.Rows.All
import Wide.FinOn
import OpenK.KSplit
import KE.KSortTup
import KE.KDictOf
import KE.RegKIsAll
import KE.KEqDict
import KE.KRevIter
import PySem.Challenge.RW_lotledger_k66_gains_by_days
set_option Elab.async false
set_option linter.all false
set_option compiler.extract_closed false
set_option maxRecDepth 100000
set_option maxHeartbeats 4000000
local macro_rules | `(tactic| walk_at "o") => `(tactic| first | exact Or.inl rfl | exact Or.inr (Or.inl rfl) | exact Or.inr (Or.inr rfl))
local macro_rules | `(tactic| walk_at "p") => `(tactic| first | exact .inl rfl | exact .inr rfl | assumption)
noncomputable section
abbrev Fg_:=PySem.W.Frag
def za:= @List.length_map
def zb:= @PySem.Heap.get?_push_of_some
def zc:= @if_neg
def zd:= @PySem.wpAny_bind
def zf:= @List.getElem?_map
def zg:= @if_pos
def zh:= @List.getElem?_eq_getElem
def zi:= @List.map_cons
def zj:= @List.mem_map
def zk:= @List.mem_cons_self
def zl:= @List.size_toArray
def zm:= @Nat.le_refl
def zn:= @List.mem_of_getElem?
def zo:= @List.not_mem_nil
def zp:= @List.getElem?_eq_some_iff
def zq:= @PySem.sizeLine_eq
def zr:= @PySem.Heap.lt_size
def zt:= @List.mem_cons_of_mem
def zu:= @List.map_append
def zv:= @List.mem_cons
def zw:= @Option.some.inj
def zx:= @List.map_map
def zy:= @List.mem_singleton
def zA:= @PySem.Heap.get?_push_size
def zB:= @List.length_append
def zC:= @PySem.wpAny_pure
def zD:= @decide_eq_true
def zE:= @Nat.ne_of_lt
def zF:= @decide_eq_false
def zG:= @List.mem_append_right
def zH:= @Nat.lt_of_lt_of_le
def zI:= @List.mem_append
def zJ:= @Nat.zero_le
def zK:= @List.sum_cons
def zL:= @PySem.F.plainAttrs_list
def zM:= @List.length_cons
def zN:= @Bool.false_ne_true
def zO:= @PySem.PassesOwn.never
def zP:= @List.nodup_cons
def zQ:= @PySem.F.slot_list_append
def zR:= @PySem.F.type_list_append
def zS:= @List.take_add_one
def zT:= @List.pairwise_map
def zU:= @List.take_length
def zV:= @Nat.le_trans
def zW:= @Int.add_zero
def zY:= @Int.emod_lt_of_pos
def zZ:= @List.getElem_of_mem
def z0:= @List.length_take
def z3:= @List.take_of_length_le
def z4:= @PySem.Paired.length
def z5:= @List.getElem?_eq_none
def z6:= @Int.emod_nonneg
def z7:= @List.getElem?_append_right
def z8:= @of_decide_eq_true
def z9:= @List.getElem?_append_left
def ya:= @Nat.lt_irrefl
def yb:= @Array.length_toList
def yc:= @PySem.Heap.get?_update_ne
def yd:= @List.map_congr_left
def ye:= @PySem.wpAny_mono
def yf:= @PySem.wpAny_truthy_bool
def yg:= @PySem.F.plainAttrs_dict
def yh:= @PySem.wpAny_Call_Name_kw
def yi:= @PySem.W.kia_one
def yj:= @List.length_pos_iff
def yk:= @List.length_filter_le
def ym:= @PySem.wpAny_holding
def yn:= @List.append_nil
def yo:= @List.filter_append
def yp:= @Nat.le_succ
def yq:= @List.filter_cons_of_pos
def yr:= @List.filter_cons_of_neg
def yt:= @PySem.Heap.get?_update_other
def yu:= @List.mem_range
def yv:= @List.pairwise_iff_getElem
def yw:= @PySem.F.slot_dict_get
def yx:= @Nat.lt_of_le_of_lt
def yy:= @Nat.le_add_right
def yz:= @List.any_eq_true
def yA:= @Bool.false_eq_true
def yB:= @List.mem_filter
def yC:= @Nat.ne_of_gt
def yD:= @List.length_drop
def yE:= @List.getElem_mem
def yF:= @List.getElem_map
def yG:= @Array.getElem?_toList
def yH:= @List.sum_append
def yI:= @List.mem_append_left
def yJ:= @Nat.pow_le_pow_right
def yK:= @PySem.wpAny_pyIter_list
def yL:= @PySem.call_meetsIn
def yM:= @Option.isSome_iff_exists
def yN:= @List.Pairwise.imp_of_mem
def yO:= @PySem.mem_of_lookup
def yP:= @List.take_append_of_le_length
def yQ:= @PySem.F.entry_dict_get
def yR:= @Bool.eq_iff_iff
def yS:= @List.find?_cons
def yT:= @List.length_nil
def yU:= @List.cons.inj
def yV:= @List.length_singleton
def yW:= @List.take_append_drop
def yX:= @List.nodup_append
def yY:= @List.Sublist.refl
def yZ:= @Sum.inr.inj
def y0:= @List.getElem?_of_mem
def y4:= @PySem.wpAny_tryCatch
def y6:= @List.map_nil
def y8:= @Array.getElem?_eq_getElem
def y9:= @List.sublist_append_left
def zza:= @List.foldl_cons
def zzb:= @List.nil_append
def zzc:= @PySem.wpAny_passesOwn
def zzd:= @PySem.W.callWith_K
def zze:= @List.zip_cons_cons
def zzf:= @PySem.F.slot_dict_items
def zzg:= @List.getElem?_set_self
def zzh:= @PySem.Heap.size_push
def zzi:= @Option.map_eq_some_iff
def zzj:= @List.getElem?_inj
def zzk:= @List.append_assoc
def zzl:= @List.ext_getElem?
def zzm:= @List.drop_of_length_le
def zzn:= @PySem.Heap.get?_update_self
def zzo:= @PySem.F.slot_dict_pop
def zzp:= @PySem.W.methodCall_KW
def zzq:= @List.getElem?_toArray
def zzr:= @Nat.le_of_ble_eq_true
def zzs:= @Nat.lt_succ_self
def zzt:= @List.cons_append
def zzu:= @List.filter_cons
def zzv:= @List.ext_getElem
def zzw:= @List.cons_ne_nil
def zzx:= @PySem.wpAny_call_entry
def zzy:= @PySem.wpAny_newList
def zzz:= @List.getElem?_set_ne
def zzA:= @Option.map_some
def zzB:= @PySem.wpAny_execs_nil
def zzC:= @List.filterMap_cons
def zzD:= @PySem.W.plainGet_of
def zzE:= @List.filter_eq_self
def zzF:= @Nat.lt_trans
def zzG:= @Int.zero_add
def zzH:= @Bool.false_and
def zzI:= @Bool.and_false
def zzJ:= @Array.perm_iff_toList_perm
def zzK:= @List.getD_eq_getElem?_getD
def zzL:= @List.Nodup.sublist
def zzM:= @PySem.wpAny_seqItems
def zzN:= @List.drop_eq_getElem_cons
def zzO:= @Sum.inl.inj
def zzP:= @Int.toNat_natCast
def zzQ:= @Int.le_refl
def zzR:= @Nat.lt_succ_of_lt
def zzS:= @PySem.wpAny_Call_method
def zzT:= @PySem.wpAny_pyIter_slot
def zzU:= @PySem.wpAny_letGo
def zzV:= @Int.add_assoc
def zzW:= @PySem.wpAny_standAt
def zzX:= @List.getElem_inj
def zzY:= @PySem.W.makes_of
def zzZ:= @List.lookup_cons
def zz0:= @PySem.Heap.size_update
def zz1:= @List.length_eq_zero_iff
def zz2:= @PySem.wpAny_eqBool_int
def zz3:= @Nat.le_of_lt
def zz4:= @Nat.le_of_eq
def zz5:= @Int.lt_trans
def zz6:= @PySem.wpAny_call
def zz7:= @PySem.call_meets
def zz8:= @List.of_mem_zip
def zz9:= @PySem.wpAny_specialOf
def yya:= @PySem.wpAny_updateSeq
namespace L2
open PySem PySem.Spec PyProof.Rows
abbrev Key:=Sum Int Str
noncomputable def Us:Key->Value->Bool
 |.inl k,v=>Value.isInt k v
 |.inr x,v=>Value.isStrOf x v
noncomputable def ame(w:World):Key->Int
 |.inl k=>hashInt k
 |.inr x=>hashStr w x
def lG:∀{k:Key}{v:Value},Us k v=true->(∃i t,k=Sum.inl i/\v=Value.int i t)\/(∃x t,k=Sum.inr x/\v=Value.str x t)
 |.inl i,v,h=>by
  obtain⟨t,e⟩:=Value.isInt_shape (k:=i) (v:=v) h;exact .inl ⟨i,t,rfl,e⟩
 |.inr x,v,h=>by
  obtain⟨t,e⟩:=Value.isStrOf_shape (x:=x) (v:=v) h;exact .inr ⟨x,t,rfl,e⟩
def Wu(i:Int)(t:Tok):Us (.inl i) (.int i t)=true:=by simp[Us,Value.isInt]
def Xg(x:Str)(t:Tok):Us (.inr x) (.str x t)=true:=by simp[Us,Value.isStrOf]
def akM(a b:Int):decide ((Sum.inl a:Key)=Sum.inl b)=(a==b):=by
 by_cases e:a=b
 ·subst e;simp
 ·have h:¬(Sum.inl a:Key)=Sum.inl b:=λq=>e (zzO q)
  rw[zF h];exact(beq_eq_false_iff_ne.mpr e).symm
def akQ(a b:Str):decide ((Sum.inr a:Key)=Sum.inr b)=decide (a=b):=by
 by_cases e:a=b
 ·subst e;simp
 ·have h:¬(Sum.inr a:Key)=Sum.inr b:=λq=>e (yZ q)
  rw[zF h,zF e]
def akx(a:Int)(b:Str):decide ((Sum.inl a:Key)=Sum.inr b)=false:=zF (λq=>nomatch q)
def ajG(a:Str)(b:Int):decide ((Sum.inr a:Key)=Sum.inl b)=false:=zF (λq=>nomatch q)
noncomputable def jF(prog:Program)(w:World):PySem.KeyKind prog w Key where
 is:=Us
 hash:=ame w
 inj:=λv a b ha hb=>by
  rcases lG ha with⟨i,t,rfl,rfl⟩|⟨x,t,rfl,rfl⟩
  ·rcases lG hb with⟨j,u,rfl,e⟩|⟨y,u,rfl,e⟩
   ·injection e with e1 _;rw[e1]
   ·exact nomatch e
  ·rcases lG hb with⟨j,u,rfl,e⟩|⟨y,u,rfl,e⟩
   ·exact nomatch e
   ·injection e with e1 _;rw[e1]
 byValue:=λk v h=>by
  rcases lG h with⟨i,t,rfl,rfl⟩|⟨x,t,rfl,rfl⟩<;>rfl
 pyHash:=λhv h=>by
  rcases lG hv with⟨i,t,rfl,rfl⟩|⟨x,t,rfl,rfl⟩
  ·exact wpAny_pyHash_int h
  ·exact wpAny_pyHash_str h
 eqBool:=λhu hv h=>by
  rcases lG hu with⟨i,t,rfl,rfl⟩|⟨x,t,rfl,rfl⟩
  ·rcases lG hv with⟨j,u,rfl,rfl⟩|⟨y,u,rfl,rfl⟩
   ·rw[akM]at h;exact zz2 h
   ·rw[akx]at h;exact SeqAt.EqAt.int_str i t y u _ _ _ _ h
  ·rcases lG hv with⟨j,u,rfl,rfl⟩|⟨y,u,rfl,rfl⟩
   ·rw[ajG]at h;exact SeqAt.EqAt.str_int x t j u _ _ _ _ h
   ·rw[akQ]at h;exact wpAny_eqBool_str h
 «strs»:=λk x t v h=>by
  rcases lG h with⟨i,u,rfl,e⟩|⟨y,u,rfl,e⟩
  ·exact nomatch e
  ·injection e with e1 _
   subst e1;cases v<;>rfl
def Rc(prog:Program)(w:World)(i:Int)(t:Tok):(jF prog w).is (.inl i) (.int i t)=true:=Wu i t
def QV(prog:Program)(w:World)(x:Str)(t:Tok):(jF prog w).is (.inr x) (.str x t)=true:=Xg x t
end L2
namespace L2
open PySem PySem.Spec PyProof.Rows
inductive V where
 |non|bl (b:Bool)|int (i:Int)|str (x:Str)|byt (b:Array UInt8)|flt (b:UInt64)|ref (a:Addr)|ty (n:String)
 deriving DecidableEq
noncomputable def RelV:V->Value->Prop
 |.non,u=>u=Value.none
 |.bl b,u=>u=Value.bool b
 |.int i,u=>∃t,u=Value.int i t
 |.str x,u=>∃t,u=Value.str x t
 |.byt b,u=>∃t,u=Value.bytes b t
 |.flt b,u=>∃t,u=Value.float b t
 |.ref a,u=>u=Value.ref a
 |.ty n,u=>u=Value.type n
abbrev Vals:List V->List Value->Prop:=Paired RelV
theorem Vals.length{xs:List V}{us:List Value}(r:Vals xs us):xs.length=us.length:=z4 r
theorem Vals.get:∀{xs:List V}{us:List Value}{i:Nat}{x:V},Vals xs us->xs[i]? =some x->∃u,us[i]? =some u/\RelV x u
 |_,_,_,_,.nil,e=>by simp at e
 |_,_,0,_,.cons r _,e=>by simp at e;subst e;exact⟨_,rfl,r⟩
 |_,_,i+1,x,.cons _ t,e=>by
  obtain⟨u,h1,h2⟩:=Vals.get (i:=i) (x:=x) t (by simpa using e);exact⟨u,by simpa using h1,h2⟩
theorem Vals.set{x:V}{u:Value}(r:RelV x u):∀{xs:List V}{us:List Value}(i:Nat),Vals xs us->Vals (xs.set i x) (us.set i u)
 |_,_,_,.nil=> .nil
 |_,_,0,.cons _ t=> .cons r t
 |_,_,i+1,.cons q t=> .cons q (Vals.set r i t)
theorem Vals.append:∀{xs ys:List V}{us ws:List Value},Vals xs us->Vals ys ws->Vals (xs++ys) (us++ws)
 |_,_,_,_,.nil,s=>s
 |_,_,_,_,.cons r t,s=> .cons r (Vals.append t s)
theorem Vals.take:∀{xs:List V}{us:List Value}(n:Nat),Vals xs us->Vals (xs.take n) (us.take n)
 |_,_,0,_=> .nil
 |_,_,_+1,.nil=> .nil
 |_,_,n+1,.cons r t=> .cons r (Vals.take n t)
theorem Vals.drop:∀{xs:List V}{us:List Value}(n:Nat),Vals xs us->Vals (xs.drop n) (us.drop n)
 |_,_,0,r=>r
 |_,_,_+1,.nil=> .nil
 |_,_,n+1,.cons _ t=>Vals.drop n t
noncomputable def KH:Option V->Option Value->Prop
 |some v,some u=>RelV v u
 |none,none=>True
 |_,_=>False
noncomputable def KV{κ:Type}:List (κ×V)->List (κ×Value)->Prop:=Paired fun(p:κ×V)(q:κ×Value)=>p.1=q.1/\RelV p.2 q.2
noncomputable def kV:Key->V
 |.inl i=> .int i
 |.inr x=> .str x
inductive HO where
 |lst (xs:List V)
 |tup (xs:List V)
 |dK (kvs:List (Key×V))|dT (kvs:List (List Key×V))
 |set (S:Int->Bool) (n:Nat)
 |ins (C dx:Addr) (fs:List (Str×V))
 |own (x:Addr)
 |xd (fs:List (Str×V))
 |met (f x:Addr)
 |rng (lo hi:Int)
 |frz (o:Obj) (u:HO)
 |tbl (ps:Array Value)
 |ext (φ:Heap->Prop)
abbrev Hp:=Addr->Option HO
noncomputable def upd(H:Hp)(a:Addr)(o:HO):Hp:=λb=>if b=a then some o else H b
def iC{H:Hp}{a:Addr}{o:HO}:upd H a o a=some o:=by unfold upd;rw[zg rfl]
def iQ{H:Hp}{a b:Addr}{o:HO}(h:b≠a):upd H a o b=H b:=by unfold upd;rw[zc h]
def alD{H:Hp}{a b:Addr}{o u:HO}(h:H a=some o)(h':H b=some u)(d:o≠u):a≠b:=by
 intro e;subst e;rw[h]at h';exact d (zw h')
def jE{H:Hp}{a b:Addr}{o:HO}(h:H a=some o)(h':H b=none):a≠b:=by
 intro e;subst e;rw[h]at h';cases h'
section
variable(P:Program)(w:World)
noncomputable def lW(H:Hp)(h:Heap)(a:Addr):HO->Prop
 |.lst xs=>xs.length<=sizeLine/\∃(its:List Value)(n:Nat),Vals xs its/\h.get? a=some {cls:=.type "list",data:=.seq its.toArray n}
 |.tup xs=>xs.length<=sizeLine/\∃its:List Value,Vals xs its/\IsTup h a its.toArray
 |.dK kvs=>kvs.length<=sizeLine/\(a==sysModules)=false/\∃vs,KV kvs vs/\h.DictOf (jF P w) a vs
 | .dT kvs=>kvs.length<=sizeLine/\(a==sysModules)=false/\∃xs:List (List Key×Addr×Value),
   Paired (fun(p:List Key×V)(q:List Key×Addr×Value)=>p.1=q.1/\H q.2.1=some (.tup (p.1.map kV))/\RelV p.2 q.2.2) kvs xs/\
   ∃o es ep,h.get? a=some o/\o.ExactDict/\o.data=.dict es ep/\es.toList=xs.map (entryOfKey (tupleKind (jF P w)))/\(xs.map (·.1)).Nodup
 |.set S n=>h.SetOf (intKind P w) a S n
 | .ins C dx fs=>H dx=some (.own a)/\fs.length<=1000/\dx≠a/\h.get? a=some (PySem.W.instObj C dx)/\
   ∃mA,h.Ns1 dx mA/\(∀f,KH (fs.lookup f) (mA f))/\PySem.Within mA (fs.map (·.1))
 |.own _=>∃o,h.get? a=some o
 |.xd fs=>∃mA,h.Ns1 a mA/\∀f,KH (fs.lookup f) (mA f)
 |.rng lo hi=>∃t u v,h.get? a=some {cls:=.type "range",data:=.fields #[.int lo t,.int hi u,.int 1 v]}
 |.frz o u=>h.get? a=some o/\lW H h a u
 |.tbl ps=>h.get? a=some {cls:=.none,data:=.fields ps}
 |.met f x=>h.get? a=some (PySem.W.methodObj (.ref f) (.ref x))
 |.ext φ=>φ h/\(∃o,h.get? a=some o)/\∀h1 h2:Heap,φ h1->(∀o,h1.get? a=some o->h2.get? a=some o)->φ h2
noncomputable def HOk(H:Hp)(h:Heap):Prop:=∀a o,H a=some o->lW P w H h a o
end
section
variable{P:Program}{w:World}{H H':Hp}{h h':Heap}{a:Addr}{o:HO}
theorem lW.lt(x:lW P w H h a o):a<h.objs.size:=by
 cases o with
 |lst xs=>obtain⟨_,_,_,_,e⟩:=x;exact zr e
 |tup xs=>obtain⟨_,_,_,p⟩:=x;exact p.lt
 |dK kvs=>obtain⟨_,_,_,_,o,_,_,e,_⟩:=x;exact zr e
 |dT kvs=>obtain⟨_,_,_,_,o,_,_,e,_⟩:=x;exact zr e
 |set S n=>obtain⟨o,_,_,_,e,_⟩:=x;exact zr e
 |ins C dx fs=>obtain⟨_,_,_,e,_⟩:=x;exact zr e
 |own y=>obtain⟨_,e⟩:=x;exact zr e
 |xd fs=>obtain⟨_,⟨_,_,_,e,_⟩,_⟩:=x;exact zr e
 |rng lo hi=>obtain⟨_,_,_,e⟩:=x;exact zr e
 |frz ob u=>obtain⟨e,_⟩:=x;exact zr e
 |tbl ps=>exact zr (show h.get? a=some _ from x)
 |met f y=>exact zr (show h.get? a=some _ from x)
 |ext φ=>obtain⟨_,⟨_,e⟩,_⟩:=x;exact zr e
theorem Paired.mapP{α β:Type}{F G:α->β->Prop}:∀{l₁:List α}{l₂:List β},Paired F l₁ l₂->(∀a b,F a b->G a b)->Paired G l₁ l₂
 |_,_,.nil,_=> .nil
 |_,_,.cons r t,f=> .cons (f _ _ r) (Paired.mapP t f)
def lW.stay(x:lW P w H h a o)(k:∀b u,(b=a\/H b=some (.own a))->h.get? b=some u->h'.get? b=some u)
  (ho:∀b,H b=some (.own a)->H' b=some (.own a)) (ht:∀b xs,H b=some (.tup xs)->H' b=some (.tup xs)):lW P w H' h' a o:=by
 induction o with
 |lst xs=>obtain⟨z,its,n,r,e⟩:=x;exact⟨z,its,n,r,k _ _ (.inl rfl) e⟩
 |tup xs=>obtain⟨z,its,r,ob,e,c⟩:=x;exact⟨z,its,r,ob,k _ _ (.inl rfl) e,c⟩
 |dK kvs=>obtain⟨z,y,vs,r,ob,es,ep,e,c⟩:=x;exact⟨z,y,vs,r,ob,es,ep,k _ _ (.inl rfl) e,c⟩
 |dT kvs=>
  obtain⟨z,y,xs,r,ob,es,ep,e,c⟩:=x;exact⟨z,y,xs,Paired.mapP r λp q z=>⟨z.1,ht _ _ z.2.1,z.2.2⟩,ob,es,ep,k _ _ (.inl rfl) e,c⟩
 |set S n=>obtain⟨ob,es,ep,t,e,c⟩:=x;exact⟨ob,es,ep,t,k _ _ (.inl rfl) e,c⟩
 |ins C dx fs=>
  obtain⟨d,z,ne,e,mA,⟨od,es,ep,e2,c⟩,r⟩:=x;exact⟨ho _ d,z,ne,k _ _ (.inl rfl) e,mA,⟨od,es,ep,k _ _ (.inr d) e2,c⟩,r⟩
 |own y=>obtain⟨ob,e⟩:=x;exact⟨ob,k _ _ (.inl rfl) e⟩
 |xd fs=>obtain⟨mA,⟨od,es,ep,e,c⟩,r⟩:=x;exact⟨mA,⟨od,es,ep,k _ _ (.inl rfl) e,c⟩,r⟩
 |rng lo hi=>obtain⟨t,u,v,e⟩:=x;exact⟨t,u,v,k _ _ (.inl rfl) e⟩
 |frz ob u ih=>obtain⟨e,q⟩:=x;exact⟨k _ _ (.inl rfl) e,ih q⟩
 |tbl ps=>
  have e:h.get? a=some {cls:=.none,data:=.fields ps}:=x;show h'.get? a=some {cls:=.none,data:=.fields ps};exact k a _ (.inl rfl) e
 |met f y=>
  have e:h.get? a=some (PySem.W.methodObj (.ref f) (.ref y)):=x;show h'.get? a=some (PySem.W.methodObj (.ref f) (.ref y));exact k a _ (.inl rfl) e
 |ext φ=>obtain⟨p,⟨o,e⟩,st⟩:=x;exact⟨st _ _ p λo q=>k _ _ (.inl rfl) q,⟨o,k _ _ (.inl rfl) e⟩,st⟩
theorem HOk.lt(x:HOk P w H h)(e:H a=some o):a<h.objs.size:=(x a o e).lt
def HOk.fresh(x:HOk P w H h)(e:h.objs.size<=a):H a=none:=by
 cases q:H a with
 |none=>rfl
 |some u=>exact absurd (zH (x.lt q) e) (ya _)
def HOk.kept(x:HOk P w H h)(k:∀b u,h.get? b=some u->h'.get? b=some u):HOk P w H h':=λa o e=>
 (x a o e).stay (λb u _ q=>k b u q) (λ_ q=>q) λ_ _ q=>q
def HOk.laid(x:HOk P w H h)(k:∀b u,h.get? b=some u->h'.get? b=some u)(hp:h.objs.size<=a)(z:lW P w (upd H a o) h' a o):HOk P w (upd H a o) h':=λb u e=>by
 have hn:=x.fresh hp;by_cases hb:b=a
 ·subst hb;rw[iC]at e;cases e;exact z
 ·rw[iQ hb]at e
  exact(x b u e).stay (λc v _ q=>k c v q) (λc q=>by rw[iQ (jE q hn)];exact q) λc xs q=>by rw[iQ (jE q hn)];exact q
end
noncomputable def Rd(H:Hp)(a:Addr)(u:HO):Prop:=H a=some u\/∃o,H a=some (.frz o u)
def Rd.of{H:Hp}{a:Addr}{u:HO}(h:H a=some u):Rd H a u:=.inl h
def Rd.ok{P:Program}{w:World}{H:Hp}{h:Heap}{a:Addr}{u:HO}(r:Rd H a u)(x:HOk P w H h):lW P w H h a u:=by
 rcases r with r|⟨o,r⟩
 ·exact x a u r
 ·obtain⟨_,q⟩:=x a _ r
  exact q
noncomputable def Mut:Option HO->Prop
 |some (.lst _)=>True
 |some (.dK _)=>True
 |some (.dT _)=>True
 |some (.set _ _)=>True
 |some (.ins _ _ _)=>True
 |some (.ext _)=>True
 |_=>False
section
variable{P:Program}{w:World}{H:Hp}{h h':Heap}{x e:Addr}{o':HO}
def HOk.write(ok:HOk P w H h)(mu:Mut (H x))(he:e=x\/H e=some (.own x))(k:∀b u,b≠e->h.get? b=some u->h'.get? b=some u)(ad:∃u,h'.get? e=some u)
  (ae:lW P w (upd H x o') h' x o'):HOk P w (upd H x o') h':=λb u q=>by
 have ab:∀c y,H c=some (.own y)->c≠x:=λc y r z=>by subst z;rw[r]at mu;exact mu
 have ac:∀c xs,H c=some (.tup xs)->c≠x:=λc xs r z=>by subst z;rw[r]at mu;exact mu
 by_cases hb:b=x
 ·subst hb;rw[iC]at q;cases q;exact ae
 ·rw[iQ hb]at q
  by_cases aa:b=e
  ·have q':H b=some (.own x):=by
    rcases he with z|z
    ·exact absurd (aa.trans z) hb
    ·rw[aa];exact z
   rw[q]at q';cases q';obtain⟨v,hv⟩:=ad;exact⟨v,by rw[aa];exact hv⟩
  ·refine(ok b u q).stay (λc v hc r=>k c v ?_ r) (λc r=>by rw[iQ (ab c b r)];exact r) λc xs r=>by rw[iQ (ac c xs r)];exact r
   rcases hc with rfl|hc
   ·exact aa
   ·rintro rfl
    rcases he with z|z
    ·exact ab c b hc z
    ·rw[hc]at z;cases z;exact hb rfl
end
structure Un(fs ex:List Addr)(H H':Hp)(h h':Heap):Prop where
 keep:∀b o,h.get? b=some o->H b=none->b∉fs->b∉ex->h'.get? b=some o
 slot:∀b o,h.get? b=some o->H b=none->b∈fs->b∉ex->∃sl,h'.get? b=some {o with slots:=sl}
 free:∀b o,h.get? b=some o->H b=none->b∉ex->H' b=none
 there:∀b o,h.get? b=some o->b∉ex->∃o',h'.get? b=some o'
 tups:∀b xs,H b=some (.tup xs)->H' b=some (.tup xs)
 frzs:∀b o u,H b=some (.frz o u)->H' b=some (.frz o u)
 tbls:∀b ps,H b=some (.tbl ps)->∃more,H' b=some (.tbl (ps++more))
section
variable{fs fs' ex ex':List Addr}{H H1 H2:Hp}{h h1 h2 h':Heap}{a x e:Addr}{o:HO}
def Un.any(u:Un fs ex H H1 h h1){b:Addr}{z:Obj}(q:h.get? b=some z)(n:H b=none)(hx:b∉ex):∃sl,h1.get? b=some {z with slots:=sl}:=by
 by_cases hb:b∈fs
 ·exact u.slot b z q n hb hx
 ·exact⟨z.slots,u.keep b z q n hb hx⟩
def Un.trans(a:Un fs ex H H1 h h1)(b:Un fs ex H1 H2 h1 h2):Un fs ex H H2 h h2 where
 keep:=λc z q n hc hx=>b.keep c z (a.keep c z q n hc hx) (a.free c z q n hx) hc hx
 slot:=λc z q n hc hx=>by
  obtain⟨sl,e1⟩:=a.slot c z q n hc hx;obtain⟨aa,e2⟩:=b.slot c _ e1 (a.free c z q n hx) hc hx;exact⟨aa,e2⟩
 free:=λc z q n hx=>by
  obtain⟨o',e1⟩:=a.there c z q hx;exact b.free c o' e1 (a.free c z q n hx) hx
 there:=λc z q hx=>by
  obtain⟨o',e1⟩:=a.there c z q hx;exact b.there c o' e1 hx
 tups:=λc xs q=>b.tups c xs (a.tups c xs q)
 frzs:=λc z xs q=>b.frzs c z xs (a.frzs c z xs q)
 tbls:=λc ps q=>by
  obtain⟨m1,e1⟩:=a.tbls c ps q;obtain⟨m2,e2⟩:=b.tbls c _ e1;exact⟨m1++m2,by rw[e2,Array.append_assoc]⟩
def Un.kept(k:∀b u,h.get? b=some u->h'.get? b=some u):Un fs ex H H h h':=
 ⟨λb z q _ _ _=>k b z q,λb z q _ _ _=>⟨z.slots,k b z q⟩,λ_ _ _ n _=>n,λb z q _=>⟨z,k b z q⟩,λ_ _ q=>q,λ_ _ _ q=>q,λ_ ps q=>⟨#[],by rw[q];simp⟩⟩
def Un.refl:Un fs ex H H h h:=Un.kept λ_ _ q=>q
def Un.laid(k:∀b u,h.get? b=some u->h'.get? b=some u)(z:h.objs.size<=a)(hn:H a=none):Un fs ex H (upd H a o) h h' where
 keep:=λb u q _ _ _=>k b u q
 slot:=λb u q _ _ _=>⟨u.slots,k b u q⟩
 free:=λb u q n _=>by rw[iQ (zE (zH (zr q) z))];exact n
 there:=λb u q _=>⟨u,k b u q⟩
 tups:=λb xs q=>by rw[iQ (jE q hn)];exact q
 frzs:=λb u xs q=>by rw[iQ (jE q hn)];exact q
 tbls:=λb ps q=>⟨#[],by rw[iQ (jE q hn),q];simp⟩
def Un.write(mu:Mut (H x))(he:e=x\/H e=some (.own x))(k:∀b u,b≠e->h.get? b=some u->h'.get? b=some u)(ab:∃u,h'.get? e=some u):Un fs ex H (upd H x o) h h':=by
 have hx:∀b,H b=none->b≠x:=λb n z=>by subst z;rw[n]at mu;exact mu
 have hb:∀b,H b=none->b≠e:=λb n z=>by
  subst z;rcases he with r|r
  ·exact hx b n r
  ·rw[n]at r;cases r
 have hm:∀b u,H b=some u->¬Mut (some u)->b≠x:=λb u q nm z=>by subst z;rw[q]at mu;exact nm mu
 refine ⟨λb u q n _ _=>k b u (hb b n) q,λb u q n _ _=>⟨u.slots,k b u (hb b n) q⟩,λb u q n _=>by rw[iQ (hx b n)];exact n,λb u q _=>?_,
  λb xs q=>by rw[iQ (hm b _ q λz=>z)];exact q,λb u xs q=>by rw[iQ (hm b _ q λz=>z)];exact q,λb ps q=>⟨#[],by rw[iQ (hm b _ q λz=>z),q];simp⟩⟩
 by_cases aa:b=e
 ·subst aa;exact ab
 ·exact⟨u,k b u aa q⟩
end
noncomputable def trk(h:Heap)(H:Hp):List Addr:=(List.range h.objs.size).filter λa=>(H a).isSome
noncomputable def aac(h:Heap)(H:Hp):Heap:=PySem.W.hideAll h (trk h H)
def Xf(h:Heap)(H:Hp):(aac h H).objs.size=h.objs.size:=PySem.W.hideAll_size _ _
def Zk{h:Heap}{H:Hp}{b:Addr}{o:Obj}(e:h.get? b=some o)(n:H b=none):(aac h H).get? b=some o:=
 PySem.W.hideAll_get _ e λhm=>by
  have q:(H b).isSome=true:=(yB.mp hm).2;rw[n]at q;simp at q
def aiq{h:Heap}{H:Hp}{b:Addr}{o:Obj}(e:(aac h H).get? b=some o):h.get? b=some o/\H b=none:=by
 have e':h.get? b=some o:=PySem.W.of_hideAll (trk h H) e;refine⟨e',?_⟩
 cases q:H b with
 |none=>rfl
 |some x=>
  have hm:b∈trk h H:=yB.mpr ⟨yu.mpr (zr e'),by simp[q]⟩;have z:(aac h H).get? b=none:=PySem.W.hideAll_none (trk h H) hm;rw[z]at e;cases e
noncomputable def ajc(g h:Heap)(L:Addr):List (Addr×Obj):=(List.range h.objs.size).filterMap λa=>if a=L\/(g.get? a).isSome=true then none else(h.get? a).map λo=>(a,o)
noncomputable def rest(g h:Heap)(L d:Addr):List (Addr×Obj):=(ajc g h L).filter λp=>decide (p.1≠d)
end L2
namespace L2
open PySem PySem.Spec PyProof.Rows
structure Mod(K:Fg_)(mg:Str->Option Value)(base:Heap):Prop where
 kin:K.In base
 glob:base.Ns mainGlobals mg
 blt:∃mb,base.Ns builtinsNs mb/\∀x:Str,x≠ "__name__" ->mb x=bootBuiltins x
 nolimit:base.NoLimit
structure Cx where
 prog:Program
 w:World
 K:Fg_
 mg:Str->Option Value
 base:Heap
 A:Around
 N:List Str
 s₀:Shared
 H₀:Hp
 env:Env
 outer:List Env
 stack:List Env
 ex:List Addr
 fn:Str->Bool
 calm:Bool
 pn:List (Addr×Obj)
 xe:Value->Shared->Prop
noncomputable def frs(l:List Env):List Addr:=l.filterMap (·.frame)
abbrev Cx.fs(X:Cx):List Addr:=frs X.outer
noncomputable def Vis(sc:Scope)(x:Str):Prop:=sc.names.lookup x=some .local\/sc.names.lookup x=some .cell\/sc.names.lookup x=some .free
noncomputable def Loc(sc:Scope)(x:Str):Prop:=sc.names.lookup x=some .local\/sc.names.lookup x=some .cell
noncomputable def Look(env:Env)(h:Heap)(m:Str->Option Value)(x:Str)(u:Value):Prop:=
 (env.kindOf x=some .local/\m x=some u)\/((env.kindOf x=some .cell\/env.kindOf x=some .free)/\∃c,env.cells.lookup x=some c/\h.IsCell c (some u))
structure Cx.Ok(X:Cx):Prop where
 mod:Mod X.K X.mg X.base
 kind:X.env.scope.kind=.function
 glob:X.env.globals=mainGlobals
 blt:X.env.builtins=builtinsNs
 above:X.s₀.heap.objs.size<=X.env.locals
 inj:∀x y c,X.env.cells.lookup x=some c->X.env.cells.lookup y=some c->x=y
 has:∀x,(X.env.kindOf x=some .cell\/X.env.kindOf x=some .free)->∃c,X.env.cells.lookup x=some c
 cab:∀x c,X.fn x=true->X.env.cells.lookup x=some c->X.s₀.heap.objs.size<=c
 hd:X.calm=true->X.A.handled=none
 frames:X.A.frames=some X.stack
 stk:X.stack=X.outer\/(X.stack=X.env::X.outer/\X.env.frame=some X.env.locals)
 exf:∀b∈X.ex,b≠X.env.locals/\∀x c,X.env.cells.lookup x=some c->c≠b
 bs:∀b o,X.base.get? b=some o->X.s₀.heap.get? b=some o/\X.H₀ b=none
 bsz:X.base.objs.size<=X.s₀.heap.objs.size
 noex:∀b o,X.base.get? b=some o->b∉X.ex
 exfs:∀b∈X.ex,b∉X.fs
 funs:X.s₀.heap.FunFrames X.base X.outer
 frf:∀b∈X.fs,X.H₀ b=none
structure Inv(X:Cx)(pins:List (Addr×Obj))(σ:List (Option V))(H:Hp)(s:Shared):Prop where
 ok:X.Ok
 os:s.os=X.s₀.os
 bare:AllBare s.gens
 base:Un X.fs X.ex X.H₀ H X.s₀.heap s.heap
 loc:∃m,s.heap.Ns X.env.locals m/\∀(i:Nat)(x:Str)(v:V),X.N[i]? =some x->σ[i]? =some (some v)->Vis X.env.scope x->∃u,RelV v u/\Look X.env s.heap m x u
 cell:∀x c,X.env.cells.lookup x=some c->∃v,s.heap.IsCell c v
 free:H X.env.locals=none
 freeC:∀x c,X.env.cells.lookup x=some c->H c=none
 pin:∀p∈X.pn++pins,s.heap.get? p.1=some p.2/\H p.1=none/\p.1≠X.env.locals/\p.1∉X.fs/\∀v,p.2.data≠.cell v
 hok:HOk X.prog X.w H s.heap
 len:σ.length=X.N.length
section
variable{X:Cx}{pins:List (Addr×Obj)}{σ:List (Option V)}{H H':Hp}{s:Shared}{h':Heap}
def Cx.Ok.nofr(ok:X.Ok){b:Addr}{o:Obj}(e:X.base.get? b=some o):b∉X.fs:=λq=>by
 have:=(ok.funs.mem q).1;rw[e]at this;cases this
theorem Inv.bs(I:Inv X pins σ H s):∀b o,X.base.get? b=some o->s.heap.get? b=some o/\H b=none:=λb o e=>
 ⟨I.base.keep b o (I.ok.bs b o e).1 (I.ok.bs b o e).2 (I.ok.nofr e) (I.ok.noex b o e),I.base.free b o (I.ok.bs b o e).1 (I.ok.bs b o e).2 (I.ok.noex b o e)⟩
def Inv.bk(I:Inv X pins σ H s):∀b o,X.base.get? b=some o->s.heap.get? b=some o:=λb o e=>(I.bs b o e).1
theorem Inv.mod(I:Inv X pins σ H s):Mod X.K X.mg X.base:=I.ok.mod
def Inv.kIn(I:Inv X pins σ H s):X.K.In s.heap:=I.ok.mod.kin.keeps I.bk
theorem Inv.lt(I:Inv X pins σ H s):X.env.locals<s.heap.objs.size:=let⟨_,hn,_⟩:=I.loc;hn.lt
def Inv.sz(I:Inv X pins σ H s):X.s₀.heap.objs.size<=s.heap.objs.size:=zV I.ok.above (zz3 I.lt)
def Inv.nofs(I:Inv X pins σ H s){a:Addr}(h:s.heap.objs.size<=a):a∉X.fs:=λz=>by
 obtain⟨_,o,q,_⟩:=I.ok.funs.mem z;exact absurd (zH (zr q) (zV I.sz h)) (ya _)
def Inv.cne(I:Inv X pins σ H s):∀x c,X.env.cells.lookup x=some c->c≠X.env.locals:=λx c e z=>by
 obtain⟨v,o,ho,hd⟩:=I.cell x c e;obtain⟨m,⟨o',es,ep,q,aa,_⟩,_⟩:=I.loc;rw[z,q]at ho;cases ho;rw[aa]at hd;cases hd
theorem Inv.funs(I:Inv X pins σ H s):s.heap.FunFrames X.base X.outer:=by
 have aa:∀(l:List Env),(∀b∈frs l,b∈X.fs)->X.s₀.heap.FunFrames X.base l->s.heap.FunFrames X.base l:=by
  intro l
  induction l with
  |nil=>intro _ _;trivial
  |cons env r ih=>
   intro hs hl;obtain⟨hk,⟨L,o,hf,hn,ho,hd⟩,hr⟩:=hl;have q:L∈X.fs:=hs L (by unfold frs;rw[zzC,hf];exact zk);obtain⟨sl,e⟩:=I.base.slot L o ho (I.ok.frf L q) q λz=>I.ok.exfs L z q;exact⟨hk,⟨L,_,hf,hn,e,hd⟩,ih (λb hb=>hs b (by unfold frs;rw[zzC,hf];exact zt _ hb)) hr⟩
 exact aa X.outer (λ_ hb=>hb) I.ok.funs
theorem Inv.stack(I:Inv X pins σ H s):s.heap.FunFrames X.base X.stack:=by
 rcases I.ok.stk with e|⟨e,q⟩
 ·rw[e];exact I.funs
 ·rw[e]
  obtain⟨m,hn,_⟩:=I.loc;refine .cons (by rw[I.ok.kind];decide) q hn ?_ I.funs;exact Heap.get?_none_of_le (zV I.ok.bsz I.ok.above)
def Inv.stkSub(I:Inv X pins σ H s):∀b∈frs X.stack,b∈X.env.locals::X.fs:=λb q=>by
 rcases I.ok.stk with e|⟨e,z⟩
 ·rw[e]at q;exact zt _ q
 ·rw[e]at q
  unfold frs at q;rw[zzC,z]at q;exact q
def Inv.stkFree(I:Inv X pins σ H s):∀b∈frs X.stack,H b=none:=λb q=>by
 rcases zv.mp (I.stkSub b q)with e|q
 ·rw[e];exact I.free
 ·obtain⟨_,o,ho,_⟩:=I.ok.funs.mem q
  exact I.base.free b o ho (I.ok.frf b q) λz=>I.ok.exfs b z q
def Inv.step{g':Array GenState}{t':Nat}{d':Drawn}{ch:List Addr}(I:Inv X pins σ H s)
  (ab:∀b∈ch,(b∈X.ex\/X.s₀.heap.objs.size<=b)/\b≠X.env.locals/\(∀x c,X.env.cells.lookup x=some c->c≠b)/\∀p∈X.pn++pins,p.1≠b)
  (keep:∀b o,b≠X.env.locals->b∉X.fs->b∉ch->s.heap.get? b=some o->H b=none->h'.get? b=some o)
  (slot:∀b o,b≠X.env.locals->b∈X.fs->b∉ch->s.heap.get? b=some o->H b=none->∃sl,h'.get? b=some {o with slots:=sl}) (free:∀b o,b∉ch->s.heap.get? b=some o->H b=none->H' b=none)
  (there:∀b o,b∉ch->s.heap.get? b=some o->∃o',h'.get? b=some o')
  (tups:∀b xs,H b=some (.tup xs)->H' b=some (.tup xs)) (frzs:∀b o u,H b=some (.frz o u)->H' b=some (.frz o u)) (tbls:∀b ps,H b=some (.tbl ps)->∃af,H' b=some (.tbl (ps++af)))
  (ns:∀m,s.heap.Ns X.env.locals m->h'.Ns X.env.locals m) (hok:HOk X.prog X.w H' h') (hg:AllBare g'):
  Inv X pins σ H' {s with heap:=h',gens:=g',drawn:=d',toks:=t'}:=by
 have ae:∀b o,X.s₀.heap.get? b=some o->b≠X.env.locals:=λb o e=>zE (zH (zr e) I.ok.above)
 have ad:∀b o,X.s₀.heap.get? b=some o->b∉X.ex->b∉ch:=λb o e hx hb=>by
  rcases(ab b hb).1 with z|z
  ·exact hx z
  ·exact absurd (zH (zr e) z) (ya _)
 have aa:∀x c,X.env.cells.lookup x=some c->∀v,s.heap.IsCell c v->h'.IsCell c v:=λx c e v ⟨o,ho,hd⟩=>by
  have ac:c∉ch:=λz=>(ab c z).2.2.1 x c e rfl;by_cases hc:c∈X.fs
  ·obtain⟨sl,q⟩:=slot c o (I.cne x c e) hc ac ho (I.freeC x c e)
   exact⟨_,q,hd⟩
  ·exact⟨o,keep c o (I.cne x c e) hc ac ho (I.freeC x c e),hd⟩
 refine⟨I.ok,I.os,hg,⟨λb o e n hb hx=>?_,λb o e n hb hx=>?_,λb o e n hx=>?_,λb o e hx=>?_,λb xs e=>tups b xs (I.base.tups b xs e),λb o xs e=>frzs b o xs (I.base.frzs b o xs e),λb ps e=>?_⟩,?_,λx c e=>?_,?_,λx c e=>?_,λp hp=>?_,hok,I.len⟩
 ·exact keep b o (ae b o e) hb (ad b o e hx) (I.base.keep b o e n hb hx) (I.base.free b o e n hx)
 ·obtain⟨sl,e1⟩:=I.base.slot b o e n hb hx
  obtain⟨ag,e2⟩:=slot b _ (ae b o e) hb (ad b o e hx) e1 (I.base.free b o e n hx);exact⟨ag,e2⟩
 ·obtain⟨o',e1⟩:=I.base.there b o e hx
  exact free b o' (ad b o e hx) e1 (I.base.free b o e n hx)
 ·obtain⟨o',e1⟩:=I.base.there b o e hx
  exact there b o' (ad b o e hx) e1
 ·obtain⟨m1,e1⟩:=I.base.tbls b ps e
  obtain⟨m2,e2⟩:=tbls b _ e1;exact⟨m1++m2,by rw[e2,Array.append_assoc]⟩
 ·obtain⟨m,hn,hl⟩:=I.loc
  refine⟨m,ns m hn,λi x v e1 e2 e3=>?_⟩;obtain⟨u,r,l⟩:=hl i x v e1 e2 e3;refine⟨u,r,?_⟩;rcases l with l|⟨k,c,e,z⟩
  ·exact .inl l
  ·exact .inr ⟨k,c,e,aa x c e _ z⟩
 ·obtain⟨v,z⟩:=I.cell x c e
  exact⟨v,aa x c e v z⟩
 ·obtain⟨m,⟨o,_,_,ho,_⟩,_⟩:=I.loc
  exact free _ o (λz=>(ab _ z).2.1 rfl) ho I.free
 ·obtain⟨v,o,ho,hd⟩:=I.cell x c e
  exact free c o (λz=>(ab c z).2.2.1 x c e rfl) ho (I.freeC x c e)
 ·obtain⟨e,n,ne,nf,d⟩:=I.pin p hp
  have ac:p.1∉ch:=λz=>(ab p.1 z).2.2.2 p hp rfl;exact⟨keep p.1 p.2 ne nf ac e n,free p.1 p.2 ac e n,ne,nf,d⟩
def Inv.un{t':Nat}(I:Inv X pins σ H s)(u:Un X.fs [] H H' s.heap h')(hok:HOk X.prog X.w H' h'):Inv X pins σ H' {s with heap:=h',toks:=t'}:=by
 obtain⟨m,⟨o,es,ep,ho,r⟩,_⟩:=id I.loc;obtain⟨sl,hL⟩:=u.any ho I.free (by simp)
 exact I.step (g':=s.gens) (d':=s.drawn) (ch:=[]) (λ_ z=>nomatch z) (λb o _ hb _ e n=>u.keep b o e n hb (by simp)) (λb o _ hb _ e n=>u.slot b o e n hb (by simp)) (λb o _ e n=>u.free b o e n (by simp)) (λb o _ e=>u.there b o e (by simp)) u.tups u.frzs u.tbls (λm' hm=>by
  obtain⟨o',ab,aa,q,r'⟩:=hm;rw[ho]at q;cases q;exact⟨_,ab,aa,hL,r'⟩) hok I.bare
def Inv.call{g':Array GenState}{t':Nat}{d':Drawn}{ch:List Addr}(I:Inv X pins σ H s)(u:Un (frs X.stack) ch H H' s.heap h')(hok:HOk X.prog X.w H' h')(hg:AllBare g')
  (ab:∀b∈ch,(b∈X.ex\/X.s₀.heap.objs.size<=b)/\b≠X.env.locals/\(∀x c,X.env.cells.lookup x=some c->c≠b)/\∀p∈X.pn++pins,p.1≠b):
  Inv X pins σ H' {s with heap:=h',gens:=g',drawn:=d',toks:=t'}:=by
 obtain⟨m,⟨o,es,ep,ho,r⟩,_⟩:=id I.loc;obtain⟨sl,hL⟩:=u.any ho I.free λz=>(ab _ z).2.1 rfl
 exact I.step (ch:=ch) ab (λb o hL hb q e n=>u.keep b o e n (λz=>(zv.mp (I.stkSub b z)).elim hL hb) q) (λb o _ _ q e n=>u.any e n q) (λb o q e n=>u.free b o e n q) (λb o q e=>u.there b o e q) u.tups u.frzs u.tbls (λm' hm=>by
  obtain⟨o',ad,ac,aa,r'⟩:=hm;rw[ho]at aa;cases aa;exact⟨_,ad,ac,hL,r'⟩) hok hg
def Inv.turned{t':Nat}{it:Addr}(I:Inv X pins σ H s)(k:∀b o,b≠it->s.heap.get? b=some o->h'.get? b=some o)(hn:H it=none)(hL:it≠X.env.locals)
  (h1:it∈X.ex\/X.s₀.heap.objs.size<=it) (h2:∀x c,X.env.cells.lookup x=some c->c≠it) (h3:∀p∈X.pn++pins,p.1≠it):Inv X pins σ H {s with heap:=h',toks:=t'}:=by
 have aa:∀b u,H b=some u->b≠it:=λb u e z=>by rw[z,hn]at e;cases e
 refine I.step (g':=s.gens) (d':=s.drawn) (ch:=[it]) (λb hb=>?_) (λb o _ _ hc e _=>k b o (λz=>hc (by simp[z])) e) (λb o _ _ hc e _=>⟨o.slots,k b o (λz=>hc (by simp[z])) e⟩) (λ_ _ _ _ n=>n)
  (λb o hc e=>⟨o,k b o (λz=>hc (by simp[z])) e⟩) (λ_ _ e=>e) (λ_ _ _ e=>e) (λb ps e=>⟨#[],by rw[e];simp⟩) (λm hm=>?_) (λb u e=>?_) I.bare
 ·have e:b=it:=by simpa using hb
  subst e;exact⟨h1,hL,h2,h3⟩
 ·obtain⟨o,es,ep,ho,r⟩:=hm
  exact⟨o,es,ep,k _ o (Ne.symm hL) ho,r⟩
 ·refine(I.hok b u e).stay (λc v hc q=>k c v ?_ q) (λ_ q=>q) λ_ _ q=>q
  rcases hc with z|z
  ·rw[z];exact aa b u e
  ·exact aa c _ z
def Inv.tok(I:Inv X pins σ H s)(t:Nat):Inv X pins σ H {s with toks:=t}:=I.un (h':=s.heap) (t':=t) Un.refl I.hok
theorem Inv.kept{t':Nat}(I:Inv X pins σ H s)(k:∀b u,s.heap.get? b=some u->h'.get? b=some u):Inv X pins σ H {s with heap:=h',toks:=t'}:=I.un (Un.kept k) (I.hok.kept k)
theorem Inv.laid{a:Addr}{o:HO}{t':Nat}(I:Inv X pins σ H s)(k:∀b u,s.heap.get? b=some u->h'.get? b=some u)(z:s.heap.objs.size<=a)(q:lW X.prog X.w (upd H a o) h' a o):
  Inv X pins σ (upd H a o) {s with heap:=h',toks:=t'}:=I.un (Un.laid k z (I.hok.fresh z)) (I.hok.laid k z q)
theorem Inv.write{x e:Addr}{o:HO}{t':Nat}(I:Inv X pins σ H s)(mu:Mut (H x))(he:e=x\/H e=some (.own x))(k:∀b u,b≠e->s.heap.get? b=some u->h'.get? b=some u)(q:∃u,h'.get? e=some u)
  (z:lW X.prog X.w (upd H x o) h' x o):Inv X pins σ (upd H x o) {s with heap:=h',toks:=t'}:=I.un (Un.write mu he k q) (I.hok.write mu he k q z)
def Inv.pins_of{q:List (Addr×Obj)}(I:Inv X pins σ H s)(h:∀p∈q,s.heap.get? p.1=some p.2/\H p.1=none/\p.1≠X.env.locals/\p.1∉X.fs/\∀v,p.2.data≠.cell v):Inv X q σ H s:=
 ⟨I.ok,I.os,I.bare,I.base,I.loc,I.cell,I.free,I.freeC,λp hp=>(zI.mp hp).elim (λz=>I.pin p (yI _ z)) (h p),I.hok,I.len⟩
def Ub{N:List Str}(hN:N.Nodup){i j:Nat}{x:Str}(a:N[i]? =some x)(b:N[j]? =some x):i=j:=by
 obtain⟨h1,q⟩:=zp.mp a;obtain⟨h2,z⟩:=zp.mp b;exact(zzX hN).mp (q.trans z.symm)
def Qe{M:Model}{A:Around}{E:Value->Shared->Prop}{i:Nat}{x:Str}{v:V}{u:Value}{Q:Unit->Shared->Prop}(I:Inv X pins σ H s)(hN:X.N.Nodup)(hi:X.N[i]? =some x)(hx:Loc X.env.scope x)(r:RelV v u)
  (h:∀s',Inv X pins (σ.set i (some v)) H s'->(∃a,Heap.SameBut a s.heap s'.heap/\(a=X.env.locals\/X.env.cells.lookup x=some a))->Q () s') (hf:X.fn x=true\/X.env.scope.names.lookup x=some .local:=by walk_at "p"):wpAny M A (storeName X.env x u) Q E s:=by
 obtain⟨m,hn,hl⟩:=id I.loc;have ah:(X.env.scope.kind==.class||(X.env.scope.kind==.module && X.env.locals !=X.env.globals))=false:=by rw[I.ok.kind];rfl
 have af:i<σ.length:=by rw[I.len];exact(zp.mp hi).1
 have ad:=I.cne
 have aa:∀{a:Addr}{h':Heap},(∃o,s.heap.get? a=some o/\H a=none)->Heap.SameBut a s.heap h'->HOk X.prog X.w H h':=fun{a h'} ha hs b ob e=>by
  obtain⟨_,_,ab⟩:=ha;refine(I.hok b ob e).stay (λc w' hc q=>(hs.2 c ?_).trans q) (λ_ q=>q) λ_ _ q=>q;rintro rfl;rcases hc with rfl|hc
  ·rw[ab]at e;cases e
  ·rw[ab]at hc;cases hc
 rcases hx with hk|hk
 ·refine wpAny_storeName_local hk hn (λh' ak hs=>?_) ah
  obtain⟨oL,_,_,al,_⟩:=id hn;refine h _ ⟨I.ok,I.os,I.bare,⟨λb o e n hb hx=>?_,λb o e n hb hx=>?_,I.base.free,λb o e hx=>?_,I.base.tups,I.base.frzs,I.base.tbls⟩,⟨_,ak,λj y v' e1 e2 e3=>?_⟩,λy c e=>?_,I.free,I.freeC,λp hp=>?_,aa ⟨oL,al,I.free⟩ hs,by simpa using I.len⟩ ⟨_,hs,.inl rfl⟩
  ·exact(hs.2 b (zE (zH (zr e) I.ok.above))).trans (I.base.keep b o e n hb hx)
  ·obtain⟨sl,e1⟩:=I.base.slot b o e n hb hx
   exact⟨sl,(hs.2 b (zE (zH (zr e) I.ok.above))).trans e1⟩
  ·obtain⟨o',e1⟩:=I.base.there b o e hx
   exact⟨o',(hs.2 b (zE (zH (zr e) I.ok.above))).trans e1⟩
  ·by_cases hj:j=i
   ·subst hj
    rw[hi]at e1;cases e1;rw[zzg af]at e2;cases e2;exact⟨u,r,.inl ⟨hk,by simp⟩⟩
   ·rw[zzz (Ne.symm hj)]at e2
    obtain⟨u',r',q⟩:=hl j y v' e1 e2 e3;refine⟨u',r',?_⟩;rcases q with⟨k,e⟩|⟨k,c,e,z⟩
    ·refine .inl ⟨k,?_⟩
     have:y≠x:=λe=>hj (Ub hN e1 (e▸hi));simp[this,e]
    ·exact .inr ⟨k,c,e,z.sameBut hs (ad y c e)⟩
  ·obtain⟨w',z⟩:=I.cell y c e
   exact⟨w',z.sameBut hs (ad y c e)⟩
  ·obtain⟨e,n,ne,nf,d⟩:=I.pin p hp
   exact⟨(hs.2 p.1 ne).trans e,n,ne,nf,d⟩
 ·have ac:X.fn x=true:=by
   rcases hf with z|z
   ·exact z
   ·rw[z]at hk;cases hk
  obtain⟨c,hc⟩:=I.ok.has x (.inl hk);obtain⟨w',z⟩:=I.cell x c hc;refine wpAny_storeName_cell I.ok.kind hk hc z (λh' ai hs=>?_);obtain⟨oc,aj,ae⟩:=id z;refine h {s with heap:=h'} ⟨I.ok,I.os,I.bare,⟨λb o e n hb hx=>?_,λb o e n hb hx=>?_,I.base.free,λb o e hx=>?_,I.base.tups,I.base.frzs,I.base.tbls⟩,⟨m,hn.sameBut hs (Ne.symm (ad x c hc)),λj y v' e1 e2 e3=>?_⟩,λy c' e=>?_,I.free,I.freeC,λp hp=>?_,aa ⟨oc,aj,I.freeC x c hc⟩ hs,by simpa using I.len⟩ ⟨c,hs,.inr hc⟩
  ·exact(hs.2 b (zE (zH (zr e) (I.ok.cab x c ac hc)))).trans (I.base.keep b o e n hb hx)
  ·obtain⟨sl,e1⟩:=I.base.slot b o e n hb hx
   exact⟨sl,(hs.2 b (zE (zH (zr e) (I.ok.cab x c ac hc)))).trans e1⟩
  ·obtain⟨o',e1⟩:=I.base.there b o e hx
   exact⟨o',(hs.2 b (zE (zH (zr e) (I.ok.cab x c ac hc)))).trans e1⟩
  ·by_cases hj:j=i
   ·subst hj
    rw[hi]at e1;cases e1;rw[zzg af]at e2;cases e2;exact⟨u,r,.inr ⟨.inl hk,c,hc,ai⟩⟩
   ·rw[zzz (Ne.symm hj)]at e2
    obtain⟨u',r',q⟩:=hl j y v' e1 e2 e3;refine⟨u',r',?_⟩;rcases q with q|⟨k,c',e,z'⟩
    ·exact .inl q
    ·refine .inr ⟨k,c',e,z'.sameBut hs ?_⟩
     rintro rfl;exact hj (Ub hN e1 (I.ok.inj _ _ _ e hc▸hi))
  ·by_cases ag:c'=c
   ·subst ag;exact⟨_,ai⟩
   ·obtain⟨w2,z2⟩:=I.cell y c' e
    exact⟨w2,z2.sameBut hs ag⟩
  ·obtain⟨e,n,ne,nf,d⟩:=I.pin p hp
   refine⟨(hs.2 p.1 ?_).trans e,n,ne,nf,d⟩;intro q;rw[q,aj]at e;have q':oc=p.2:=zw e;exact d w' (by rw[<-q'];exact ae)
def Ti{M:Model}{A:Around}{E:Value->Shared->Prop}{i:Nat}{x:Str}{v:V}{u:Value}{Q:Unit->Shared->Prop}(I:Inv X pins σ H s)(q:X.N.Nodup)(hi:X.N[i]? =some x)(z:Loc X.env.scope x)(r:RelV v u)
  (h:∀s',Inv X pins (σ.set i (some v)) H s'->Q () s') (hf:X.fn x=true\/X.env.scope.names.lookup x=some .local:=by walk_at "p"):wpAny M A (storeName X.env x u) Q E s:=
 Qe I q hi z r (λs' I' _=>h s' I') hf
def Inv.call'{s':Shared}{ch:List Addr}(I:Inv X pins σ H s)(z:s'.os=s.os)(u:Un (frs X.stack) ch H H' s.heap s'.heap)(hok:HOk X.prog X.w H' s'.heap)(hg:AllBare s'.gens)
  (q:∀b∈ch,(b∈X.ex\/X.s₀.heap.objs.size<=b)/\b≠X.env.locals/\(∀x c,X.env.cells.lookup x=some c->c≠b)/\∀p∈X.pn++pins,p.1≠b):Inv X pins σ H' s':=by
 obtain⟨h',g',d',t',o'⟩:=s';have e:o'=s.os:=z;subst e;exact I.call (g':=g') (t':=t') (d':=d') u hok hg q
end
abbrev XK:=Value->Option Addr->Hp->Prop
abbrev St:=List (Option V)
abbrev VK:=V->Hp->Prop
abbrev TE:=St->Hp->VK->Prop
abbrev TT:=St->Hp->(Bool->Hp->Prop)->Prop
abbrev TA:=St->Hp->(List V->Hp->Prop)->Prop
structure Ends where
 nx:St->Hp->Prop
 rt:VK
 bk:St->Hp->Prop:=λ_ _=>False
 ct:St->Hp->Prop:=λ_ _=>False
abbrev TS:=Ends->St->Hp->Prop
noncomputable def EP(X:Cx)(pins:List (Addr×Obj))(σ:St)(Q:VK)(u:Value)(s':Shared):Prop:=∃v H',Inv X pins σ H' s'/\RelV v u/\Q v H'
noncomputable def TP(X:Cx)(pins:List (Addr×Obj))(σ:St)(Q:Bool->Hp->Prop)(b:Bool)(s':Shared):Prop:=∃H',Inv X pins σ H' s'/\Q b H'
noncomputable def AP(X:Cx)(pins:List (Addr×Obj))(σ:St)(Q:List V->Hp->Prop)(us:List Value)(s':Shared):Prop:=∃vs H',Inv X pins σ H' s'/\Vals vs us/\Q vs H'
noncomputable def SP(X:Cx)(pins:List (Addr×Obj))(D:Ends)(f:Flow)(s':Shared):Prop:=
 match f with
 |.next=>∃σ' H',Inv X pins σ' H' s'/\D.nx σ' H'
 |.brk=>∃σ' H',Inv X pins σ' H' s'/\D.bk σ' H'
 |.cont=>∃σ' H',Inv X pins σ' H' s'/\D.ct σ' H'
 |.ret u=>∃v σ' H',Inv X pins σ' H' s'/\RelV v u/\D.rt v H'
noncomputable def PE(X:Cx)(e:Expr)(t:TE):Prop:=
 ∀(pins:List (Addr×Obj))(s:Shared)(σ:St)(H:Hp)(Q:VK),Inv X pins σ H s->t σ H Q->wpAny (model X.prog X.w) X.A (eval e X.env) (EP X pins σ Q) X.xe s
noncomputable def PT(X:Cx)(e:Expr)(t:TT):Prop:=
 ∀(pins:List (Addr×Obj))(s:Shared)(σ:St)(H:Hp)(Q:Bool->Hp->Prop),Inv X pins σ H s->t σ H Q->wpAny (model X.prog X.w) X.A (isTrue e X.env (eval e X.env)) (TP X pins σ Q) X.xe s
noncomputable def PW(X:Cx)(e:Expr)(t:TT):Prop:=
 ∀(whole:Sem Value)(pins:List (Addr×Obj))(s:Shared)(σ:St)(H:Hp)(Q:Bool->Hp->Prop),Inv X pins σ H s->t σ H Q->wpAny (model X.prog X.w) X.A (isTrue e X.env whole) (TP X pins σ Q) X.xe s
def PW.pt{X:Cx}{e:Expr}{t:TT}(h:PW X e t):PT X e t:=h _
noncomputable def PA(X:Cx)(es:List Expr)(t:TA):Prop:=
 ∀(pos:Pos)(pins:List (Addr×Obj))(s:Shared)(σ:St)(H:Hp)(Q:List V->Hp->Prop),Inv X pins σ H s->t σ H Q->wpAny (model X.prog X.w) X.A (spliced (backTo pos (starEach es X.env))) (AP X pins σ Q) X.xe s
noncomputable def PS(X:Cx)(st:Stmt)(t:TS):Prop:=
 ∀(pins:List (Addr×Obj))(s:Shared)(σ:St)(H:Hp)(D:Ends),Inv X pins σ H s->t D σ H->wpAny (model X.prog X.w) X.A (exec st X.env) (SP X pins D) X.xe s
noncomputable def PSs(X:Cx)(st:List Stmt)(t:TS):Prop:=
 ∀(pins:List (Addr×Obj))(s:Shared)(σ:St)(H:Hp)(D:Ends),Inv X pins σ H s->t D σ H->wpAny (model X.prog X.w) X.A (execs st X.env) (SP X pins D) X.xe s
def thn{α:Type}{t:Sem α}{Q Q':α->Shared->Prop}{M:Model}{A:Around}{E:Value->Shared->Prop}{s:Shared}(h:wpAny M A t Q E s)(q:∀a s,Q a s->Q' a s):wpAny M A t Q' E s:=ye h q λ_ _ x=>x
end L2
namespace L2
open PySem PySem.Spec PyProof.Rows
section
variable{X:Cx}
noncomputable def Qo(i:Nat):TE:=λσ H Q=>∃v,σ[i]? =some (some v)/\Q v H
noncomputable def tC(v:V):TE:=λ_ H Q=>Q v H
def ako{i:Nat}{x:Str}{pos:Pos}(hN:X.N[i]? =some x)(hv:Vis X.env.scope x)(hd:(x==("__debug__" :Str))=false:=by decide) (hcd:(x==("__classdict__" :Str))=false:=by decide):PE X (.Name x pos) (Qo i):=by
 intro pins s σ H Q I h;obtain⟨v,e,h⟩:=h;obtain⟨m,hn,hl⟩:=I.loc;obtain⟨u,r,l⟩:=hl i x v hN e hv;have z:EP X pins σ Q u s:=⟨v,H,I,r,h⟩;rcases l with⟨hk,hm⟩|⟨hk,c,hc,q⟩
 ·exact wpAny_Name (wpAny_loadName_local I.ok.kind hk hn hm z) hd
 ·rcases hk with hk|hk
  ·exact wpAny_Name (wpAny_loadName_cell I.ok.kind hk hc q z) hd
  ·exact wpAny_Name (wpAny_loadName_free I.ok.kind hk hc q z hcd) hd
def iz{i j pos}:PE X (.Constant (.int i) j pos) (tC (.int i)):=λ_ _ _ H _ I h=>wpAny_Constant_int ⟨.int i,H,I.tok _,⟨_,rfl⟩,h⟩
def Mg{b j pos}:PE X (.Constant (.bool b) j pos) (tC (.bl b)):=λ_ _ _ H _ I h=>Constant_bool ⟨.bl b,H,I,rfl,h⟩
def nj{j pos}:PE X (.Constant .none j pos) (tC .non):=λ_ _ _ H _ I h=>Constant_none ⟨.non,H,I,rfl,h⟩
def jw{x j pos}:PE X (.Constant (.str x) j pos) (tC (.str x)):=λ_ _ _ H _ I h=>Calls.Constant_str ⟨.str x,H,I.tok _,⟨_,rfl⟩,h⟩
noncomputable def Gl(X:Cx)(x:Str):Prop:=X.env.kindOf x=some .globalImplicit
def JG{E:Value->Shared->Prop}{pins:List (Addr×Obj)}{s:Shared}{σ:St}{H:Hp}{x:Str}{u:Value}{pos:Pos}{Q:Value->Shared->Prop}(I:Inv X pins σ H s)(q:Gl X x)(hm:X.mg x=some u)(h:Q u s)
  (hd:(x==("__debug__" :Str))=false:=by decide):wpAny (model X.prog X.w) X.A (eval (.Name x pos) X.env) Q E s:=
 Calls.Name_function_global I.ok.kind q (Calls.loadGlobal_global (by rw[I.ok.glob];exact I.mod.glob.keeps I.bk) hm h) hd
def Bc{E:Value->Shared->Prop}{pins:List (Addr×Obj)}{s:Shared}{σ:St}{H:Hp}{x:Str}{u:Value}{pos:Pos}{Q:Value->Shared->Prop}(I:Inv X pins σ H s)(z:Gl X x)(hm:X.mg x=none)(q:bootBuiltins x=some u)(h:Q u s)
  (hn:x≠ "__name__" :=by decide) (hd:(x==("__debug__" :Str))=false:=by decide):wpAny (model X.prog X.w) X.A (eval (.Name x pos) X.env) Q E s:=by
 obtain⟨mb,h1,h2⟩:=I.mod.blt;exact Calls.Name_function_global I.ok.kind z (Calls.loadGlobal_builtin (by rw[I.ok.glob];exact I.mod.glob.keeps I.bk) hm (by rw[I.ok.blt];exact h1.keeps I.bk) ((h2 x hn).trans q) h) hd
def lV{x:Str}{v:V}{u:Value}{pos:Pos}(q:Gl X x)(hm:X.mg x=some u)(r:RelV v u)(hd:(x==("__debug__" :Str))=false:=by decide):PE X (.Name x pos) (tC v):=
 λ_ _ _ H _ I h=>JG I q hm ⟨v,H,I,r,h⟩ hd
def aiW{x:Str}{v:V}{u:Value}{pos:Pos}(z:Gl X x)(hm:X.mg x=none)(q:bootBuiltins x=some u)(r:RelV v u)(hn:x≠ "__name__" :=by decide) (hd:(x==("__debug__" :Str))=false:=by decide):PE X (.Name x pos) (tC v):=
 λ_ _ _ H _ I h=>Bc I z hm q ⟨v,H,I,r,h⟩ hn hd
variable{a b:Expr}{ta tb:TE}{pos:Pos}
noncomputable def tB(t:TE):TT:=λσ H Q=>t σ H λx H1=>∃c,x=.bl c/\Q c H1
def nO{e:Expr}{t:TE}(h:PE X e t)(he:∀z,isTrue e X.env z=(do let v<-z;standAt e.pos;holding [v] (truthy v)):=by intro _;rfl):PT X e (tB t):=by
 intro pins s σ H Q I hw;refine isTrue_plain (thn (h pins s σ H _ I hw) λv s1 ⟨x,H1,I1,r1,q1⟩=>?_) (he _);obtain⟨d,rfl,q⟩:=q1;cases r1;exact yf ⟨H1,I1,q⟩
variable{tA tB':TT}{rest:List Expr}
noncomputable def alR(t u:TT):TT:=λσ H Q=>t σ H λc H1=>if c=true then u σ H1 Q else Q false H1
noncomputable def tOr(t u:TT):TT:=λσ H Q=>t σ H λc H1=>if c=true then Q true H1 else u σ H1 Q
noncomputable def alP(t:TT):TT:=λσ H Q=>t σ H λc H1=>Q (!c) H1
def BZ(ha:PT X a tA):PW X (.BoolOp .And [a] pos) tA:=by
 intro q pins s σ H Q I h;refine isTrue_and (thn (ha pins s σ H Q I h) λc z e=>?_)
 cases c with
 |true=>exact isTrue_and_nil e
 |false=>exact e
def Ai(ha:PT X a tA):PW X (.BoolOp .Or [a] pos) tA:=by
 intro q pins s σ H Q I h;refine isTrue_or (thn (ha pins s σ H Q I h) λc z e=>?_)
 cases c with
 |false=>exact isTrue_or_nil e
 |true=>exact e
def Fl(ha:PT X a tA)(hb:PW X (.BoolOp .And (b::rest) pos) tB'):PW X (.BoolOp .And (a::b::rest) pos) (alR tA tB'):=by
 intro wh pins s σ H Q I h;refine isTrue_and (thn (ha pins s σ H _ I h) λc s1 ⟨H1,z,q⟩=>?_)
 cases c with
 |true=>exact hb wh pins s1 σ H1 Q z q
 |false=>exact⟨H1,z,q⟩
def DN(ha:PT X a tA)(hb:PW X (.BoolOp .Or (b::rest) pos) tB'):PW X (.BoolOp .Or (a::b::rest) pos) (tOr tA tB'):=by
 intro wh pins s σ H Q I h;refine isTrue_or (thn (ha pins s σ H _ I h) λc s1 ⟨H1,z,q⟩=>?_)
 cases c with
 |true=>exact⟨H1,z,q⟩
 |false=>exact hb wh pins s1 σ H1 Q z q
def Dy(ha:PT X a tA):PT X (.UnaryOp .Not a pos) (alP tA):=by
 intro pins s σ H Q I h;exact isTrue_not (ha pins s σ H (λc H1=>Q (!c) H1) I h)
noncomputable def ajK(ta tb:TE):TE:=λσ H Q=>ta σ H λx H1=>∃c,x=.bl c/\if c=true then tb σ H1 Q else Q (.bl false) H1
noncomputable def ajZ(ta:TE):TE:=λσ H Q=>ta σ H λx H1=>∃c,x=.bl c/\Q (.bl (!c)) H1
def Ug{op}{t:TE}(h:PE X a t):PE X (.BoolOp op [a] pos) t:=λpins s σ H Q I q=>BoolOp_one (h pins s σ H Q I q)
def Oz(ha:PE X a ta)(hb:PE X (.BoolOp .And (b::rest) pos) tb):PE X (.BoolOp .And (a::b::rest) pos) (ajK ta tb):=by
 intro pins s σ H Q I h;refine BoolOp_and (thn (ha pins s σ H _ I h) λv s1 ⟨x,H1,z,r1,q⟩=>?_);obtain⟨c,rfl,q⟩:=q;cases r1;refine yf ?_
 cases c with
 |true=>exact hb pins s1 σ H1 Q z q
 |false=>exact⟨.bl false,H1,z,rfl,q⟩
def aie(ha:PE X a ta):PE X (.UnaryOp .Not a pos) (ajZ ta):=by
 intro pins s σ H Q I h;refine UnaryOp_ (thn (ha pins s σ H _ I h) λv s1 ⟨x,H1,z,r1,q⟩=>?_);obtain⟨c,rfl,q⟩:=q;cases r1;exact not_of (yf ⟨.bl (!c),H1,z,rfl,q⟩)
noncomputable def tIf(t:TT)(ta tb:TE):TE:=λσ H Q=>t σ H λc H1=>if c=true then ta σ H1 Q else tb σ H1 Q
def uK{c:Expr}(hc:PT X c tA)(ha:PE X a ta)(hb:PE X b tb):PE X (.IfExp c a b pos) (tIf tA ta tb):=by
 intro pins s σ H Q I h;refine wpAny_IfExp (thn (hc pins s σ H _ I h) λd q ⟨H1,I1,z⟩=>?_)
 cases d with
 |true=>exact ha pins q σ H1 Q I1 z
 |false=>exact hb pins q σ H1 Q I1 z
end
end L2
namespace L2
open PySem PySem.Spec PyProof.Rows
noncomputable def SqL(K:Fg_)(H:Hp)(a:Addr)(xs:List V):Prop:=
 Rd H a (.lst xs)\/
  ∃(o:Obj)(its:Array Value)(n:Nat),K.lookup a=some o/\o.cls=.type "list" /\o.dict=none/\o.data=.seq its n/\its.size<=sizeLine/\Vals xs its.toList
noncomputable def SqT(K:Fg_)(H:Hp)(a:Addr)(xs:List V):Prop:=
 Rd H a (.tup xs)\/
  ∃(o:Obj)(its:Array Value)(n:Nat),K.lookup a=some o/\o.cls=.type "tuple" /\o.data=.seq its n/\its.size<=sizeLine/\Vals xs its.toList
noncomputable def amf:Value->Option V
 |.none=>some .non
 |.bool b=>some (.bl b)
 |.int i _=>some (.int i)
 |.str x _=>some (.str x)
 |.bytes b _=>some (.byt b)
 |.float b _=>some (.flt b)
 |.ref a=>some (.ref a)
 |.type n=>some (.ty n)
 |_=>none
def RelV.abs{x:V}{u:Value}(r:RelV x u):amf u=some x:=by
 cases x with
 |non=>cases r;rfl
 |bl _=>cases r;rfl
 |int _=>obtain⟨t,rfl⟩:=r;rfl
 |str _=>obtain⟨t,rfl⟩:=r;rfl
 |byt _=>obtain⟨t,rfl⟩:=r;rfl
 |flt _=>obtain⟨t,rfl⟩:=r;rfl
 |ref _=>cases r;rfl
 |ty _=>cases r;rfl
def RelV.inj{x y:V}{u:Value}(r:RelV x u)(q:RelV y u):x=y:=zw (r.abs.symm.trans q.abs)
theorem Vals.inj:∀{xs ys:List V}{us:List Value},Vals xs us->Vals ys us->xs=ys
 |_,_,_,.nil,.nil=>rfl
 |_,_,_,.cons r t,.cons r' t'=>by rw[r.inj r',Vals.inj t t']
section
variable{X:Cx}{pins:List (Addr×Obj)}{σ:St}{H:Hp}{s:Shared}{a:Addr}{xs ys:List V}
def iI{K:Fg_}(h:H a=some (.lst xs)):SqL K H a xs:=.inl (.inl h)
def jG{K:Fg_}(h:H a=some (.tup xs)):SqT K H a xs:=.inl (.inl h)
def Inv.list(I:Inv X pins σ H s)(h:SqL X.K H a xs):∃its:List Value,Vals xs its/\PlainL s.heap a its.toArray/\xs.length<=sizeLine:=by
 rcases h with h|⟨o,its,n,q,hc,hd,hs,hz,r⟩
 ·obtain⟨z,its,n,r,e⟩:=h.ok I.hok
  exact⟨its,r,⟨_,n,e,rfl,rfl,rfl⟩,z⟩
 ·refine⟨its.toList,r,⟨o,n,I.kIn a o q,hc,hd,by simpa using hs⟩,?_⟩
  have e:=r.length;simp only[yb]at e;omega
def Inv.tuple(I:Inv X pins σ H s)(h:SqT X.K H a xs):∃its:List Value,Vals xs its/\IsTup s.heap a its.toArray/\xs.length<=sizeLine:=by
 rcases h with h|⟨o,its,n,q,hc,hs,hz,r⟩
 ·obtain⟨z,its,r,p⟩:=h.ok I.hok
  exact⟨its,r,p,z⟩
 ·refine⟨its.toList,r,⟨o,I.kIn a o q,hc,n,by simpa using hs⟩,?_⟩
  have e:=r.length;simp only[yb]at e;omega
def Inv.list_inj(I:Inv X pins σ H s)(h:SqL X.K H a xs)(h':SqL X.K H a ys):xs=ys:=by
 obtain⟨its,r,⟨o,n,e,_,_,d⟩,_⟩:=I.list h;obtain⟨its',z,⟨o',n',q,_,_,d'⟩,_⟩:=I.list h';rw[e]at q;cases q;rw[d]at d';injection d' with d1 _
 have:its=its':=by simpa using congrArg Array.toList d1
 subst this;exact r.inj z
def Inv.tuple_inj(I:Inv X pins σ H s)(h:SqT X.K H a xs)(h':SqT X.K H a ys):xs=ys:=by
 obtain⟨its,r,⟨o,e,_,n,d⟩,_⟩:=I.tuple h;obtain⟨its',z,⟨o',q,_,n',d'⟩,_⟩:=I.tuple h';rw[e]at q;cases q;rw[d]at d';injection d' with d1 _
 have:its=its':=by simpa using congrArg Array.toList d1
 subst this;exact r.inj z
end
abbrev Cx.wish(X:Cx)(E:Value->Shared->Prop):Cx:={X with xe:=E}
abbrev Cx.nox(X:Cx):Cx:=X.wish λ_ _=>False
theorem Cx.Ok.wish{X:Cx}(ok:X.Ok)(E:Value->Shared->Prop):(X.wish E).Ok:=
 ⟨ok.mod,ok.kind,ok.glob,ok.blt,ok.above,ok.inj,ok.has,ok.cab,ok.hd,ok.frames,ok.stk,ok.exf,ok.bs,ok.bsz,ok.noex,ok.exfs,ok.funs,ok.frf⟩
def Cx.Ok.unwish{X:Cx}{E:Value->Shared->Prop}(ok:(X.wish E).Ok):X.Ok:=
 ⟨ok.mod,ok.kind,ok.glob,ok.blt,ok.above,ok.inj,ok.has,ok.cab,ok.hd,ok.frames,ok.stk,ok.exf,ok.bs,ok.bsz,ok.noex,ok.exfs,ok.funs,ok.frf⟩
section
variable{X:Cx}{pins:List (Addr×Obj)}{σ:St}{H:Hp}{s:Shared}{E:Value->Shared->Prop}
theorem Inv.wish(I:Inv X pins σ H s)(E:Value->Shared->Prop):Inv (X.wish E) pins σ H s:=⟨I.ok.wish E,I.os,I.bare,I.base,I.loc,I.cell,I.free,I.freeC,I.pin,I.hok,I.len⟩
theorem Inv.unwish(I:Inv (X.wish E) pins σ H s):Inv X pins σ H s:=⟨I.ok.unwish,I.os,I.bare,I.base,I.loc,I.cell,I.free,I.freeC,I.pin,I.hok,I.len⟩
theorem SP.unwish{D:Ends}{f:Flow}{s':Shared}(h:SP (X.wish E) pins D f s'):SP X pins D f s':=by
 cases f with
 |next=>obtain⟨z,H',I,q⟩:=h;exact⟨z,H',I.unwish,q⟩
 |brk=>obtain⟨z,H',I,q⟩:=h;exact⟨z,H',I.unwish,q⟩
 |cont=>obtain⟨z,H',I,q⟩:=h;exact⟨z,H',I.unwish,q⟩
 |ret u=>obtain⟨v,z,H',I,r,q⟩:=h;exact⟨v,z,H',I.unwish,r,q⟩
theorem PSs.nox{st:List Stmt}{t:TS}(h:PSs X.nox st t):PSs X st t:=λpins s σ H D I hw=>
 ye (h pins s σ H D (I.wish _) hw) (λ_ _ q=>q.unwish) λ_ _ z=>False.elim z
end
section
variable{X:Cx}{st:Stmt}{rest:List Stmt}{t u:TS}{e:Expr}{te:TE}{pos:Pos}
noncomputable def Qv:TS:=λD σ H=>D.nx σ H
noncomputable def Xu(t u:TS):TS:=λD σ H=>t {D with nx:=u D} σ H
def jo:PSs X [] Qv:=λ_ _ σ H _ I h=>zzB ⟨σ,H,I,h⟩
def iu(h1:PS X st t)(h2:PSs X rest u):PSs X (st::rest) (Xu t u):=by
 intro pins s σ H D I h;refine wpAny_execs_cons (thn (h1 pins s σ H {D with nx:=u D} I h) λf s1 q=>?_)
 cases f with
 |next=>
  obtain⟨z,H',I',q⟩:=q;exact h2 pins s1 z H' D I' q
 |ret v=>exact q
 |brk=>exact q
 |cont=>exact q
def iB(h1:PS X st t):PSs X [st] t:=by
 intro pins s σ H D I h;refine wpAny_execs_cons (thn (h1 pins s σ H D I h) λf z q=>?_)
 cases f with
 |next=>exact zzB q
 |ret v=>exact q
 |brk=>exact q
 |cont=>exact q
noncomputable def aaT:TS:=λD σ H=>D.bk σ H
def aag:PS X (.Break pos) aaT:=λ_ _ σ H _ I h=>wpAny_Break ⟨σ,H,I,h⟩
def Inv.quiet{pins:List (Addr×Obj)}{σ:St}{H:Hp}{s:Shared}(I:Inv X pins σ H s):interactive X.env=false:=by simp[interactive,I.ok.kind]
noncomputable def ajM(te:TE):TS:=λD σ H=>te σ H λ_ H1=>D.nx σ H1
def jj(z:PE X e te)(q:swapsWith e none pos.line X.env=pure false:=by rfl):PS X (.Expr e pos) (ajM te):=by
 intro pins s σ H D I h;exact wpAny_Expr_any (thn (z pins s σ H _ I h) λv s1 ⟨x,H1,I1,r1,q1⟩=>⟨σ,H1,I1,q1⟩) I.quiet q
noncomputable def alO(te:TE):TS:=λD σ H=>te σ H D.rt
def iR(q:PE X e te):PS X (.Return (some e) pos) (alO te):=by
 intro pins s σ H D I h;exact wpAny_Return_some (thn (q pins s σ H _ I h) λv s1 ⟨x,H1,I1,r1,z⟩=>⟨x,σ,H1,I1,r1,z⟩)
noncomputable def akh:TS:=λD _ H=>D.rt .non H
def ajr:PS X (.Return none pos) akh:=λ_ _ σ H _ I h=>wpAny_Return_none ⟨.non,σ,H,I,rfl,h⟩
noncomputable def Wa(c:TT)(t u:TS):TS:=λD σ H=>c σ H λb H1=>if b=true then t D σ H1 else u D σ H1
def jT{c:Expr}{a b:List Stmt}{tc:TT}(hc:PT X c tc)(ha:PSs X a t)(hb:PSs X b u):PS X (.If c a b pos) (Wa tc t u):=by
 intro pins s σ H D I h;refine wpAny_If (thn (hc pins s σ H _ I h) λd q ⟨H1,I1,z⟩=>?_)
 cases d with
 |true=>exact ha pins q σ H1 D I1 z
 |false=>exact hb pins q σ H1 D I1 z
noncomputable def akP:TS:=λ_ _ _=>False
def mC:PS X st akP:=λ_ _ _ _ _ _ h=>h.elim
end
abbrev TG:=V->St->Hp->(St->Hp->Prop)->Prop
abbrev TGs:=List V->St->Hp->(St->Hp->Prop)->Prop
noncomputable def PG(X:Cx)(target:Expr)(t:TG):Prop:=
 ∀(pins:List (Addr×Obj)) (s:Shared) (σ:St) (H:Hp) (v:V) (u:Value) (Q:St->Hp->Prop),Inv X pins σ H s->RelV v u->t v σ H Q->
  wpAny (model X.prog X.w) X.A (assign target X.env u) (λ_ s'=>∃σ' H',Inv X pins σ' H' s'/\Q σ' H') X.xe s
noncomputable def PGs(X:Cx)(ts:List Expr)(t:TGs):Prop:=
 ∀(pins:List (Addr×Obj)) (s:Shared) (σ:St) (H:Hp) (vs:List V) (us:List Value) (Q:St->Hp->Prop),Inv X pins σ H s->Vals vs us->t vs σ H Q->
  wpAny (model X.prog X.w) X.A (assignInOrder ((assignEach ts X.env).map (·.2)) us) (λ_ s'=>∃σ' H',Inv X pins σ' H' s'/\Q σ' H') X.xe s
abbrev alH:=V->V->V->Hp->(Hp->Prop)->Prop
noncomputable def amb(X:Cx)(t:alH):Prop:=
 ∀(pins:List (Addr×Obj)) (s:Shared) (σ:St) (H:Hp) (o i v:V) (ov iv u:Value) (Q:Hp->Prop),Inv X pins σ H s->RelV o ov->RelV i iv->RelV v u->t o i v H Q->
  wpAny (model X.prog X.w) X.A (setItem ov iv u) (λ_ s'=>∃H',Inv X pins σ H' s'/\Q H') X.xe s
section
variable{X:Cx}{pos:Pos}
noncomputable def Vt(i:Nat):TG:=λv σ H Q=>Q (σ.set i (some v)) H
def iK{i:Nat}{x:Str}(hN:X.N.Nodup)(hi:X.N[i]? =some x)(q:Loc X.env.scope x)(z:X.fn x=true\/X.env.scope.names.lookup x=some .local:=by walk_at "p"):PG X (.Name x pos) (Vt i):=by
 intro pins s σ H v u Q I r h;exact wpAny_assign_Name (Ti I hN hi q r (λs' I'=>⟨_,H,I',h⟩) z)
noncomputable def alT:TGs:=λvs σ H Q=>vs=[]/\Q σ H
noncomputable def akF(t:TG)(u:TGs):TGs:=λvs σ H Q=>∃v r,vs=v::r/\t v σ H λσ' H'=>u r σ' H' Q
def mX:PGs X [] alT:=by
 intro pins s σ H vs us Q I r h;obtain⟨e,h⟩:=h;subst e;cases r;exact assignInOrder_nil ⟨σ,H,I,h⟩
def jk{e:Expr}{es:List Expr}{t:TG}{u:TGs}(h1:PG X e t)(h2:PGs X es u)
  (hs:(assignEach (e::es) X.env).map (·.2)=assign e X.env::(assignEach es X.env).map (·.2):=by rfl):PGs X (e::es) (akF t u):=by
 intro pins s σ H vs us Q I r h;obtain⟨v,vr,e1,h⟩:=h;subst e1
 cases r with
 |cons r rr=>
  rw[hs];refine assignInOrder_cons (thn (h1 pins s σ H _ _ _ I r h) λ_ q ⟨z,H1,I1,q1⟩=>?_);exact h2 pins q z H1 _ _ Q I1 rr q1
noncomputable def alG(K:Fg_)(n:Nat)(t:TGs):TG:=λv σ H Q=>∃a xs,v=.ref a/\SqT K H a xs/\xs.length=n/\t xs σ H Q
def akC{es:List Expr}{k:Nat}{t:TGs}{n:Nat}(hc:X.calm=true)(h:PGs X es t)
  (hn:(assignEach es X.env).length=n:=by rfl) (hst:(assignEach es X.env).findIdx? (·.1)=none:=by rfl):PG X (.Tuple es k pos) (alG X.K n t):=by
 intro pins s σ H v u Q I r q;obtain⟨a,xs,e1,hq,hl,q⟩:=q;subst e1;cases r;obtain⟨its,z,ht,hz⟩:=I.tuple hq;refine assign_Tuple_tuple (I.ok.hd hc) ht (by simp[hn,<-hl,z.length]) hst λh' hx=>?_;have I1:Inv X pins σ H {s with heap:=h'}:=I.kept (t':=s.toks) λb o e=>hx b o (zE (zr e)) e;exact h pins _ σ H xs _ Q I1 (by simpa using z) q
noncomputable def alI(to ti:TE)(t:alH):TG:=λv σ H Q=>to σ H λo H1=>ti σ H1 λi H2=>t o i v H2 λH3=>Q σ H3
def ajD{o i:Expr}{to ti:TE}{t:alH}(ho:PE X o to)(hi:PE X i ti)(hs:amb X t)
  (ha:∀v,assign (.Subscript o i pos) X.env v=(do
   let q<-holding [v] (eval o X.env)
   let z<-holding [v,q] (eval i X.env)
   standAt pos
   holding [v,q,z] (setItem q z v)
   release [v,q,z] []):=by intro _;rfl):PG X (.Subscript o i pos) (alI to ti t):=by
 intro pins s σ H v u Q I r h;rw[ha];refine zd (ym (thn (ho pins s σ H _ I h) λq s1 ⟨x,H1,I1,r1,q1⟩=>?_));refine zd (ym (thn (hi pins s1 σ H1 _ I1 q1) λz s2 ⟨y,H2,I2,r2,q2⟩=>?_));refine zd (zzW (zd (ym (thn (hs pins s2 σ H2 x y v q z u _ I2 r1 r2 r q2) λ_ s3 ⟨H3,I3,q3⟩=>?_))));exact wpAny_release ⟨σ,H3,I3,q3⟩
noncomputable def ale(te:TE)(g:TG):TS:=λD σ H=>te σ H λx H1=>g x σ H1 D.nx
def Xh{tg e:Expr}{te:TE}{g:TG}(he:PE X e te)(hg:PG X tg g)(hs:swapsWithSole [tg] e pos.line X.env=pure false:=by rfl)(hw:swappedStores [tg] e X.env=pure none:=by rfl)
  (h1:(assignEach [tg] X.env).map (·.2)=[assign tg X.env]:=by rfl):PS X (.Assign [tg] e pos) (ale te g):=by
 intro pins s σ H D I h;refine wpAny_Assign_stores (thn (he pins s σ H _ I h) λv z ⟨x,H1,I1,r1,q1⟩=>?_) hs hw;rw[h1];exact thn (hg pins z σ H1 x v _ I1 r1 q1) λ_ s2 q=>q
def iU{i:Nat}{x:Str}{e:Expr}{te:TE}{pos':Pos}(hN:X.N.Nodup)(hi:X.N[i]? =some x)(hx:Loc X.env.scope x)(he:PE X e te)(z:swapsWith e (some (.Name x pos')) pos.line X.env=pure false:=by rfl)(hf:X.fn x=true\/X.env.scope.names.lookup x=some .local:=by walk_at "p"):
  PS X (.Assign [.Name x pos'] e pos) (ale te (Vt i)):=by
 intro pins s σ H D I h;refine wpAny_Assign_Name (thn (he pins s σ H _ I h) λv s1 ⟨y,H1,I1,r1,q1⟩=>?_) z;exact Ti I1 hN hi hx r1 (λs2 q=>⟨_,H1,q,q1⟩) hf
end
structure It where
 go:Nat->Hp->Prop
 yld:Nat->Hp->V->Hp->Prop
 stop:Nat->Hp->Prop
noncomputable def RP(X:Cx)(pins:List (Addr×Obj))(H:Hp)(b:Addr):Prop:=
 H b=none/\b≠X.env.locals/\b∉X.fs/\(b∈X.ex\/X.s₀.heap.objs.size<=b)/\(∀x c,X.env.cells.lookup x=some c->c≠b)/\∀p∈X.pn++pins,p.1≠b
def Inv.fpOk{X:Cx}{pins:List (Addr×Obj)}{σ:St}{H H':Hp}{s:Shared}{b:Addr}(I:Inv X pins σ H s)(hb:s.heap.objs.size<=b)(hn:H' b=none):RP X pins H' b:=by
 refine⟨hn,yC (zH I.lt hb),I.nofs hb,.inr (zV I.sz hb),λx c e z=>?_,λp hp z=>?_⟩
 ·obtain⟨v,q⟩:=I.cell x c e
  exact absurd (zH q.lt (by rw[z];exact hb)) (ya _)
 ·exact absurd (zH (zr (I.pin p hp).1) (by rw[z];exact hb)) (ya _)
structure Turn(P:Program)(w:World)(K:Fg_)(tg:Expr)(J:It)(fp:List Addr)(it:Addr)(tn:Nat->Heap->Prop):Prop where
 mem:it∈fp
 obj:∀i h,tn i h->∀b∈fp,∃o,h.get? b=some o/\∀v,o.data≠.cell v
 keep:∀i h h',tn i h->(∀b∈fp,∀o,h.get? b=some o->h'.get? b=some o)->tn i h'
 item:∀(X:Cx),X.prog=P->X.w=w->X.K=K->X.calm=true->∀(i:Nat)(pins:List (Addr×Obj))(s:Shared)(σ:St)(H:Hp)(E:Value->Shared->Prop),Inv X pins σ H s->(∀b∈fp,RP X pins H b)->tn i s.heap->J.go i H->
  wpAny (model P w) X.A (pyNext (.ref it)) (λr s1=>∃u,r=some u/\
   wpAny (model P w) X.A (letOwnedTupleGo tg (.ref it) u) (λ_ s2=>∃x H',Inv X pins σ H' s2/\RelV x u/\J.yld i H x H'/\tn (i+1) s2.heap/\∀b∈fp,H' b=none) E s1) E s
 done:∀(X:Cx),X.prog=P->X.w=w->X.K=K->X.calm=true->∀(i:Nat)(pins:List (Addr×Obj))(s:Shared)(σ:St)(H:Hp)(E:Value->Shared->Prop),Inv X pins σ H s->(∀b∈fp,RP X pins H b)->tn i s.heap->J.stop i H->
  wpAny (model P w) X.A (pyNext (.ref it)) (λr s1=>r=none/\Inv X pins σ H s1) E s
 self:∀(A:Around)(i:Nat)(s:Shared)(Q:Value->Shared->Prop)(E:Value->Shared->Prop),tn i s.heap->Q (.ref it) s->wpAny (model P w) A (pyIter (.ref it)) Q E s
abbrev TI:=St->Hp->(It->Hp->Prop)->Prop
noncomputable def PIE(X:Cx)(pins:List (Addr×Obj))(σ:St)(tg:Expr)(R:It->Hp->Prop)(itv:Value)(s2:Shared):Prop:=
 ∃(it:Addr)(fp:List Addr)(tn:Nat->Heap->Prop)(J:It)(H':Hp),itv=.ref it/\Inv X pins σ H' s2/\Turn X.prog X.w X.K tg J fp it tn/\tn 0 s2.heap/\(∀b∈fp,RP X pins H' b)/\R J H'
noncomputable def PI(X:Cx)(tg iter:Expr)(wi:TI):Prop:=
 ∀(pins:List (Addr×Obj)) (s:Shared) (σ:St) (H:Hp) (R:It->Hp->Prop),Inv X pins σ H s->wi σ H R->
  wpAny (model X.prog X.w) X.A (eval iter X.env) (λv s1=>wpAny (model X.prog X.w) X.A (pyIter v) (PIE X pins σ tg R) X.xe s1) X.xe s
def Uu{M:Model}{A:Around}{E:Value->Shared->Prop}{s:Shared}{tg:Expr}{it:Addr}{u:Value}{o:Obj}{n:String}{vs:Array Value}{Q:Unit->Shared->Prop}(ho:s.heap.get? it=some o)(z:o.cls=.type n)(hd:o.data=.fields vs)
  (hn:["enumerate", "zip", "dict_itemiterator", "dict_reverseitemiterator", "odict_iterator", "itertools.zip_longest", "itertools.pairwise"].contains n=false) (q:Q () s):wpAny M A (letOwnedTupleGo tg (.ref it) u) Q E s:=by
 unfold letOwnedTupleGo
 cases tg<;>first
  |exact zC q
  | (cases u<;>first
    |exact zC q
    | (refine zd (wpAny_load ho ?_)
       rw[z,hd];show wpAny M A (if(["enumerate", "zip", "dict_itemiterator", "dict_reverseitemiterator", "odict_iterator", "itertools.zip_longest", "itertools.pairwise"].contains n && vs[0]? ==some (rawInt _))=true then _ else _) Q E s;rw[zc (by intro h;rw[hn,zzH]at h;cases h)];exact zC q))
noncomputable def Itl(K:Fg_)(a:Addr):It:=
 ⟨λi H=>∃xs x,SqL K H a xs/\xs[i]? =some x,λi H x H'=>H'=H/\∀xs,SqL K H a xs->xs[i]? =some x,λi H=>∃xs,SqL K H a xs/\xs.length<=i⟩
noncomputable def Itr(lo:Int)(n:Nat):It:=⟨λi _=>i<n,λi H x H'=>H'=H/\x=.int (lo+i),λi _=>n<=i⟩
def Yv{P:Program}{w:World}{K:Fg_}{tg:Expr}(a it:Addr):Turn P w K tg (Itl K a) [it] it (λi h=>h.IsListIter it a i) where
 mem:=by simp
 obj:=λi h st b q=>by
  have e:b=it:=by simpa using q
  subst e;obtain⟨o,e,c,d⟩:=st;exact⟨o,e,λv z=>by rw[d]at z;cases z⟩
 keep:=λi h h' st k=>st.at λo e=>k it (by simp) o e
 item:=by
  intro X hP hw hK hc i pins s σ H E I hf st hg;subst hP hw hK;obtain⟨xs,x,hq,hx⟩:=hg;obtain⟨its,rv,p,hz⟩:=I.list hq;obtain⟨u,hu,ru⟩:=rv.get hx;obtain⟨f0,f1,f2,f3,f4,f5⟩:=hf it (by simp);refine wpAny_pyNext_list_item st p.isList (x:=u) (by simpa using hu) λh' aa sb=>?_;have I1:Inv X pins σ H {s with heap:=h'}:=I.turned (t':=s.toks) (λb o q e=>(sb.2 b q).trans e) f0 f1 f3 f4 f5;obtain⟨o,e,c,d⟩:=id aa;exact⟨u,rfl,Uu (s:={s with heap:=h'}) e c d (by decide) ⟨x,H,I1,ru,⟨rfl,λys hy=>by rw[I.list_inj hy hq];exact hx⟩,aa,λb q=>(hf b q).1⟩⟩
 done:=by
  intro X hP hw hK hc i pins s σ H E I hf st hg;subst hP hw hK;obtain⟨xs,hq,hx⟩:=hg;obtain⟨its,rv,p,hz⟩:=I.list hq;obtain⟨f0,f1,f2,f3,f4,f5⟩:=hf it (by simp);have hl:=rv.length;exact wpAny_pyNext_list_end (I.ok.hd hc) st p.isList (by simp;omega) λh' eb=>⟨rfl,I.turned (t':=s.toks) (λb o q e=>eb b o q e) f0 f1 f3 f4 f5⟩
 self:=λ_ _ _ _ _ st h=>wpAny_pyIter_listiter st h
def Vu{P:Program}{w:World}{K:Fg_}{tg:Expr}(it:Addr)(lo:Int)(n:Nat):Turn P w K tg (Itr lo n) [it] it (λi h=>IsRangeIter h it (lo+(i:Nat)*1) ((n:Int) - (i:Nat)) 1) where
 mem:=by simp
 obj:=λi h st b q=>by
  have e:b=it:=by simpa using q
  subst e
  exact ⟨_,st,λv z=>by
   have z':Data.fields _=Data.cell v:=z;cases z'⟩
 keep:=λi h h' st k=>k it (by simp) _ st
 item:=by
  intro X hP hw hK hc i pins s σ H E I hf st hg;subst hP hw hK;obtain⟨f0,f1,f2,f3,f4,f5⟩:=hf it (by simp);have W:=Walks.range (prog:=X.prog) (w:=X.w) (I.ok.hd hc) it lo 1 n;refine W.item i s _ _ hg st λv h' tk hv aa kk=>?_;obtain⟨t,rfl⟩:=hv;have I1:Inv X pins σ H {s with heap:=h',toks:=tk}:=I.turned (λb o q e=>kk b o (by simpa using q) e) f0 f1 f3 f4 f5;refine⟨_,rfl,Uu (s:={s with heap:=h',toks:=tk}) (n:= "range_iterator") aa rfl rfl (by decide) ⟨.int (lo+i),H,I1,⟨t,?_⟩,⟨rfl,rfl⟩,aa,λb q=>(hf b q).1⟩⟩;rw[Int.mul_one]
 done:=by
  intro X hP hw hK hc i pins s σ H E I hf st hg;subst hP hw hK;obtain⟨f0,f1,f2,f3,f4,f5⟩:=hf it (by simp);exact wpAny_pyNext_range_end (I.ok.hd hc) st (by have:n<=i:=hg;omega) λh' eb=>⟨rfl,I.turned (t':=s.toks) (λb o q e=>eb b o q e) f0 f1 f3 f4 f5⟩
 self:=λ_ _ _ _ _ st h=>wpAny_pyIter_rangeiter st h
end L2
namespace L2
open PySem PySem.Spec PyProof.Rows
section
variable{X:Cx}{tg:Expr}
noncomputable def WY(K:Fg_)(tl:TE):TI:=λσ H R=>tl σ H λx H1=>∃a,x=.ref a/\(∃xs,SqL K H1 a xs)/\R (Itl K a) H1
def ajg{l:Expr}{tl:TE}(hl:PE X l tl):PI X tg l (WY X.K tl):=by
 intro pins s σ H R I h;refine thn (hl pins s σ H _ I h) λv z ⟨x,H1,I1,r1,q1⟩=>?_;obtain⟨a,e,⟨xs,hq⟩,q⟩:=q1;subst e;cases r1;obtain⟨its,rv,p,hz⟩:=I1.list hq;refine yK p.isList ?_;refine⟨z.heap.objs.size,[z.heap.objs.size],_,_,H1,rfl,I1.kept (t':=z.toks) λb o e=>zb _ e,Yv a _,⟨_,zA _ rfl,rfl,rfl⟩,λb hb=>?_,q⟩;have e:b=z.heap.objs.size:=by simpa using hb
 subst e;exact I1.fpOk (zm _) (I1.hok.fresh (zm _))
def aai{pins:List (Addr×Obj)}{σ:St}{H:Hp}{s:Shared}{R:It->Hp->Prop}{E:Value->Shared->Prop}{lo hi:Int}{t u v:Tok}{tk:Nat}(I:Inv X pins σ H s)(h1: -(2^62)<=lo)(h2:lo<2^62)(h3: -(2^62)<=hi)(h4:hi<2^62)
  (q:R (Itr lo (hi - lo).toNat) H):wpAny (model X.prog X.w) X.A (pyIter (.ref s.heap.objs.size)) (PIE X pins σ tg R) E {s with heap:=s.heap.push {cls:=.type "range",data:=.fields #[.int lo t,.int hi u,.int 1 v]},toks:=tk}:=by
 refine wpAny_pyIter_range (IsRange.new ..) (small_one h1 h2 h3 h4) ?_;have z:Inv X pins σ H {s with heap:=s.heap.push {cls:=.type "range",data:=.fields #[.int lo t,.int hi u,.int 1 v]},toks:=tk}:=I.kept λb o e=>zb _ e
 refine ⟨(s.heap.push {cls:=.type "range",data:=.fields #[.int lo t,.int hi u,.int 1 v]}).objs.size,[(s.heap.push {cls:=.type "range",data:=.fields #[.int lo t,.int hi u,.int 1 v]}).objs.size],_,_,H,rfl,
  z.kept (t':=tk) λb o e=>zb _ e,Vu _ lo (hi - lo).toNat,?_,λb hb=>?_,q⟩
 ·have e1:lo+((0:Nat):Int)*1=lo:=by simp
  have e2:(((hi - lo).toNat:Nat):Int) - ((0:Nat):Int)=Builtin.Range.rangeSize lo hi 1:=by rw[rangeSize_one];split<;>omega
  show IsRangeIter _ _ (lo+((0:Nat):Int)*1) ((((hi - lo).toNat:Nat):Int) - ((0:Nat):Int)) 1;rw[e1,e2];exact zA _ rfl
 ·have e:b=(s.heap.push {cls:=.type "range",data:=.fields #[.int lo t,.int hi u,.int 1 v]}).objs.size:=by simpa using hb
  subst e;exact z.fpOk (zm _) (z.hok.fresh (zm _))
noncomputable def ajR(ta:TA):TI:=λσ H R=>ta σ H λvs H1=>∃j:Int,vs=[.int j]/\ -(2^62)<=j/\j<2^62/\R (Itr 0 j.toNat) H1
def Cm{a:Expr}{ta:TA}{p pos:Pos}(hg:Gl X "range") (hm:X.mg "range" =none) (ha:PA X [a] ta) (hs:starEach [a] X.env=[(false,eval a X.env)]:=by rfl):PI X tg (.Call (.Name "range" p) [a] [] pos) (ajR ta):=by
 intro pins s σ H R I h;refine Call_ (Bc I hg hm boot_range (PyProof.Rows.callWith_type1 (thn (ha pos pins s σ H _ I h) λus s1 ⟨vs,H1,I1,r1,z⟩=>?_) hs rfl));obtain⟨j,e,z,q2,q⟩:=z;subst e
 cases r1 with
 |cons r rr=>
  cases rr;obtain⟨t,rfl⟩:=r;exact call_range_1 (aai I1 (by omega) (by omega) z q2 (by simpa using q))
noncomputable def akZ(wi:TI)(g:TG)(tb:TS):TS:=λD σ H=>wi σ H λJ H1=>∃W:Nat->Nat->St->Hp->Prop,(∃m,W 0 m σ H1)/\∀i m σ H,W i m σ H->
 (J.stop i H/\D.nx σ H)\/(J.go i H/\∃N:St->Hp->Prop,(∀σ' H',N σ' H'->∃m',m'<m/\W (i+1) m' σ' H')/\∀x H',J.yld i H x H'->g x σ H' λσ2 H2=>tb {D with nx:=N,ct:=N,bk:=D.nx} σ2 H2)
noncomputable def PJ(fp:List Addr)(h:Heap):List (Addr×Obj):=fp.filterMap λb=>(h.get? b).map λo=>(b,o)
def xW{fp:List Addr}{h:Heap}{b:Addr}{o:Obj}(q:b∈fp)(e:h.get? b=some o):(b,o)∈PJ fp h:=List.mem_filterMap.mpr ⟨b,q,by rw[e];rfl⟩
def XH{fp:List Addr}{h:Heap}{p:Addr×Obj}(z:p∈PJ fp h):p.1∈fp/\h.get? p.1=some p.2:=by
 obtain⟨b,hb,e⟩:=List.mem_filterMap.mp z
 cases q:h.get? b with
 |none=>rw[q]at e;cases e
 |some o=>
  rw[q]at e;have e':(b,o)=p:=zw e;subst e';exact⟨hb,q⟩
def Inv.pinned{pins:List (Addr×Obj)}{σ:St}{H:Hp}{s:Shared}{fp:List Addr}(I:Inv X pins σ H s)(hf:∀b∈fp,RP X pins H b)(ho:∀b∈fp,∃o,s.heap.get? b=some o/\∀v,o.data≠.cell v):Inv X (pins++PJ fp s.heap) σ H s:=
 I.pins_of λp hp=>(zI.mp hp).elim (λz=>I.pin p (zG _ z)) λz=>by
  obtain⟨q,e⟩:=XH z;obtain⟨f0,f1,f2,_⟩:=hf p.1 q;obtain⟨o,e',d⟩:=ho p.1 q;rw[e]at e';cases e';exact⟨e,f0,f1,f2,d⟩
def Inv.unpinned{pins pl:List (Addr×Obj)}{σ:St}{H:Hp}{s:Shared}(I:Inv X (pins++pl) σ H s):Inv X pins σ H s:=I.pins_of λp q=>I.pin p (zG _ (yI _ q))
def nQ{iter:Expr}{ab:List Stmt}{wi:TI}{g:TG}{tb:TS}{pos:Pos}(hp:PassesOwn (model X.prog X.w) X.A X.env X.xe)(hc:X.calm=true)(hi:PI X tg iter wi)(hg:PG X tg g)(hb:PSs X ab tb)
  (hs:∀x,foldedSetIterable iter X.env x=pure x:=by intro _;rfl):PS X (.For tg iter ab [] pos) (akZ wi g tb):=by
 intro pins s σ H D I h;refine wpAny_For (thn (hi pins s σ H _ I h) λv s1 h1=>thn h1 λaj s2 h2=>?_) hs;obtain⟨it,fp,tn,J,H2,e,I2,T,ai,f2,W,⟨m0,w0⟩,ag⟩:=h2;subst e;have z:∀{H':Hp},(∀b∈fp,H' b=none)->∀b∈fp,RP X pins H' b:=λhn b hb=>⟨hn b hb,(f2 b hb).2⟩;refine codeAny_forLoop_any (λn s'=>∃i σ' H',Inv X pins σ' H' s'/\tn i s'.heap/\(∀b∈fp,H' b=none)/\W i n σ' H') ?_ m0 ⟨0,σ,H2,I2,ai,λb hb=>(f2 b hb).1,w0⟩;rintro n s3 ⟨i,σ3,H3,I3,ad,ae,w3⟩;rcases ag i n σ3 H3 w3 with⟨stop,qn⟩|⟨go,N,hN,af⟩
 ·refine zzc hp (thn (T.done X rfl rfl rfl hc i pins s3 σ3 H3 X.xe I3 (z ae) ad stop) λr s4 ⟨hr,I4⟩=>?_)
  subst hr;exact zzB ⟨σ3,H3,I4,qn⟩
 ·refine zzc hp (thn (T.item X rfl rfl rfl hc i pins s3 σ3 H3 X.xe I3 (z ae) ad go) λr s4 ⟨u,hr,h4⟩=>?_)
  subst hr;refine zzc hp (thn h4 λ_ s5 ⟨x,H5,I5,r5,y5,ac,ah⟩=>?_);have I5':=I5.pinned (z ah) (T.obj _ _ ac);refine zzc hp (thn (hg _ s5 σ3 H5 x u _ I5' r5 (af x H5 y5)) λ_ s6 ⟨σ6,H6,I6,q6⟩=>?_);refine zzc hp (thn (hb _ s6 σ6 H6 _ I6 q6) λf s7 q7=>?_)
  have aa:∀{q:St}{H7:Hp},Inv X (pins++PJ fp s5.heap) q H7 s7->N q H7->∃m,m<n/\∃i σ' H',Inv X pins σ' H' s7/\tn i s7.heap/\(∀b∈fp,H' b=none)/\W i m σ' H':=fun{q H7} I7 n7=>by
   obtain⟨m',hm,w7⟩:=hN q H7 n7;refine⟨m',hm,i+1,q,H7,I7.unpinned,T.keep _ _ _ ac λb hb o e=>(I7.pin (b,o) (zG _ (zG _ (xW hb e)))).1,λb hb=>?_,w7⟩;obtain⟨o,e,d⟩:=T.obj _ _ ac b hb;exact(I7.pin (b,o) (zG _ (zG _ (xW hb e)))).2.1
  cases f with
  |next=>obtain⟨q,H7,I7,n7⟩:=q7;exact aa I7 n7
  |cont=>obtain⟨q,H7,I7,n7⟩:=q7;exact aa I7 n7
  |brk=>obtain⟨q,H7,I7,q7⟩:=q7;exact⟨q,H7,I7.unpinned,q7⟩
  |ret v=>obtain⟨x7,q,H7,I7,r7,q7⟩:=q7;exact⟨x7,q,H7,I7.unpinned,r7,q7⟩
end
def ZM{K:Fg_}{a:Addr}{xs:List V}{g:TG}{tb:TS}{D:Ends}{σ:St}{H:Hp}(z:Nat->St->Hp->Prop)(h0:z 0 σ H)(hl:∀i σ H,i<=xs.length->z i σ H->SqL K H a xs)
  (hs:∀i x σ H,xs[i]? =some x->z i σ H->g x σ H λσ2 H2=>tb {D with nx:=z (i+1),ct:=z (i+1),bk:=D.nx} σ2 H2) (hd:∀σ H,z xs.length σ H->D.nx σ H):
  ∃W:Nat->Nat->St->Hp->Prop,(∃m,W 0 m σ H)/\∀i m σ H,W i m σ H->
   ((Itl K a).stop i H/\D.nx σ H)\/((Itl K a).go i H/\∃N:St->Hp->Prop,(∀σ' H',N σ' H'->∃m',m'<m/\W (i+1) m' σ' H')/\∀x H',(Itl K a).yld i H x H'->g x σ H' λσ2 H2=>tb {D with nx:=N,ct:=N,bk:=D.nx} σ2 H2):=by
 refine⟨λi m σ H=>m=xs.length - i/\i<=xs.length/\z i σ H,⟨xs.length,by simp,zJ _,h0⟩,?_⟩;rintro i m σ H ⟨rfl,hi,p⟩;have q:=hl i σ H hi p;by_cases aa:i<xs.length
 ·refine .inr ⟨⟨xs,xs[i],q,by simp[aa]⟩,z (i+1),λσ' H' p'=>⟨xs.length - (i+1),by omega,rfl,aa,p'⟩,λx H' y=>?_⟩
  obtain⟨e,y⟩:=y;subst e;exact hs i x σ _ (y xs q) p
 ·have e:i=xs.length:=by omega
  subst e;exact .inl ⟨⟨xs,q,zm _⟩,hd σ H p⟩
def YG{lo:Int}{n:Nat}{g:TG}{tb:TS}{D:Ends}{σ:St}{H:Hp}(z:Nat->St->Hp->Prop)(h0:z 0 σ H)
  (hs:∀i σ H,i<n->z i σ H->g (.int (lo+i)) σ H λσ2 H2=>tb {D with nx:=z (i+1),ct:=z (i+1),bk:=D.nx} σ2 H2) (hd:∀σ H,z n σ H->D.nx σ H):
  ∃W:Nat->Nat->St->Hp->Prop,(∃m,W 0 m σ H)/\∀i m σ H,W i m σ H->
   ((Itr lo n).stop i H/\D.nx σ H)\/((Itr lo n).go i H/\∃N:St->Hp->Prop,(∀σ' H',N σ' H'->∃m',m'<m/\W (i+1) m' σ' H')/\∀x H',(Itr lo n).yld i H x H'->g x σ H' λσ2 H2=>tb {D with nx:=N,ct:=N,bk:=D.nx} σ2 H2):=by
 refine⟨λi m σ H=>m=n - i/\i<=n/\z i σ H,⟨n,by simp,zJ _,h0⟩,?_⟩;rintro i m σ H ⟨rfl,hi,p⟩;by_cases q:i<n
 ·refine .inr ⟨q,z (i+1),λσ' H' p'=>⟨n - (i+1),by omega,rfl,q,p'⟩,λx H' y=>?_⟩
  obtain⟨e,y⟩:=y;subst e y;exact hs i σ _ q p
 ·have e:i=n:=by omega
  subst e;exact .inl ⟨zm _,hd σ H p⟩
end L2
namespace L2
open PySem PySem.Spec PyProof.Rows
abbrev R2:=V->V->Hp->VK->Prop
noncomputable def OpR(X:Cx)(f:Value->Value->Sem Value)(r:R2):Prop:=
 ∀(pins:List (Addr×Obj)) (s:Shared) (σ:St) (H:Hp) (x y:V) (v u:Value) (Q:VK),Inv X pins σ H s->RelV x v->RelV y u->r x y H Q->
  wpAny (model X.prog X.w) X.A (f v u) (EP X pins σ Q) X.xe s
noncomputable def UnR(X:Cx)(f:Value->Sem Value)(r:V->Hp->VK->Prop):Prop:=
 ∀(pins:List (Addr×Obj)) (s:Shared) (σ:St) (H:Hp) (x:V) (v:Value) (Q:VK),Inv X pins σ H s->RelV x v->r x H Q->
  wpAny (model X.prog X.w) X.A (f v) (EP X pins σ Q) X.xe s
noncomputable def nH(X:Cx)(f:Value)(r:List V->Hp->VK->Prop):Prop:=
 ∀(pins:List (Addr×Obj)) (s:Shared) (σ:St) (H:Hp) (xs:List V) (us:List Value) (Q:VK),Inv X pins σ H s->Vals xs us->r xs H Q->
  wpAny (model X.prog X.w) X.A (call f us) (EP X pins σ Q) X.xe s
noncomputable def tOp(r:R2)(ta tb:TE):TE:=λσ H Q=>ta σ H λx H1=>tb σ H1 λy H2=>r x y H2 Q
noncomputable def tUn(r:V->Hp->VK->Prop)(ta:TE):TE:=λσ H Q=>ta σ H λx H1=>r x H1 Q
noncomputable def rI(C:Int->Int->Prop)(g:Int->Int->V):R2:=λx y H Q=>∃i j,x=.int i/\y=.int j/\C i j/\Q (g i j) H
noncomputable def rI0(g:Int->Int->V):R2:=λx y H Q=>∃i j,x=.int i/\y=.int j/\Q (g i j) H
noncomputable def rU(g:Int->V):V->Hp->VK->Prop:=λx H Q=>∃i,x=.int i/\Q (g i) H
section
variable{X:Cx}{a b c:Expr}{ta tb tc:TE}{pos:Pos}
def alg(ha:PE X a ta)(hb:PE X b tb){pins:List (Addr×Obj)}{s:Shared}{σ:St}{H:Hp}{R:V->V->Hp->Prop}(I:Inv X pins σ H s)
  (h:ta σ H λx H1=>tb σ H1 λy H2=>R x y H2) {Q:Value->Shared->Prop} {f:Value->Value->Sem Value}
  (hf:∀v u q x y H2,Inv X pins σ H2 q->RelV x v->RelV y u->R x y H2->wpAny (model X.prog X.w) X.A (f v u) Q X.xe q):
  wpAny (model X.prog X.w) X.A (eval a X.env) (λv s₁=>wpAny (model X.prog X.w) X.A (eval b X.env) (λu s₂=>wpAny (model X.prog X.w) X.A (f v u) Q X.xe s₂) X.xe s₁) X.xe s:=by
 refine thn (ha pins s σ H _ I h) λv s1 ⟨x,H1,I1,r1,q1⟩=>?_;refine thn (hb pins s1 σ H1 _ I1 q1) λu q ⟨y,H2,z,r2,q2⟩=>?_;exact hf v u q x y H2 z r1 r2 q2
def jb{op:Operator}{r:R2}(ho:OpR X (binaryOp op) r)(ha:PE X a ta)(hb:PE X b tb):PE X (.BinOp a op b pos) (tOp r ta tb):=by
 intro pins s σ H Q I h;exact wpAny_BinOp (alg ha hb I h λv u s2 x y H2 z rx ry q=>ho pins s2 σ H2 x y v u Q z rx ry q)
def akl{op:UnaryOp}{r:V->Hp->VK->Prop}(ho:UnR X (unaryOp op) r)(ha:PE X a ta):PE X (.UnaryOp op a pos) (tUn r ta):=by
 intro pins s σ H Q I h;exact UnaryOp_ (thn (ha pins s σ H _ I h) λv q ⟨x,H1,I1,r1,z⟩=>ho pins q σ H1 x v Q I1 r1 z)
def opI{f:Value->Value->Sem Value}{C:Int->Int->Prop}{g:Int->Int->Int}
  (z:∀(i j:Int)(t u:Tok)(s:Shared)(Q:Value->Shared->Prop)(E:Value->Shared->Prop),C i j->Q (.int (g i j) s.toks) {s with toks:=s.toks+1}->wpAny (model X.prog X.w) X.A (f (.int i t) (.int j u)) Q E s):
  OpR X f (rI C λi j=> .int (g i j)):=by
 intro pins s σ H x y v u Q I rx ry h;obtain⟨i,j,rfl,rfl,hc,q⟩:=h;obtain⟨t,rfl⟩:=rx;obtain⟨t',rfl⟩:=ry;exact z i j t t' s _ _ hc ⟨.int (g i j),H,I.tok _,⟨_,rfl⟩,q⟩
def alQ{f:Value->Value->Sem Value}{g:Int->Int->Int}
  (z:∀(i j:Int)(t u:Tok)(s:Shared)(Q:Value->Shared->Prop)(E:Value->Shared->Prop),Q (.int (g i j) s.toks) {s with toks:=s.toks+1}->wpAny (model X.prog X.w) X.A (f (.int i t) (.int j u)) Q E s):
  OpR X f (rI0 λi j=> .int (g i j)):=by
 intro pins s σ H x y v u Q I rx ry h;obtain⟨i,j,rfl,rfl,q⟩:=h;obtain⟨t,rfl⟩:=rx;obtain⟨t',rfl⟩:=ry;exact z i j t t' s _ _ ⟨.int (g i j),H,I.tok _,⟨_,rfl⟩,q⟩
def alb{f:Value->Value->Sem Value}{g:Int->Int->Bool}
  (z:∀(i j:Int)(t u:Tok)(s:Shared)(Q:Value->Shared->Prop)(E:Value->Shared->Prop),Q (.bool (g i j)) s->wpAny (model X.prog X.w) X.A (f (.int i t) (.int j u)) Q E s):
  OpR X f (rI0 λi j=> .bl (g i j)):=by
 intro pins s σ H x y v u Q I rx ry h;obtain⟨i,j,rfl,rfl,q⟩:=h;obtain⟨t,rfl⟩:=rx;obtain⟨t',rfl⟩:=ry;exact z i j t t' s _ _ ⟨.bl (g i j),H,I,rfl,q⟩
noncomputable def alf(i j:Int):Prop:=0<=j/\j<=1000000/\i.natAbs<2^64
noncomputable def alq(i j:Int):Prop:=(-(2^64)<i/\i<2^64)\/(-(2^64)<j/\j<2^64)
def alq.ok{i j:Int}(h:alq i j):IntMulOk i j:=by
 rcases h with⟨h1,h2⟩|⟨h1,h2⟩
 ·exact .of_left (intBits_le_64 h1 h2)
 ·exact .of_right (intBits_le_64 h1 h2)
def jD:OpR X (binaryOp .Add) (rI0 λi j=> .int (i+j)):=alQ λ_ _ _ _ _ _ _ q=>add_int q
def pD:OpR X (binaryOp .Sub) (rI0 λi j=> .int (i - j)):=alQ λ_ _ _ _ _ _ _ q=>sub_int q
def mW:OpR X (binaryOp .Mod) (rI (λ_ j=>0<j) λi j=> .int (i%j)):=opI λi j _ _ _ _ _ z q=>by
 have h1:(0:Int)<j:=z;exact mod_int' (by omega) (by rw[Int.fmod_eq_emod_of_nonneg i (by omega)];exact q)
def nP:OpR X (binaryOp .Pow) (rI alf λi j=> .int (i^j.toNat)):=opI λ_ _ _ _ _ _ _ z q=>pow_int_small z.1 z.2.1 z.2.2 q
def unI{f:Value->Sem Value}{g:Int->Int}
  (z:∀(i:Int)(t:Tok)(s:Shared)(Q:Value->Shared->Prop)(E:Value->Shared->Prop),Q (.int (g i) s.toks) {s with toks:=s.toks+1}->wpAny (model X.prog X.w) X.A (f (.int i t)) Q E s):
  UnR X f (rU λi=> .int (g i)):=by
 intro pins s σ H x v Q I rx h;obtain⟨i,rfl,q⟩:=h;obtain⟨t,rfl⟩:=rx;exact z i t s _ _ ⟨.int (g i),H,I.tok _,⟨_,rfl⟩,q⟩
def aaQ:UnR X (unaryOp .USub) (rU λi=> .int (-i)):=unI λ_ _ _ _ _ q=>neg_int q
end
noncomputable def aiT:V->V->Bool
 |.non,.non=>true|.non,.int _=>true|.int _,.non=>true|.non,.bl _=>true|.bl _,.non=>true|.non,.str _=>true|.str _,.non=>true
 |.int _,.int _=>true|.bl _,.bl _=>true|.str _,.str _=>true|.byt _,.byt _=>true
 |.int _,.str _=>true|.str _,.int _=>true|.bl _,.str _=>true|.str _,.bl _=>true
 |_,_=>false
noncomputable def rEq:R2:=λx y H Q=>aiT x y=true/\Q (.bl (decide (x=y))) H
noncomputable def rNe:R2:=λx y H Q=>aiT x y=true/\Q (.bl (!decide (x=y))) H
def Yy{i j:Int}:decide (V.int i=V.int j)=(i==j):=by
 rw[yR];simp
def aii{i j:Bool}:decide (V.bl i=V.bl j)=(i==j):=by
 rw[yR];simp
def WK{i j:Str}:decide (V.str i=V.str j)=(i==j):=by
 rw[yR];simp
def Wv{i j:Array UInt8}:decide (V.byt i=V.byt j)=(i.toList==j.toList):=by
 rw[yR];cases i;cases j;simp
section
variable{X:Cx}{a b c:Expr}{ta tb tc:TE}{pos:Pos}
def kW{pins:List (Addr×Obj)}{σ:St}{H:Hp}{s:Shared}{Q:VK}{k z:Bool}(I:Inv X pins σ H s)(q:Q (.bl k) H)(e:k=z):EP X pins σ Q (.bool z) s:=by
 subst e;exact⟨.bl k,H,I,rfl,q⟩
def mU:OpR X (compareOp .Eq) rEq:=by
 intro pins s σ H x y v u Q I rx z h;obtain⟨hs,q⟩:=h
 cases x with
 |non=>
  cases rx
  cases y with
  |non=>cases z;exact PySem.EqNone.eq_none_none (kW I q (by simp))
  |bl j=>cases z;exact PySem.EqNone.eq_none_bool (kW I q (by simp))
  |int j=>obtain⟨t',rfl⟩:=z;exact PySem.EqNone.eq_none_int (kW I q (by simp))
  |str j=>obtain⟨t',rfl⟩:=z;exact PySem.EqNone.eq_none_str (kW I q (by simp))
  |_=>exact absurd (show false=true from hs) zN
 |bl i=>
  cases rx
  cases y with
  |non=>cases z;exact PySem.EqNone.eq_bool_none (kW I q (by simp))
  |bl j=>cases z;exact eq_bool (kW I q aii)
  |str j=>obtain⟨t',rfl⟩:=z;exact PySem.EqMixed.eq_bool_str (kW I q (by simp))
  |_=>exact absurd (show false=true from hs) zN
 |int i=>
  obtain⟨t,rfl⟩:=rx
  cases y with
  |non=>cases z;exact PySem.EqNone.eq_int_none (kW I q (by simp))
  |int j=>obtain⟨t',rfl⟩:=z;exact eq_int (kW I q Yy)
  |str j=>obtain⟨t',rfl⟩:=z;exact PySem.EqMixed.eq_int_str (kW I q (by simp))
  |_=>exact absurd (show false=true from hs) zN
 |str i=>
  obtain⟨t,rfl⟩:=rx
  cases y with
  |non=>cases z;exact PySem.EqNone.eq_str_none (kW I q (by simp))
  |bl j=>cases z;exact PySem.EqMixed.eq_str_bool (kW I q (by simp))
  |int j=>obtain⟨t',rfl⟩:=z;exact PySem.EqMixed.eq_str_int (kW I q (by simp))
  |str j=>obtain⟨t',rfl⟩:=z;exact eq_str (kW I q WK)
  |_=>exact absurd (show false=true from hs) zN
 |byt i=>
  obtain⟨t,rfl⟩:=rx
  cases y with
  |byt j=>obtain⟨t',rfl⟩:=z;exact PySem.W.eq_bytes (kW I q Wv)
  |_=>exact absurd (show false=true from hs) zN
 |_=>cases y<;>exact absurd (show false=true from hs) zN
def akp:OpR X (compareOp .NotEq) rNe:=by
 intro pins s σ H x y v u Q I rx z h;obtain⟨hs,q⟩:=h
 cases x with
 |non=>
  cases rx
  cases y with
  |non=>cases z;exact PySem.EqNone.ne_none_none (kW I q (by simp))
  |bl j=>cases z;exact PySem.EqNone.ne_none_bool (kW I q (by simp))
  |int j=>obtain⟨t',rfl⟩:=z;exact PySem.EqNone.ne_none_int (kW I q (by simp))
  |str j=>obtain⟨t',rfl⟩:=z;exact PySem.EqNone.ne_none_str (kW I q (by simp))
  |_=>exact absurd (show false=true from hs) zN
 |bl i=>
  cases rx
  cases y with
  |non=>cases z;exact PySem.EqNone.ne_bool_none (kW I q (by simp))
  |bl j=>cases z;exact ne_bool (kW I q (congrArg not aii))
  |str j=>obtain⟨t',rfl⟩:=z;exact PySem.EqMixed.ne_bool_str (kW I q (by simp))
  |_=>exact absurd (show false=true from hs) zN
 |int i=>
  obtain⟨t,rfl⟩:=rx
  cases y with
  |non=>cases z;exact PySem.EqNone.ne_int_none (kW I q (by simp))
  |int j=>obtain⟨t',rfl⟩:=z;exact ne_int (kW I q (congrArg not Yy))
  |str j=>obtain⟨t',rfl⟩:=z;exact PySem.EqMixed.ne_int_str (kW I q (by simp))
  |_=>exact absurd (show false=true from hs) zN
 |str i=>
  obtain⟨t,rfl⟩:=rx
  cases y with
  |non=>cases z;exact PySem.EqNone.ne_str_none (kW I q (by simp))
  |bl j=>cases z;exact PySem.EqMixed.ne_str_bool (kW I q (by simp))
  |int j=>obtain⟨t',rfl⟩:=z;exact PySem.EqMixed.ne_str_int (kW I q (by simp))
  |str j=>obtain⟨t',rfl⟩:=z;exact ne_str (kW I q (congrArg not WK))
  |_=>exact absurd (show false=true from hs) zN
 |byt i=>
  obtain⟨t,rfl⟩:=rx
  cases y with
  |byt j=>obtain⟨t',rfl⟩:=z;exact PySem.W.ne_bytes (kW I q (congrArg not Wv))
  |_=>exact absurd (show false=true from hs) zN
 |_=>cases y<;>exact absurd (show false=true from hs) zN
def Mx:OpR X (compareOp .Lt) (rI0 λi j=> .bl (decide (i<j))):=alb λ_ _ _ _ _ _ _ q=>lt_int q
def MN:OpR X (compareOp .LtE) (rI0 λi j=> .bl (decide (i<=j))):=alb λ_ _ _ _ _ _ _ q=>le_int q
def Ku:OpR X (compareOp .Gt) (rI0 λi j=> .bl (decide (j<i))):=alb λ_ _ _ _ _ _ _ q=>gt_int q
def akm:OpR X (compareOp .GtE) (rI0 λi j=> .bl (decide (j<=i))):=alb λ_ _ _ _ _ _ _ q=>ge_int q
def Aj:OpR X (compareOp .Is) (λx y H Q=>y=.non/\Q (.bl (decide (x=.non))) H):=by
 intro pins s σ H x y v u Q I z ry h;obtain⟨rfl,q⟩:=h;cases ry;refine is_none_gen (kW I q ?_)
 cases x<;>first
  |(cases z;rfl)
  |(obtain⟨t,rfl⟩:=z;rfl)
def WL:OpR X (compareOp .IsNot) (λx y H Q=>y=.non/\Q (.bl (!decide (x=.non))) H):=by
 intro pins s σ H x y v u Q I z ry h;obtain⟨rfl,q⟩:=h;cases ry;refine isnot_none_gen (kW I q ?_)
 cases x<;>first
  |(cases z;rfl)
  |(obtain⟨t,rfl⟩:=z;rfl)
def jf(b:Expr){op:CmpOp}(h:op≠.In:=by decide)(h2:op≠.NotIn:=by decide):behindInMarks op b=false:=by
 have q:(op==CmpOp.In)=false:=by cases op<;>first|rfl|exact absurd rfl h
 have z:(op==CmpOp.NotIn)=false:=by cases op<;>first|rfl|exact absurd rfl h2
 cases b<;>simp[behindInMarks,q,z]
def uP{op:CmpOp}{r:R2}(ho:OpR X (compareOp op) r)(ha:PE X a ta)(hb:PE X b tb)(hm:behindInMarks op b=false):PE X (.Compare a [op] [b] pos) (tOp r ta tb):=by
 intro pins s σ H Q I h;exact wpAny_Compare1 (alg ha hb I h λv u s2 x y H2 z rx ry q=>ho pins s2 σ H2 x y v u Q z rx ry q) hm
noncomputable def Bg(t:TE):TT:=λσ H Q=>t σ H λx H'=>∃k,x=.bl k/\Q k H'
def iY{op:CmpOp}{r:R2}(ho:OpR X (compareOp op) r)(ha:PE X a ta)(hb:PE X b tb)(hm:behindInMarks op b=false):PT X (.Compare a [op] [b] pos) (Bg (tOp r ta tb)):=by
 intro pins s σ H Q I h
 refine wpAny_isTrue_Compare1 (thn (ha pins s σ H _ I h) λv s1 ⟨x,H1,I1,r1,q1⟩=>thn (hb pins s1 σ H1 _ I1 q1) λu s2 ⟨y,H2,q,r2,q2⟩=>
  thn (ho pins s2 σ H2 x y v u _ q r1 r2 q2) λc s3 ⟨z,H3,I3,r3,k,e,q3⟩=>?_) hm
 subst e;cases r3;exact yf ⟨H3,I3,q3⟩
noncomputable def Xv(r r':R2)(ta tb tc:TE):TE:=λσ H Q=>ta σ H λx H1=>tb σ H1 λy H2=>r x y H2 λz H3=>∃k,z=.bl k/\
 (if k=true then tc σ H3 λw' H4=>r' y w' H4 Q else Q (.bl false) H3)
def aat{op q:CmpOp}{r r':R2}(ho:OpR X (compareOp op) r)(aa:OpR X (compareOp q) r')(ha:PE X a ta)(hb:PE X b tb)(hc:PE X c tc)
  (hm:lastMarks [op,q] [b,c]=false:=by with_unfolding_all rfl):PE X (.Compare a [op,q] [b,c] pos) (Xv r r' ta tb tc):=by
 intro pins s σ H Q I h
 refine Compare_chain (thn (ha pins s σ H _ I h) λv s1 ⟨x,H1,I1,r1,q1⟩=>chain_link (thn (hb pins s1 σ H1 _ I1 q1) λu s2 ⟨y,H2,I2,r2,q2⟩=>
  thn (ho pins s2 σ H2 x y v u _ I2 r1 r2 q2) λd s3 ⟨z,H3,I3,r3,k,e,q3⟩=>?_)) hm
 subst e;cases r3;refine yf ?_
 cases k with
 |false=>exact ite_ff ⟨.bl false,H3,I3,rfl,q3⟩
 |true=>exact ite_tt (chain_last (thn (hc pins s3 σ H3 _ I3 q3) λw' s4 ⟨z',H4,I4,r4,q4⟩=>aa pins s4 σ H4 y z' u w' Q I4 r2 r4 q4))
def Zm{op q:CmpOp}{r r':R2}(ho:OpR X (compareOp op) r)(aa:OpR X (compareOp q) r')(ha:PE X a ta)(hb:PE X b tb)(hc:PE X c tc)
  (hm:lastMarks [op,q] [b,c]=false:=by with_unfolding_all rfl):PT X (.Compare a [op,q] [b,c] pos) (Bg (Xv r r' ta tb tc)):=by
 intro pins s σ H Q I h
 refine isTrue_chain (thn (ha pins s σ H _ I h) λv s1 ⟨x,H1,I1,r1,q1⟩=>test_link (thn (hb pins s1 σ H1 _ I1 q1) λu s2 ⟨y,H2,I2,r2,q2⟩=>
  thn (ho pins s2 σ H2 x y v u _ I2 r1 r2 q2) λd s3 ⟨z,H3,I3,r3,k,e,q3⟩=>?_)) hm
 subst e;cases r3;refine yf ?_
 cases k with
 |false=>
  obtain⟨k',e',q'⟩:=q3;cases e';exact ite_ff ⟨H3,I3,q'⟩
 |true=>
  refine ite_tt (test_last (thn (hc pins s3 σ H3 _ I3 q3) λw' s4 ⟨z',H4,I4,r4,q4⟩=>thn (aa pins s4 σ H4 y z' u w' _ I4 r2 r4 q4) λd' s5 ⟨z2,H5,I5,r5,k2,e2,q5⟩=>?_));subst e2;cases r5;exact yf ⟨H5,I5,q5⟩
def Qi:(sizeLine:Nat)<2^63:=by rw[zq];decide
def vals1{x:V}{us:List Value}(r:Vals [x] us):∃u,us=[u]/\RelV x u:=by
 cases r with
 |cons r1 r2=>cases r2;exact⟨_,rfl,r1⟩
def vals2{x y:V}{us:List Value}(r:Vals [x,y] us):∃u q,us=[u,q]/\RelV x u/\RelV y q:=by
 cases r with
 |cons r1 r2=>
  cases r2 with
  |cons r3 r4=>cases r4;exact⟨_,_,rfl,r1,r3⟩
def Yw(hc:X.calm=true):nH X (.builtin "max") (λxs H Q=>∃i j,xs=[.int i,.int j]/\Q (.int (if j>i then j else i)) H):=by
 intro pins s σ H xs us Q I r h;obtain⟨i,j,rfl,q⟩:=h;obtain⟨u,w',rfl,⟨t,rfl⟩,⟨t',rfl⟩⟩:=vals2 r;refine max_two_ints (I.ok.hd hc) λh' tk k=>⟨_,H,I.kept k,?_,q⟩;by_cases z:j>i
 ·rw[zg z,zg z];exact⟨_,rfl⟩
 ·rw[zc z,zc z];exact⟨_,rfl⟩
def Yp(hc:X.calm=true):nH X (.builtin "min") (λxs H Q=>∃i j,xs=[.int i,.int j]/\Q (.int (if j<i then j else i)) H):=by
 intro pins s σ H xs us Q I r h;obtain⟨i,j,rfl,q⟩:=h;obtain⟨u,w',rfl,⟨t,rfl⟩,⟨t',rfl⟩⟩:=vals2 r;refine min_two_ints (I.ok.hd hc) λh' tk k=>⟨_,H,I.kept k,?_,q⟩;by_cases z:j<i
 ·rw[zg z,zg z];exact⟨_,rfl⟩
 ·rw[zc z,zc z];exact⟨_,rfl⟩
def Wc:nH X (.type "int") (λxs H Q=>(∃i,xs=[.int i]/\Q (.int i) H)\/∃k,xs=[.bl k]/\Q (.int (if k then 1 else 0)) H):=by
 intro pins s σ H xs us Q I r h;rcases h with⟨i,rfl,q⟩|⟨k,rfl,q⟩
 ·obtain⟨u,rfl,t,rfl⟩:=vals1 r
  exact call_int_int ⟨.int i,H,I,⟨_,rfl⟩,q⟩
 ·obtain⟨u,rfl,z⟩:=vals1 r
  cases z;exact call_int_bool ⟨.int (if k then 1 else 0),H,I.tok _,⟨_,rfl⟩,q⟩
end
end L2
namespace L2
open PySem PySem.Spec PyProof.Rows
structure ajt(h:Heap)(x dx C:Addr)(mA:Str->Option Value):Prop where
 obj:h.get? x=some (PySem.W.instObj C dx)
 ns:h.Ns1 dx mA
 ne:dx≠x
def YH{h:Heap}{dx:Addr}{mA:Str->Option Value}(n:h.Ns1 dx mA):∃od,h.get? dx=some od/\∀name,PySem.W.lookIn name od=some (mA name):=by
 obtain⟨o,es,ep,ho,hd,hk,_,hm⟩:=n;refine⟨o,ho,λname=>?_⟩;have e:=hm name;unfold nsFind findBy at e;rw[<-Array.find?_toList]at e;unfold PySem.W.lookIn;rw[hd];dsimp only;split
 ·rename_i y q
  rw[q]at e;exact congrArg some e
 ·rename_i q
  rw[q]at e
  have a:es.toList.any (·.refKey)=false:=by
   rw[List.any_eq_false];intro y hy;obtain⟨z,t,aa⟩:=hk y (Array.mem_toList_iff.mp hy);simp[DictEntry.refKey,aa]
  have a':¬es.toList.any (·.refKey)=true:=by rw[a];exact zN
  rw[zc a'];exact congrArg some e
def ajt.look{h:Heap}{x dx C:Addr}{mA:Str->Option Value}(I:ajt h x dx C mA):∃q,PySem.W.InstAt h x (PySem.W.instObj C dx) C (some q)/\∀name,PySem.W.lookIn name q=some (mA name):=
 let⟨q,ho,hl⟩:=YH I.ns
 ⟨q,⟨I.obj,rfl,rfl,ho⟩,hl⟩
section
variable{prog:Program}{w:World}{A:Around}{E:Value->Shared->Prop}{s:Shared}{K:Fg_}{x dx C f:Addr}{mA:Str->Option Value}{name:Str}{v:Value}
def get_map{q:Bool}{Q:Value->Shared->Prop}(X:K.In s.heap)(I:ajt s.heap x dx C mA)(hg:PySem.W.plainGet K C name=true)(hh:PySem.W.hasDictIn K C=true)
  (ha:PySem.W.findIn K (.ref C) name=some none) (hv:mA name=some v) (z:PySem.W.handedIn v=true) (h:Q v {s with toks:=s.toks+1}):
  wpAny (model prog w) A (getAttr (.ref x) name q) Q E s:=by
 obtain⟨od,J,hl⟩:=I.look;exact PySem.W.get_value X J (zzD hg).1 (PySem.W.findObj_own hh ha rfl (by rw[hl,hv])) z h
def Zo{pl:Sem Bool}{Q:Value×List Value->Shared->Prop}(X:K.In s.heap)(I:ajt s.heap x dx C mA)(q:PySem.W.plainGet K C name=true)
  (hf:PySem.W.findIn K (.ref C) name=some (some (.ref f))) (ht:PySem.W.isFn K (.ref f)=true) (hv:mA name=none) (h:Q (.ref f,[.ref x]) s):
  wpAny (model prog w) A (getMethod (.ref x) name pl) Q E s:=by
 obtain⟨od,J,z⟩:=I.look;exact PySem.W.method_fn X J (zzD q).1 (zzD q).2 hf (beq_iff_eq.mp ht) (by show(PySem.W.lookIn name od).map (·.isSome)=some false;rw[z,hv];rfl) h
def aiD{ns:List Str}{Q:Unit->Shared->Prop}(X:K.In s.heap)(I:ajt s.heap x dx C mA)
  (hs:PySem.W.findIn K (.ref C) "__setattr__" =some (some (.builtin "object.__setattr__"))) (hp:PySem.W.plainOver K C=true) (ht:PySem.W.takerIn K C name=some none) (hh:PySem.W.hasDictIn K C=true)
  (hw:PySem.Within mA ns) (hsz:ns.length<=sizeLine)
  (h:∀h',ajt h' x dx C (λy=>if y=name then some v else mA y)->Heap.SameBut dx s.heap h'->Q () {s with heap:=h',toks:=s.toks+2}):
  wpAny (model prog w) A (setAttr (.ref x) name v) Q E s:=by
 obtain⟨od,J,hl⟩:=I.look;refine PySem.W.set_plain X J hs (PySem.W.osa_open (s:={s with toks:=s.toks+1}) (r:=none) X J hp ht λb=>?_);obtain⟨cd,hc,ab⟩:=PySem.W.any_some hh;have hx:s.heap.get? x=some ⟨.ref C,some dx,.plain, #[]⟩:=I.obj;refine zd (zC (zd (zd (wpAny_loadPart hx (zd (PySem.W.Looks.here (s:={s with toks:=s.toks+1}) (PySem.W.looks_clsIn X hc) ?_))))));rw[ab];refine zC (a:=some dx) (zd (zC (zd ?_)));refine wpAny_nsSet1 (s:={s with toks:=s.toks+1}) I.ns λh' z q=>?_;obtain⟨oD,ae,af,aa,ac,ad⟩:=z.count (PySem.Within.cons name v hw);refine zd (wpAny_lookBehind aa (by rw[ac];exact pastItsLine_dict (zV ad (by rw[zM];omega))) ?_);exact zC (h _ ⟨(q.2 _ (Ne.symm I.ne)).trans I.obj,z,I.ne⟩ q)
def aas{R:Result->Shared->Prop}{vs:List Value}{q:List (Str×Value)}(X:K.In s.heap)(hm:PySem.W.makesIn K C=true)
  (hi:PySem.W.findIn K (.ref C) "__init__" =some (some (.ref f))) (z:PySem.W.typeIn K (.ref f)=some (.type "function"))
  (h:codeAny (model prog w) (A.under (.builtin "type.__call__" ⟨.ref C::vs,q⟩)) (.call (.ref f) ⟨.ref (s.heap.objs.size+1)::vs,q⟩) (PySem.W.InitBack (s.heap.objs.size+1) R)
   {s with heap:=(s.heap.push PySem.W.emptyDict).push (PySem.W.instObj C s.heap.objs.size)}):
  codeAny (model prog w) A (.call (.ref C) ⟨vs,q⟩) R s:=by
 obtain⟨hh,g,d,t,os⟩:=s;exact PySem.W.make_core (zzY X hm) (PySem.W.looks_findIn X hi) (λself=>PySem.W.bind_fn X self z) (.inl rfl) h
def WR{R:Result->Shared->Prop}(X:K.In s.heap)(hm:PySem.W.makesIn K C=true)
  (hi:PySem.W.findIn K (.ref C) "__init__" =some (some (.builtin "object.__init__")))
  (q:∀self,PySem.W.Looks (model prog w) s.heap (bindSpecial (.builtin "object.__init__") self) (.builtin "object.__init__",[self]))
  (h:codeAny (model prog w) (A.under (.builtin "type.__call__" ⟨[.ref C],[]⟩)) (.call (.builtin "object.__init__") ⟨[.ref (s.heap.objs.size+1)],[]⟩) (PySem.W.InitBack (s.heap.objs.size+1) R)
   {s with heap:=(s.heap.push PySem.W.emptyDict).push (PySem.W.instObj C s.heap.objs.size)}):
  codeAny (model prog w) A (.call (.ref C) ⟨[],[]⟩) R s:=by
 obtain⟨z,g,d,t,os⟩:=s;exact PySem.W.make_core (zzY X hm) (PySem.W.looks_findIn X hi) q (.inr ⟨rfl,rfl⟩) h
end
noncomputable def Ez(f:Str)(v:V):List (Str×V)->List (Str×V)
 |[]=>[(f,v)]
 |(g,x)::r=>if g=f then(g,v)::r else(g,x)::Ez f v r
theorem IW(f g:Str)(v:V):∀fs:List (Str×V),(Ez f v fs).lookup g=if g=f then some v else fs.lookup g
 |[]=>by
  show List.lookup g [(f,v)]=_;by_cases h:g=f
  ·have q:(g==f)=true:=beq_iff_eq.mpr h
   simp only[List.lookup,q,zg h]
  ·have q:(g==f)=false:=beq_eq_false_iff_ne.mpr h
   simp only[List.lookup,q,zc h]
 |(k,x)::r=>by
  have ih:=IW f g v r;rw[show Ez f v ((k,x)::r)=(if k=f then(k,v)::r else(k,x)::Ez f v r)from rfl];by_cases z:k=f
  ·rw[zg z]
   by_cases h:g=k
   ·have q:(g==k)=true:=beq_iff_eq.mpr h
    simp only[List.lookup,q,zg (h.trans z)]
   ·have q:(g==k)=false:=beq_eq_false_iff_ne.mpr h
    simp only[List.lookup,q,zc (λe:g=f=>h (e.trans z.symm))]
  ·rw[zc z]
   by_cases h:g=k
   ·have q:(g==k)=true:=beq_iff_eq.mpr h
    simp only[List.lookup,q,zc (λe:g=f=>z (h.symm.trans e))]
   ·have q:(g==k)=false:=beq_eq_false_iff_ne.mpr h
    simp only[List.lookup,q];exact ih
theorem HS(f:Str)(v:V):∀fs:List (Str×V),f∈(Ez f v fs).map (·.1)/\∀g,g∈fs.map (·.1)->g∈(Ez f v fs).map (·.1)
 |[]=>⟨by simp[Ez],λg h=>by simp at h⟩
 |(k,x)::r=>by
  obtain⟨i1,z⟩:=HS f v r;rw[show Ez f v ((k,x)::r)=(if k=f then(k,v)::r else(k,x)::Ez f v r)from rfl];by_cases q:k=f
  ·rw[zg q]
   subst q;exact⟨by simp,λg h=>by simpa using h⟩
  ·rw[zc q]
   refine⟨?_,λg h=>?_⟩
   ·rw[zi]
    exact zt _ i1
   ·rw[zi]at h⊢
    rcases zv.mp h with e|e
    ·exact zv.mpr (.inl e)
    ·exact zt _ (z g e)
theorem JS(f:Str)(v:V):∀fs:List (Str×V),(Ez f v fs).length<=fs.length+1
 |[]=>by simp[Ez]
 |(k,x)::r=>by
  have z:=JS f v r;rw[show Ez f v ((k,x)::r)=(if k=f then(k,v)::r else(k,x)::Ez f v r)from rfl];by_cases q:k=f
  ·rw[zg q,zM,zM];omega
  ·rw[zc q,zM,zM];omega
def KH.some_of{v:V}{o:Option Value}(r:KH (some v) o):∃u,o=some u/\RelV v u:=by
 cases o with
 |none=>exact(show False from r).elim
 |some u=>exact⟨u,rfl,r⟩
def KH.none_of{o:Option Value}(r:KH none o):o=none:=by
 cases o with
 |none=>rfl
 |some u=>exact(show False from r).elim
def Yc{v:V}{u:Value}(r:RelV v u):PySem.W.handedIn u=true:=by
 cases v with
 |non=>cases (show u=Value.none from r);rfl
 |bl b=>cases (show u=Value.bool b from r);rfl
 |int i=>obtain⟨t,e⟩:=(show∃t,u=Value.int i t from r);cases e;rfl
 |str x=>obtain⟨t,e⟩:=(show∃t,u=Value.str x t from r);cases e;rfl
 |byt b=>obtain⟨t,e⟩:=(show∃t,u=Value.bytes b t from r);cases e;rfl
 |flt b=>obtain⟨t,e⟩:=(show∃t,u=Value.float b t from r);cases e;rfl
 |ref a=>cases (show u=Value.ref a from r);rfl
 |ty n=>cases (show u=Value.type n from r);rfl
section
variable{P:Program}{w:World}{H H':Hp}{h h':Heap}{a C dx:Addr}{fs fs':List (Str×V)}
def Nk(hok:HOk P w H h)(e:H a=some (.ins C dx fs)):∃mA,ajt h a dx C mA/\(∀f,KH (fs.lookup f) (mA f))/\PySem.Within mA (fs.map (·.1))/\fs.length<=1000/\H dx=some (.own a):=by
 obtain⟨d,z,ne,ob,mA,n,r,q⟩:=(show lW P w H h a (.ins C dx fs)from hok a _ e);exact⟨mA,⟨ob,n,ne⟩,r,q,z,d⟩
end
structure Cls(K:Fg_)(C:Addr):Prop where
 pg:PySem.W.plainGet K C Str.empty=true
 hd:PySem.W.hasDictIn K C=true
 po:PySem.W.plainOver K C=true
 sa:PySem.W.findIn K (.ref C) "__setattr__" =some (some (.builtin "object.__setattr__"))
def Cls.get{K:Fg_}{C:Addr}(c:Cls K C)(f:Str):PySem.W.plainGet K C f=true:=c.pg
noncomputable def iZ(K:Fg_)(C:Addr)(f:Str):Prop:=PySem.W.findIn K (.ref C) f=some none
def iZ.taker{K:Fg_}{C:Addr}{f:Str}(n:iZ K C f):PySem.W.takerIn K C f=some none:=by
 unfold PySem.W.takerIn;rw[show PySem.W.findIn K (.ref C) f=some none from n];rfl
structure Con(K:Fg_)(C:Addr)(f:Str)(v:V)(u:Value):Prop where
 at_:PySem.W.findIn K (.ref C) f=some (some u)
 rel:RelV v u
 get:PySem.W.specialIn K u "__get__" =some none
 cp:PySem.W.copiedNames.contains f=false
structure Meth(K:Fg_)(C:Addr)(m:Str)(f:Addr):Prop where
 at_:PySem.W.findIn K (.ref C) m=some (some (.ref f))
 fn:PySem.W.isFn K (.ref f)=true
 kp:PySem.W.keepIn K (.ref f)=true
section
variable{X:Cx}{pins:List (Addr×Obj)}{σ:St}{H:Hp}{s:Shared}{a C dx:Addr}{fs:List (Str×V)}{f:Str}{v:V}{A:Around}{E:Value->Shared->Prop}
def UV{b:Bool}{Q:Value->Shared->Prop}(I:Inv X pins σ H s)(e:H a=some (.ins C dx fs))(c:Cls X.K C)(n:iZ X.K C f)(l:fs.lookup f=some v)
  (h:∀u s',Inv X pins σ H s'->RelV v u->Q u s'):wpAny (model X.prog X.w) A (getAttr (.ref a) f b) Q E s:=by
 obtain⟨mA,O,r,_,_,_⟩:=Nk I.hok e;obtain⟨u,z,q⟩:=KH.some_of (v:=v) (o:=mA f) (by rw[<-l];exact r f);exact get_map I.kIn O (c.get f) c.hd n z (Yc q) (h u _ (I.tok _) q)
def Lw{m:Str}{g:Addr}{pl:Sem Bool}{Q:Value×List Value->Shared->Prop}(I:Inv X pins σ H s)(e:H a=some (.ins C dx fs))(c:Cls X.K C)(k:Meth X.K C m g)(l:fs.lookup m=none)
  (h:Q (.ref g,[.ref a]) s):wpAny (model X.prog X.w) A (getMethod (.ref a) m pl) Q E s:=by
 obtain⟨mA,O,r,_,_,_⟩:=Nk I.hok e;have hn:mA m=none:=KH.none_of (by rw[<-l];exact r m);exact Zo I.kIn O (c.get m) k.at_ k.fn hn h
def Vb{y:V}{u:Value}{Q:Unit->Shared->Prop}(I:Inv X pins σ H s)(e:H a=some (.ins C dx fs))(c:Cls X.K C)(n:iZ X.K C f)(hl:fs.length<1000)(ry:RelV y u)
  (h:∀s',Inv X pins σ (upd H a (.ins C dx (Ez f y fs))) s'->Q () s'):wpAny (model X.prog X.w) A (setAttr (.ref a) f u) Q E s:=by
 obtain⟨mA,O,r,wi,_,ho⟩:=Nk I.hok e;have hz:(fs.map (·.1)).length<=sizeLine:=by rw[za,zq];omega
 refine aiD I.kIn O c.sa c.po n.taker c.hd wi hz λh' O' sb=>h _ ?_;have hd:∃o,h'.get? dx=some o:=let⟨o,_,_,e',_⟩:=O'.ns;⟨o,e'⟩
 refine I.write (x:=a) (e:=dx) (by rw[e];exact True.intro) (.inr ho) (λb q hb z=>(sb.2 b hb).trans z) hd ?_;refine⟨by rw[iQ O.ne];exact ho,?_,O.ne,O'.obj,_,O'.ns,λg=>?_,λg hg=>?_⟩
 ·have:=JS f y fs;omega
 ·show KH ((Ez f y fs).lookup g) (if g=f then some u else mA g)
  rw[IW];by_cases q:g=f
  ·rw[zg q,zg q];exact ry
  ·rw[zc q,zc q];exact r g
 ·by_cases q:g=f
  ·rw[q];exact(HS f y fs).1
  ·refine(HS f y fs).2 g (wi g λz=>hg ?_)
   show(if g=f then some u else mA g)=none;rw[zc q];exact z
def Inv.made(I:Inv X pins σ H s):Inv X pins σ (upd (upd H s.heap.objs.size (.own (s.heap.objs.size+1))) (s.heap.objs.size+1) (.ins C s.heap.objs.size []))
  {s with heap:=(s.heap.push PySem.W.emptyDict).push (PySem.W.instObj C s.heap.objs.size)}:=by
 have z:(s.heap.push PySem.W.emptyDict).get? s.heap.objs.size=some PySem.W.emptyDict:=zA s.heap rfl
 have e2:((s.heap.push PySem.W.emptyDict).push (PySem.W.instObj C s.heap.objs.size)).get? (s.heap.objs.size+1)=some (PySem.W.instObj C s.heap.objs.size):=by
  have:=zA (s.heap.push PySem.W.emptyDict) (o:=PySem.W.instObj C s.heap.objs.size) rfl
  rwa [zzh]at this
 have e3:(s.heap.push PySem.W.emptyDict).Ns s.heap.objs.size (λ_=>none):=⟨PySem.W.emptyDict, #[],_,z,rfl,(λe he=>absurd he (by simp)),λ_=>rfl⟩;have I1:=I.laid (a:=s.heap.objs.size) (o:=.own (s.heap.objs.size+1)) (h':=s.heap.push PySem.W.emptyDict) (t':=s.toks) (λb u q=>zb _ q) (zm _) ⟨_,z⟩;refine I1.laid (a:=s.heap.objs.size+1) (o:=.ins C s.heap.objs.size []) (t':=s.toks) (λb u q=>zb _ q) (zz4 (zzh _ _)) ?_;have ne:s.heap.objs.size≠s.heap.objs.size+1:=zE (zzs _);refine⟨by rw[iQ ne,iC],zJ _,ne,e2,λ_=>none,(Heap.Ns1.of_empty e3).at λo q=>zb _ q,λ_=>True.intro,λy hy=>absurd rfl hy⟩
def aiF{prog:Program}{w:World}{env:Env}{e:Expr}{f:Str}{pos:Pos}{s:Shared}{Q:Value->Shared->Prop}(z:attributeBase e f env (eval e env)=eval e env)
  (h:wpAny (model prog w) A (eval e env) (λo q=>wpAny (model prog w) A (getAttr o f true) Q E q) E s):wpAny (model prog w) A (eval (.Attribute e f pos) env) Q E s:=
 Attribute_any_ h (by rw[arm_eval_Attribute,z])
end
noncomputable def akf(K:Fg_)(ta:TE)(f:Str):TE:=λσ H Q=>ta σ H λx H1=>∃a C dx fs v,x=.ref a/\H1 a=some (.ins C dx fs)/\Cls K C/\iZ K C f/\fs.lookup f=some v/\Q v H1
noncomputable def akz(K:Fg_)(ta tv:TE)(f:Str):TS:=λD σ H=>tv σ H λy H1=>ta σ H1 λx H2=>∃a C dx fs,x=.ref a/\H2 a=some (.ins C dx fs)/\Cls K C/\iZ K C f/\fs.length<1000/\
 D.nx σ (upd H2 a (.ins C dx (Ez f y fs)))
section
variable{X:Cx}{o e value:Expr}{f:Str}{pos pos' tpos:Pos}{ta tv:TE}
def aki(he:PE X e ta)(hb:attributeBase e f X.env (eval e X.env)=eval e X.env):PE X (.Attribute e f pos) (akf X.K ta f):=by
 intro pins s σ H Q I h;refine aiF hb (thn (he pins s σ H _ I h) λu s1 ⟨x,H1,I1,rx,a,C,dx,fs,v,ex,ea,c,n,l,q⟩=>?_);subst ex;obtain rfl:u=Value.ref a:=rx;exact UV I1 ea c n l λu' s2 z ru=>⟨v,H1,z,ru,q⟩
def ajC(ha:PE X o ta)(hv:PE X value tv)(hs:swapsWith value (some (.Attribute o f pos')) pos.line X.env=pure false):PS X (.Assign [.Attribute o f pos'] value pos) (akz X.K ta tv f):=by
 intro pins s σ H D I h;refine plainObj_wpAny_Assign_Attribute (thn (hv pins s σ H _ I h) λu s1 ⟨y,H1,I1,ry,q⟩=>thn (ha pins s1 σ H1 _ I1 q) λov s2 ⟨x,H2,z,rx,a,C,dx,fs,ex,ea,c,n,l,q2⟩=>?_) hs;subst ex;obtain rfl:ov=Value.ref a:=rx;exact Vb z ea c n l ry λs3 I3=>⟨σ,_,I3,q2⟩
end
section
variable{X:Cx}{pins:List (Addr×Obj)}{σ:St}{H:Hp}{s:Shared}{A:Around}{E:Value->Shared->Prop}{Q:Value->Shared->Prop}{c:Value}{b:Bool}
inductive Kd(K:Fg_)(H:Hp):V->Value->Prop where
 |non:Kd K H .non (.type "NoneType")
 |bl (x:Bool):Kd K H (.bl x) (.type "bool")
 |int (i:Int):Kd K H (.int i) (.type "int")
 |str (x:Str):Kd K H (.str x) (.type "str")
 |flt (x:UInt64):Kd K H (.flt x) (.type "float")
 |lst {a:Addr} {xs:List V} (e:H a=some (.lst xs)):Kd K H (.ref a) (.type "list")
 |frz {a:Addr} {o:Obj} {xs:List V} (e:H a=some (.frz o (.lst xs))):Kd K H (.ref a) (.type "list")
 |tup {a:Addr} {xs:List V} (e:H a=some (.tup xs)):Kd K H (.ref a) (.type "tuple")
 |dK {a:Addr} {kvs:List (Key×V)} (e:H a=some (.dK kvs)):Kd K H (.ref a) (.type "dict")
 |dT {a:Addr} {kvs:List (List Key×V)} (e:H a=some (.dT kvs)):Kd K H (.ref a) (.type "dict")
 | ins {a C dx:Addr} {fs:List (Str×V)} (e:H a=some (.ins C dx fs)) (cl:Cls K C) (ha:PySem.W.findIn K (.ref C) "__class__" =some (some (.builtin "object.__class__")))
   (hn:PySem.W.specialIn K (.builtin "object.__class__") "__get__" =some (some (.builtin "getset_descriptor.__get__"))) (htk:PySem.W.takesIn K (.builtin "object.__class__")=some true)
   (hm:PySem.W.mroIn K C (.type "object")=some true):Kd K H (.ref a) (.ref C)
def Qy{x:V}{u t:Value}(I:Inv X pins σ H s)(rx:RelV x u)(ty:Kd X.K H x t)(e:PySem.W.kitOne X.K t c=some b)(h:∀tk,Q (.bool b) {s with toks:=tk}):
  wpAny (model X.prog X.w) A (call (.builtin "isinstance") [u,c]) Q E s:=by
 cases ty with
 |non=>cases (show u=Value.none from rx);exact yi PySem.W.kitx_none I.kIn True.intro e (λz=>nomatch z) h
 |bl y=>cases (show u=Value.bool y from rx);exact yi PySem.W.kitx_bool I.kIn True.intro e (λz=>nomatch z) h
 |int i=>obtain⟨t,q⟩:=(show∃t,u=Value.int i t from rx);cases q;exact yi PySem.W.kitx_int I.kIn True.intro e (λz=>nomatch z) h
 |str y=>obtain⟨t,q⟩:=(show∃t,u=Value.str y t from rx);cases q;exact yi PySem.W.kitx_str I.kIn True.intro e (λz=>nomatch z) h
 |flt y=>obtain⟨t,q⟩:=(show∃t,u=Value.float y t from rx);cases q;exact yi PySem.W.kitx_float I.kIn True.intro e (λz=>nomatch z) h
 | @lst a xs ea=>
  cases (show u=Value.ref a from rx);obtain⟨_,_,n,_,h1⟩:=(show lW X.prog X.w H s.heap a (.lst xs)from I.hok a _ ea);exact yi PySem.W.kitx_list I.kIn ⟨_,h1,rfl⟩ e (λz=>nomatch z) h
 | @frz a ob xs ea=>
  cases (show u=Value.ref a from rx);obtain⟨_,_,_,n,_,h1⟩:=(show lW X.prog X.w H s.heap a (.frz ob (.lst xs))from I.hok a _ ea);exact yi PySem.W.kitx_list I.kIn ⟨_,h1,rfl⟩ e (λz=>nomatch z) h
 | @tup a xs ea=>
  cases (show u=Value.ref a from rx);obtain⟨_,_,_,p⟩:=(show lW X.prog X.w H s.heap a (.tup xs)from I.hok a _ ea);obtain⟨o,h1,h2,_⟩:=p;exact yi PySem.W.kitx_tuple I.kIn ⟨o,h1,h2⟩ e (λz=>nomatch z) h
 | @dK a kvs ea=>
  cases (show u=Value.ref a from rx);obtain⟨_,_,vs,_,p⟩:=(show lW X.prog X.w H s.heap a (.dK kvs)from I.hok a _ ea);obtain⟨o,es,ep,h1,h2,_⟩:=p;exact yi PySem.W.kitx_dict I.kIn ⟨o,h1,h2.1⟩ e (λz=>nomatch z) h
 | @dT a kvs ea=>
  cases (show u=Value.ref a from rx);obtain⟨_,_,xs,_,o,es,ep,h1,h2,_⟩:=(show lW X.prog X.w H s.heap a (.dT kvs)from I.hok a _ ea);exact yi PySem.W.kitx_dict I.kIn ⟨o,h1,h2.1⟩ e (λz=>nomatch z) h
 | @ins a C dx fs ea cl ha hn htk hm=>
  cases (show u=Value.ref a from rx);obtain⟨mA,O,_⟩:=Nk I.hok ea;obtain⟨od,J,_⟩:=O.look;exact yi (PySem.W.kitx_own (cl.get _) cl.hd ha hn htk hm) I.kIn J e (λz=>nomatch z) h
end
end L2
namespace L2
open PySem PySem.Spec PyProof.Rows
structure qW(k:Nat)(A:Around):Prop where
 hd:A.handled=none
 dp:A.depth+3*k+5<recursionLimit
 un:A.units+16*k+200<cLine
def qW.mono{j k:Nat}{A:Around}(r:qW k A)(h:j<=k):qW j A:=⟨r.hd,by have:=r.dp;omega,by have:=r.un;omega⟩
theorem qW.deeper{k:Nat}{A:Around}(r:qW (k+1) A)(env:Env):qW k (A.deeper env):=
 ⟨r.hd,by have:=r.dp;show A.depth+1+3*k+5<_;omega,by have:=r.un;show A.units+3+16*k+200<_;omega⟩
theorem qW.in1{k:Nat}{A:Around}(r:qW (k+1) A):qW k A.in1:=
 ⟨r.hd,by have:=r.dp;show A.depth+3*k+5<_;omega,by have:=r.un;show A.units+1+16*k+200<_;omega⟩
def Vc{A:Around}{C:Addr}{us:List Value}{q:List (Str×Value)}:(A.under (.builtin "type.__call__" ⟨.ref C::us,q⟩)).depth=A.depth+1:=by
 first|rfl|simp[Around.under,Code.weight,Code.isCreation,Code.isGuard,Code.isCaller,Code.frames,Code.isFrame,guardIds]
def UG{A:Around}{C:Addr}{us:List Value}{q:List (Str×Value)}:(A.under (.builtin "type.__call__" ⟨.ref C::us,q⟩)).units=A.units+1:=by
 first|rfl|simp[Around.under,Code.cUnits,Code.frames,Code.isFrame]
def qW.make{k:Nat}{A:Around}(r:qW (k+1) A)(C:Addr)(us:List Value)(q:List (Str×Value)):qW k (A.under (.builtin "type.__call__" ⟨.ref C::us,q⟩)):=
 ⟨r.hd,by have:=r.dp;rw[Vc];omega,by have:=r.un;rw[UG];omega⟩
theorem qW.depth{k:Nat}{A:Around}(r:qW k A):A.depth<recursionLimit:=by have:=r.dp;omega
theorem qW.units{k:Nat}{A:Around}(r:qW k A):A.units+64<cLine:=by have:=r.un;omega
def qW.units0{k:Nat}{A:Around}(r:qW k A):A.units<cLine:=by have:=r.un;omega
noncomputable def Wx:TA:=λ_ H Q=>Q [] H
noncomputable def EY(ta:TE)(tr:TA):TA:=λσ H Q=>ta σ H λx H1=>tr σ H1 λxs H2=>Q (x::xs) H2
section
variable{X:Cx}{e:Expr}{es:List Expr}{te:TE}{t:TA}{pos:Pos}
def iw:PA X [] Wx:=λ_ _ _ _ H Q I h=>Calls.spliced_nil ⟨[],H,I,.nil,h⟩
def ir(ha:PE X e te)(hr:PA X es t)(hs:starEach (e::es) X.env=(false,eval e X.env)::starEach es X.env:=by rfl):PA X (e::es) (EY te t):=by
 intro pos pins s σ H Q I h;rw[hs];show wpAny _ _ (spliced ((false,eval e X.env)::backTo pos (starEach es X.env))) _ _ s;refine Calls.spliced_cons (thn (ha pins s σ H _ I h) λu s1 ⟨x,H1,I1,r1,q1⟩=>?_);exact thn (hr pos pins s1 σ H1 _ I1 q1) λus s2 ⟨xs,H2,q,z,q2⟩=>⟨x::xs,H2,q,.cons r1 z,q2⟩
noncomputable def alN(t:TA):TE:=λσ H Q=>t σ H λxs H1=>xs.length<=sizeLine/\∀p,H1 p=none->Q (.ref p) (upd H1 p (.tup xs))
noncomputable def alX(t:TA):TE:=λσ H Q=>t σ H λxs H1=>xs.length<=sizeLine/\∀p,H1 p=none->Q (.ref p) (upd H1 p (.lst xs))
def mj{x1}(h:PA X es t):PE X (.Tuple es x1 pos) (alN t):=by
 intro pins s σ H Q I hq;refine wpAny_Tuple_spliced (thn (h pos pins s σ H _ I hq) λus s1 ⟨xs,H1,I1,r,z,q⟩=>⟨by rw[<-r.length];exact z,?_⟩);have hf:H1 s1.heap.objs.size=none:=I1.hok.fresh (zm _);refine⟨.ref s1.heap.objs.size,upd H1 s1.heap.objs.size (.tup xs),I1.laid (t':=s1.toks) (λb u e=>zb _ e) (zm _) ?_,rfl,q _ hf⟩;exact⟨z,us,r,⟨_,zA _ rfl,rfl,_,rfl⟩⟩
def kZ(h:PA X es t):PE X (.List es pos) (alX t):=by
 intro pins s σ H Q I hq;refine wpAny_List_spliced (thn (h pos pins s σ H _ I hq) λus s1 ⟨xs,H1,I1,r,z,q⟩=>⟨by rw[<-r.length];exact z,?_⟩);have hf:H1 s1.heap.objs.size=none:=I1.hok.fresh (zm _);refine⟨.ref s1.heap.objs.size,upd H1 s1.heap.objs.size (.lst xs),I1.laid (t':=s1.toks) (λb u e=>zb _ e) (zm _) ?_,rfl,q _ hf⟩;exact⟨z,us,0,r,zA _ rfl⟩
end
abbrev Sp:=List V->Hp->VK->XK->Prop
abbrev CXT:=List Env->Hp->Shared->XK->Value->Shared->Prop
structure Ze(P:Program)(w:World)(K:Fg_)(mg:Str->Option Value)(base:Heap)(A:Around)(outer:List Env)(s:Shared)(H:Hp):Prop where
 frames:A.frames=some outer
 mod:Mod K mg base
 bs:∀b o,base.get? b=some o->s.heap.get? b=some o/\H b=none
 bsz:base.objs.size<=s.heap.objs.size
 funs:s.heap.FunFrames base outer
 frf:∀b∈frs outer,H b=none
 hok:HOk P w H s.heap
 bare:AllBare s.gens
noncomputable def CE(outer:List Env)(P:Program)(w:World)(H:Hp)(s:Shared)(Q:VK)(u:Value)(s':Shared):Prop:=
 ∃v H',s'.os=s.os/\AllBare s'.gens/\Un (frs outer) [] H H' s.heap s'.heap/\HOk P w H' s'.heap/\RelV v u/\Q v H'
noncomputable def CR(CX:CXT)(outer:List Env)(P:Program)(w:World)(H:Hp)(s:Shared)(Q:VK)(E:XK)(r:Result)(s':Shared):Prop:=
 match r with
 |.ok (.ret u)=>CE outer P w H s Q u s'
 |.ok _=>False
 |.error e=>CX outer H s E e s'
structure jK(P:Program)(w:World)(K:Fg_)(mg:Str->Option Value)(base:Heap)(CX:CXT)(k:Nat)(f:Addr)(fd:FuncData)(ps:List Str)(sp:Sp):Prop where
 len:∀vs H Q E,sp vs H Q E->vs.length=ps.length
 run:∀(A:Around)(outer:List Env)(s:Shared)(H:Hp)(args:Args)(us:List Value)(vs:List V)(Q:VK)(E:XK),qW k A->Ze P w K mg base A outer s H->BindsTo s fd args (ps.zip us)->Vals vs us->sp vs H Q E->
  codeAny (model P w) A (.call (.ref f) args) (CR CX outer P w H s Q E) s
def Ze.make{P:Program}{w:World}{K:Fg_}{mg:Str->Option Value}{base:Heap}{A:Around}{outer:List Env}{s:Shared}{H:Hp}(e:Ze P w K mg base A outer s H)(C:Addr)(us:List Value)(q:List (Str×Value)):
  Ze P w K mg base (A.under (.builtin "type.__call__" ⟨.ref C::us,q⟩)) outer s H:=⟨by first|exact e.frames|(simpa [Around.under,Code.envs,Code.isFrame,pushEnvs] using e.frames),e.mod,e.bs,e.bsz,e.funs,e.frf,e.hok,e.bare⟩
theorem Ze.in1{P:Program}{w:World}{K:Fg_}{mg:Str->Option Value}{base:Heap}{A:Around}{outer:List Env}{s:Shared}{H:Hp}(e:Ze P w K mg base A outer s H):
  Ze P w K mg base A.in1 outer s H:=⟨e.frames,e.mod,e.bs,e.bsz,e.funs,e.frf,e.hok,e.bare⟩
section
variable{X:Cx}{pins:List (Addr×Obj)}{σ:St}{H:Hp}{s s':Shared}
def Inv.env0(I:Inv X pins σ H s):Ze X.prog X.w X.K X.mg X.base X.A X.stack s H:=
 ⟨I.ok.frames,I.ok.mod,I.bs,zV I.ok.bsz I.sz,I.stack,I.stkFree,I.hok,I.bare⟩
def Inv.after{Q:VK}{u:Value}(I:Inv X pins σ H s)(h:CE X.stack X.prog X.w H s Q u s'):EP X pins σ Q u s':=by
 obtain⟨v,H',os,bare,un,hok,r,q⟩:=h;obtain⟨hh,g,d,t,aa⟩:=s';obtain rfl:aa=s.os:=os;exact⟨v,H',I.call (h':=hh) (g':=g) (d':=d) (t':=t) (ch:=[]) un hok bare (λb z=>absurd z (by simp)),r,q⟩
end
noncomputable def aao(sp:Sp)(dvs:List V)(E:XK)(t:TA):TE:=λσ H Q=>t σ H λvs H1=>sp (vs++dvs) H1 Q E
noncomputable def akb(C:Addr)(sp:Sp)(dvs:List V)(E:XK)(t:TA):TE:=λσ H Q=>t σ H λvs H1=>∀x dx,H1 x=none->H1 dx=none->dx≠x->
 sp (.ref x::(vs++dvs)) (upd (upd H1 dx (.own x)) x (.ins C dx [])) (λv H2=>v=.non/\Q (.ref x) H2) E
noncomputable def Binds(K:Fg_)(fd:FuncData)(ps:List Str)(ds:List Value):Prop:=
 ∀(s:Shared)(us:List Value),K.In s.heap->(us++ds).length=ps.length->BindsTo s fd ⟨us,[]⟩ (ps.zip (us++ds))
def Binds.all{K:Fg_}{fd:FuncData}{ps:List Str}(h:∀us:List Value,us.length=ps.length->bindArgs fd ⟨us,[]⟩=pure (ps.zip us)):Binds K fd ps []:=λs us _ q=>by
 rw[yn]at q⊢;exact .of_eq (h us q)
noncomputable def Ah(CX:CXT)(X:Cx)(E:XK):Prop:=∀(pins:List (Addr×Obj))(σ:St)(H:Hp)(s:Shared)(e:Value)(s':Shared),Inv X pins σ H s->CX X.stack H s E e s'->X.xe e s'
section
variable{X:Cx}{CX:CXT}{k:Nat}{f C:Addr}{fd:FuncData}{ps:List Str}{sp:Sp}{dvs:List V}{ds:List Value}{E:XK}{x m:Str}{p pos apos:Pos}{e o:Expr}{es:List Expr}{ta:TE}{t:TA}
def Tw{pins:List (Addr×Obj)}{σ:St}{H:Hp}{s:Shared}{Q:VK}{us:List Value}{vs:List V}(F:jK X.prog X.w X.K X.mg X.base CX k f fd ps sp)(hr:qW k X.A)(hb:Binds X.K fd ps ds)(hd:Vals dvs ds)(hx:Ah CX X E)
  (I:Inv X pins σ H s) (r:Vals vs us) (h:sp (vs++dvs) H Q E):wpAny (model X.prog X.w) X.A (call (.ref f) us) (EP X pins σ Q) X.xe s:=by
 have z:Vals (vs++dvs) (us++ds):=r.append hd;have hl:(us++ds).length=ps.length:=by rw[<-z.length];exact F.len _ _ _ _ h
 refine zz6 (codeAny_mono (F.run X.A X.stack s H ⟨us,[]⟩ (us++ds) (vs++dvs) Q E hr I.env0 (hb s us I.kIn hl) z h) λr s' q=>?_)
 cases r with
 |error e=>exact hx pins σ H s e s' I q
 |ok fl=>
  cases fl with
  |ret u=>exact I.after q
  |next=>exact False.elim q
  |brk=>exact False.elim q
  |cont=>exact False.elim q
def ait(F:jK X.prog X.w X.K X.mg X.base CX k f fd ps sp)(hr:qW k X.A)(hg:Gl X x)(hm:X.mg x=some (.ref f))(hk:PySem.W.keepIn X.K (.ref f)=true)(hb:Binds X.K fd ps ds)(hd:Vals dvs ds)(hx:Ah CX X E)
  (ha:PA X (e::es) t) (z:(x==("__debug__" :Str))=false:=by decide) (he:starEach (e::es) X.env=(false,eval e X.env)::starEach es X.env:=by rfl) (hpl:(backTo pos (starEach es X.env)).any (·.1)=false:=by rfl):
  PE X (.Call (.Name x p) (e::es) [] pos) (aao sp dvs E t):=by
 intro pins s σ H Q I h;refine yh (JG I hg hm ?_ z);refine zzd (h₀:=X.base) I.ok.mod.kin hk (thn (ha pos pins s σ H _ I h) λus s1 ⟨vs,H1,I1,r,q⟩=>⟨I1.kIn,?_⟩) he hpl;exact Tw F hr hb hd hx I1 r q
structure Mk(K:Fg_)(C f:Addr):Prop where
 makes:PySem.W.makesIn K C=true
 init:PySem.W.findIn K (.ref C) "__init__" =some (some (.ref f))
 fn:PySem.W.isFn K (.ref f)=true
 kp:PySem.W.keepIn K (.ref C)=true
def ZX{pins:List (Addr×Obj)}{σ:St}{H:Hp}{s:Shared}{Q:VK}{us:List Value}{vs:List V}(M:Mk X.K C f)(F:jK X.prog X.w X.K X.mg X.base CX k f fd ps sp)(hr:qW (k+1) X.A)(hb:Binds X.K fd ps ds)(hd:Vals dvs ds)
  (hx:Ah CX X E) (I:Inv X pins σ H s) (r:Vals vs us)
  (h:∀x dx,H x=none->H dx=none->dx≠x->sp (.ref x::(vs++dvs)) (upd (upd H dx (.own x)) x (.ins C dx [])) (λv H2=>v=.non/\Q (.ref x) H2) E):
  wpAny (model X.prog X.w) X.A (call (.ref C) us) (EP X pins σ Q) X.xe s:=by
 have hq:=h (s.heap.objs.size+1) s.heap.objs.size (I.hok.fresh (yp _)) (I.hok.fresh (zm _)) (zE (zzs _));have z:=Inv.made (C:=C) I;have r2:Vals (V.ref (s.heap.objs.size+1)::(vs++dvs)) (Value.ref (s.heap.objs.size+1)::(us++ds)):=.cons rfl (r.append hd)
 have hl:(Value.ref (s.heap.objs.size+1)::us++ds).length=ps.length:=by
  have e:=r2.length;rw[F.len _ _ _ _ hq]at e;exact e.symm
 refine zz6 (aas (f:=f) I.kIn M.makes M.init (beq_iff_eq.mp M.fn) (codeAny_mono (F.run _ X.stack _ _ ⟨Value.ref (s.heap.objs.size+1)::us,[]⟩ (Value.ref (s.heap.objs.size+1)::(us++ds)) _ _ E (hr.make C us [])
  (z.env0.make C us []) (hb _ (Value.ref (s.heap.objs.size+1)::us) z.kIn hl) r2 hq) λr s' q=>?_))
 cases r with
 |error e=>exact hx pins σ _ _ e s' z q
 |ok fl=>
  cases fl with
  |ret u=>
   obtain⟨v,H',I3,rv,ev,q3⟩:=z.after q;subst ev;exact⟨rv,⟨V.ref (s.heap.objs.size+1),H',I3,rfl,q3⟩⟩
  |next=>exact False.elim q
  |brk=>exact False.elim q
  |cont=>exact False.elim q
def lK(M:Mk X.K C f)(F:jK X.prog X.w X.K X.mg X.base CX k f fd ps sp)(hr:qW (k+1) X.A)(hg:Gl X x)(hm:X.mg x=some (.ref C))(hb:Binds X.K fd ps ds)(hd:Vals dvs ds)(hx:Ah CX X E)
  (ha:PA X (e::es) t) (z:(x==("__debug__" :Str))=false:=by decide) (he:starEach (e::es) X.env=(false,eval e X.env)::starEach es X.env:=by rfl) (hpl:(backTo pos (starEach es X.env)).any (·.1)=false:=by rfl):
  PE X (.Call (.Name x p) (e::es) [] pos) (akb C sp dvs E t):=by
 intro pins s σ H Q I h;refine yh (JG I hg hm ?_ z);refine zzd (h₀:=X.base) I.ok.mod.kin M.kp (thn (ha pos pins s σ H _ I h) λus s1 ⟨vs,H1,I1,r,q⟩=>⟨I1.kIn,?_⟩) he hpl;exact ZX M F hr hb hd hx I1 r q
end
noncomputable def PK(X:Cx)(kws:List Keyword)(t:TA):Prop:=
 ∀(pos:Pos)(pins:List (Addr×Obj))(s:Shared)(σ:St)(H:Hp)(Q:List V->Hp->Prop),Inv X pins σ H s->t σ H Q->wpAny (model X.prog X.w) X.A (evalAll ((backToKw pos (keywordEach kws X.env)).map (·.2))) (AP X pins σ Q) X.xe s
section
variable{X:Cx}{CX:CXT}{k:Nat}{f C:Addr}{fd:FuncData}{ps ks:List Str}{sp:Sp}{E:XK}{x m:Str}{p pos apos kpos:Pos}{e o:Expr}{es:List Expr}{kws:List Keyword}{te ta:TE}{t tk:TA}{nm:Option Str}
def aaO:PK X [] Wx:=λ_ _ _ _ H Q I h=>wpAny_evalAll_nil ⟨[],H,I,.nil,h⟩
def Yq(ha:PE X e te)(hr:PK X kws t):PK X (⟨nm,e,kpos⟩::kws) (EY te t):=by
 intro pos pins s σ H Q I h;show wpAny _ _ (evalAll ((do let v<-eval e X.env;standAt pos;pure v)::(backToKw pos (keywordEach kws X.env)).map (·.2))) _ _ s;refine wpAny_evalAll_cons (zd (thn (ha pins s σ H _ I h) λu s1 ⟨x,H1,I1,r1,q1⟩=>zd (zzW (zC ?_))));exact thn (hr pos pins s1 σ H1 _ I1 q1) λus s2 ⟨xs,H2,q,z,q2⟩=>⟨x::xs,H2,q,.cons r1 z,q2⟩
structure alS(K:Fg_)(fd:FuncData)(ps ks:List Str)(g:List Value->List Value->List Value)(gV:List V->List V->List V):Prop where
 to:∀(s:Shared)(us ws:List Value),K.In s.heap->(g us ws).length=ps.length->BindsTo s fd ⟨us,ks.zip ws⟩ (ps.zip (g us ws))
 rel:∀{vs:List V}{us:List Value}{zs:List V}{ws:List Value},Vals vs us->Vals zs ws->Vals (gV vs zs) (g us ws)
variable{g:List Value->List Value->List Value}{gV:List V->List V->List V}
end
structure iJ(N P:List Str)(sc:Scope):Prop where
 kind:sc.kind=.function
 co:sc.isCoroutine=false
 gen:sc.isGenerator=false
 nd:N.Nodup
 pre:N.take P.length=P
 par:∀x∈P,sc.names.lookup x=some .local\/sc.names.lookup x=some .cell
 nofree:∀y∈sc.names,y.2≠.free
theorem Ol{q:Str->Option NameKind}{x:Str}:∀{binds:List (Str×Value)}{m:Str->Option Value},(∀v,(x,v)∉binds)->bindL q binds m x=m x
 |[],_,_=>rfl
 |(n,v)::r,m,h=>by
  unfold bindL;rw[Ol λw z=>h w (zt _ z)];split
  ·have:x≠n:=by rintro rfl;exact h v zk
   simp[this]
  ·rfl
theorem OJ{q:Str->Option NameKind}{x:Str}:∀{binds:List (Str×Value)}{m:Str->Option Value},(∀v,(x,v)∉binds)->bindC q binds m x=m x
 |[],_,_=>rfl
 |(n,v)::r,m,h=>by
  unfold bindC;rw[OJ λw z=>h w (zt _ z)];split
  ·rfl
  ·have:x≠n:=by rintro rfl;exact h v zk
   simp[this]
theorem Ob{q:Str->Option NameKind}{x:Str}{v:Value}:∀{P:List Str}{vs:List Value}{i:Nat}{m:Str->Option Value},P.Nodup->P[i]? =some x->vs[i]? =some v->q x=some .local->
  bindL q (P.zip vs) m x=some v
 |[],_,_,_,_,h,_,_=>by simp at h
 |_::_,[],_,_,_,_,h,_=>by simp at h
 |p::P,w::vs,0,m,nd,h1,h2,hk=>by
  simp at h1 h2;subst h1;subst h2;show bindL q ((p,w)::P.zip vs) m p=_;unfold bindL;rw[Ol λv z=>(zP.mp nd).1 (zz8 z).1,zg hk];simp
 |p::P,w::vs,i+1,m,nd,h1,h2,hk=>by
  show bindL q ((p,w)::P.zip vs) m x=_;unfold bindL;exact Ob (i:=i) (zP.mp nd).2 (by simpa using h1) (by simpa using h2) hk
theorem Ox{q:Str->Option NameKind}{x:Str}{v:Value}:∀{P:List Str}{vs:List Value}{i:Nat}{m:Str->Option Value},P.Nodup->P[i]? =some x->vs[i]? =some v->q x≠some .local->
  bindC q (P.zip vs) m x=some v
 |[],_,_,_,_,h,_,_=>by simp at h
 |_::_,[],_,_,_,_,h,_=>by simp at h
 |p::P,w::vs,0,m,nd,h1,h2,hk=>by
  simp at h1 h2;subst h1;subst h2;show bindC q ((p,w)::P.zip vs) m p=_;unfold bindC;rw[OJ λv z=>(zP.mp nd).1 (zz8 z).1,zc hk];simp
 |p::P,w::vs,i+1,m,nd,h1,h2,hk=>by
  show bindC q ((p,w)::P.zip vs) m x=_;unfold bindC;exact Ox (i:=i) (zP.mp nd).2 (by simpa using h1) (by simpa using h2) hk
noncomputable def start(N:List Str)(vs:List V):St:=vs.map some++List.replicate (N.length - vs.length) none
noncomputable def aay(CX:CXT)(P:Program)(w:World)(K:Fg_)(mg:Str->Option Value)(base:Heap)(N:List Str)(qual:Str)(scope:Scope)(f:Addr)(cd:Value)(A:Around)(outer:List Env)(s:Shared)(H:Hp)(E:XK):Cx where
 prog:=P
 w:=w
 K:=K
 mg:=mg
 base:=base
 A:=A.deeper (envOfC qual scope s.heap.objs.size f cd)
 N:=N
 s₀:=s
 H₀:=H
 env:=envOfC qual scope s.heap.objs.size f cd
 outer:=outer
 stack:=envOfC qual scope s.heap.objs.size f cd::outer
 ex:=[]
 calm:=true
 fn:=λ_=>true
 pn:=[]
 xe:=λe s'=>wpAny (model P w) (A.deeper (envOfC qual scope s.heap.objs.size f cd)) (leaving (envOfC qual scope s.heap.objs.size f cd) e) (λ_ s''=>CX outer H s E e s'') (λe' s''=>CX outer H s E e' s'') s'
def SM{z:Scope}{n:Nat}{x:Str}(h:z.names.lookup x=some .cell):∃c,(cellsFrom n z.names []).lookup x=some c:=by
 have q:=PySem.W.cellsFrom_some z.names n [] (.inl h);exact yM.mp q
def Wy{CX:CXT}{P:Program}{w:World}{K:Fg_}{mg:Str->Option Value}{base:Heap}{N ps:List Str}{aa:Str}{scope:Scope}{f:Addr}{cd:Value}{A:Around}{outer:List Env}{s s1:Shared}{H:Hp}{E:XK}{us:List Value}{vs:List V}
  (S:iJ N ps scope) (hd:A.handled=none) (e0:Ze P w K mg base A outer s H) (hl:vs.length=ps.length) (r:Vals vs us)
  (x:InCallC s s.heap.objs.size (bindL (envOfC aa scope s.heap.objs.size f cd).kindOf (ps.zip us) λ_=>none) (cellsFrom (s.heap.objs.size+1) scope.names []) (bindC (envOfC aa scope s.heap.objs.size f cd).kindOf (ps.zip us) λ_=>none) s1):
  Inv (aay CX P w K mg base N aa scope f cd A outer s H E) [] (start N vs) H s1:=by
 have ad:ps.length<=N.length:=by have:=congrArg List.length S.pre;rw[z0]at this;omega
 obtain⟨h1,tk,rfl,hk⟩:=x.done;have ab:∀b:Addr,b∉(aay CX P w K mg base N aa scope f cd A outer s H E).ex:=λb z=>absurd (show b∈([]:List Addr)from z) (by simp)
 refine ⟨⟨e0.mod,S.kind,rfl,rfl,zm _,λy z c h1 h2=>?_,λy hy=>?_,λy c _ h=>?_,λ_=>hd,Around.frames_deeper e0.frames,.inr ⟨rfl,rfl⟩,λb z=>absurd z (ab b),e0.bs,e0.bsz,λb _ _=>ab b,λb z=>absurd z (ab b),e0.funs,e0.frf⟩,
  rfl,e0.bare,Un.kept hk,⟨_,x.toInCall.ns,λi y v h1 h2 h3=>?_⟩,λy c h=>⟨_,x.cell y c h⟩,e0.hok.fresh (zm _),λy c h=>?_,λp hp=>absurd (show p∈([]:List (Addr×Obj))from hp) (by simp),e0.hok.kept hk,?_⟩
 ·exact name_of_addr x.apart (yO h1) (yO h2)
 ·have hy:scope.names.lookup y=some .cell\/scope.names.lookup y=some .free:=hy
  rcases hy with hy|hy
  ·exact SM hy
  ·exact absurd rfl (S.nofree _ (yO hy))
 ·exact zz3 (x.above y c (yO h))
 ·have hi:i<vs.length:=by
   unfold start at h2;by_cases hi:i<vs.length
   ·exact hi
   ·rw[z7 (by simpa using hi)]at h2
    rw[List.getElem?_replicate]at h2;split at h2<;>cases h2
  have ha:vs[i]? =some v:=by
   unfold start at h2;rw[z9 (by simpa using hi),zf]at h2
   cases e:vs[i]? with
   |none=>rw[e]at h2;cases h2
   |some a=>rw[e]at h2;cases h2;rfl
  obtain⟨u,hu,rv⟩:=r.get ha
  have hp:ps[i]? =some y:=by
   rw[<-S.pre,List.getElem?_take_of_lt (by omega)];exact h1
  have ac:ps.Nodup:=by rw[<-S.pre];exact S.nd.sublist (List.take_sublist _ _)
  refine⟨u,rv,?_⟩;rcases S.par y (zn hp)with k|k
  ·exact .inl ⟨k,Ob ac hp hu k⟩
  ·obtain⟨c,e⟩:=SM (n:=s.heap.objs.size+1) k
   refine .inr ⟨.inl k,c,e,?_⟩;have q:=x.cell y c e;rw[Ox ac hp hu (by show scope.names.lookup y≠_;rw[k];decide)]at q;exact q
 ·exact e0.hok.fresh (zz3 (x.above y c (yO h)))
 ·unfold start
  show _=N.length;rw[zB,za,List.length_replicate];omega
def akD{CX:CXT}{P:Program}{w:World}{K:Fg_}{mg:Str->Option Value}{base:Heap}{k:Nat}{f:Addr}{name z:Str}{ab:Arguments}{ac:List Stmt}{scope:Scope}{dV kV ah pm aa ct oc:Value}{an od:Option Addr}
  {ai:Array (Option Value)} {N ps:List Str} {sp:Sp} (lk:K.lookup f=some ⟨oc,od,.func (PySem.W.fnOf name z ab ac scope dV kV ah pm an aa ct),ai⟩) (ak:PySem.W.codeIn K aa z=true) (S:iJ N ps scope)
  (len:∀vs H Q E,sp vs H Q E->vs.length=ps.length)
  (ae:∀(A:Around)(outer:List Env)(s:Shared)(H:Hp)(vs:List V)(Q:VK)(E:XK),qW k (A.deeper (envOfC z scope s.heap.objs.size f aa))->sp vs H Q E->
   ∃t,PSs (aay CX P w K mg base N z scope f aa A outer s H E) ac t/\t {nx:=λ_ H'=>Q .non H',rt:=Q} (start N vs) H):
  jK P w K mg base CX (k+1) f (PySem.W.fnOf name z ab ac scope dV kV ah pm an aa ct) ps sp:=by
 refine⟨len,λA outer s H args us vs Q E hr e0 hb r af=>?_⟩;have hl:=len _ _ _ _ af;have KX:K.In s.heap:=e0.mod.kin.keeps λb o e=>(e0.bs b o e).1;have aj:s.heap.NoLimit:=e0.mod.nolimit.keeps λb o e=>(e0.bs b o e).1
 have ad:∀y∈ps.zip us,scope.names.lookup y.1=some .local\/(scope.names.lookup y.1=some .cell/\((cellsFrom (s.heap.objs.size+1) scope.names []).lookup y.1).isSome=true):=fun⟨n,v⟩ hy=>by
  rcases S.par n (zz8 hy).1 with q|q
  ·exact .inl q
  ·exact .inr ⟨q,PySem.W.cellsFrom_some _ _ _ (.inl q)⟩
 refine codeAny_call_function hr.depth (KX _ _ lk) rfl S.co S.gen rfl (PySem.W.codeRec_of KX ak) (hb _ _ _ _ ?_);refine wpAny_newFunctionEnv_cells S.kind ad λenv he s1 x=>?_;subst he;refine⟨aj.keeps x.toInCall.keep,codeAny_func ?_⟩;obtain⟨t,ht,hq⟩:=ae A outer s H vs Q E (hr.deeper _) af;have I:Inv (aay CX P w K mg base N z scope f aa A outer s H E) [] (start N vs) H s1:=Wy S hr.hd e0 hl r x;refine ye (ht [] s1 (start N vs) H _ I hq) (λfl s' hs=>?_) λe s' hs=>hs
 have ag:∀{σ':St}{H':Hp}{v:V}{u:Value},Inv (aay CX P w K mg base N z scope f aa A outer s H E) [] σ' H' s'->RelV v u->Q v H'->CE outer P w H s Q u s':=
  fun{σ' H' v u} J rv q=>⟨v,H',J.os,J.bare,J.base,J.hok,rv,q⟩
 cases fl with
 |ret u=>
  obtain⟨v,σ',H',J,rv,q⟩:=hs;exact ag J rv q
 |next=>
  obtain⟨σ',H',J,q⟩:=hs;exact ag (v:=V.non) (u:=Value.none) J rfl q
 |brk=>
  obtain⟨_,_,_,q⟩:=hs;exact False.elim q
 |cont=>
  obtain⟨_,_,_,q⟩:=hs;exact False.elim q
end L2
namespace L2
open PySem PySem.Spec PyProof.Rows
section
variable{X:Cx}{x:Str}{p pos:Pos}{e:Expr}{es:List Expr}{t:TA}{id T:String}{r:List V->Hp->VK->Prop}
noncomputable def tCB(r:List V->Hp->VK->Prop)(t:TA):TE:=λσ H Q=>t σ H λvs H1=>r vs H1 Q
def jm(z:nH X (.builtin id) r)(hg:Gl X x)(hm:X.mg x=none)(q:bootBuiltins x=some (.builtin id))(ha:PA X (e::es) t)(hn:x≠ "__name__" :=by decide) (hdb:(x==("__debug__" :Str))=false:=by decide)
  (he:starEach (e::es) X.env=(false,eval e X.env)::starEach es X.env:=by rfl) (hpl:(backTo pos (starEach es X.env)).any (·.1)=false:=by rfl):PE X (.Call (.Name x p) (e::es) [] pos) (tCB r t):=by
 intro pins s σ H Q I h;refine yh (Bc I hg hm q ?_ hn hdb);exact PyProof.Rows.callWith_builtin1 (thn (ha pos pins s σ H _ I h) λus s1 ⟨vs,H1,I1,r1,q1⟩=>z pins s1 σ H1 vs us Q I1 r1 q1) he hpl
def nu(z:nH X (.type T) r)(hg:Gl X x)(hm:X.mg x=none)(q:bootBuiltins x=some (.type T))(ha:PA X (e::es) t)(hn:x≠ "__name__" :=by decide) (hdb:(x==("__debug__" :Str))=false:=by decide)
  (he:starEach (e::es) X.env=(false,eval e X.env)::starEach es X.env:=by rfl) (hpl:(backTo pos (starEach es X.env)).any (·.1)=false:=by rfl):PE X (.Call (.Name x p) (e::es) [] pos) (tCB r t):=by
 intro pins s σ H Q I h;refine yh (Bc I hg hm q ?_ hn hdb);exact PyProof.Rows.callWith_type1 (thn (ha pos pins s σ H _ I h) λus s1 ⟨vs,H1,I1,r1,q1⟩=>z pins s1 σ H1 vs us Q I1 r1 q1) he hpl
end
end L2
namespace HT
open PySem PyProof.Rows
def Zu(A:Around)(s:Shared)(a:Int)(t:Tok)(c:Int)(u:Tok):∃e,SeqAt.EqAt A s (.int a t) (.int c u) e/\(e=true↔a=c):=
 ⟨(a==c),SeqAt.EqAt.int_int a t c u,by simp⟩
section
open PySem.SeqAt
open PySem.AutoSeq1 (wpAny_loadPart')
open PySem.MeetsSeq PySem.MeetsSeq2 PySem.MeetsSeq3
end
section
variable{prog:Program}{w:World}{A:Around}{E:Value->Shared->Prop}{s:Shared}
noncomputable def sIx(n d:Nat):Option Int->Nat
 |none=>d
 |some v=>if v<0 then(v+(n:Int)).toNat else min v.toNat n
def sIx_none(n d:Nat):sIx n d none=d:=rfl
def sIx_nat(n d k:Nat):sIx n d (some (k:Int))=min k n:=by
 show(if(k:Int)<0 then((k:Int)+(n:Int)).toNat else min (k:Int).toNat n)=min k n;rw[zc (by omega),zzP]
end
end HT
namespace L2
open PySem PySem.Spec PyProof.Rows
abbrev TO:=St->Hp->(Option Int->Hp->Prop)->Prop
noncomputable def PO(X:Cx)(e:Option Expr)(t:TO):Prop:=
 ∀(pins:List (Addr×Obj)) (s:Shared) (σ:St) (H:Hp) (Q:Option Int->Hp->Prop),Inv X pins σ H s->t σ H Q->
  wpAny (model X.prog X.w) X.A (evalPart e X.env) (λu s'=>∃o H',Inv X pins σ H' s'/\IsPart u o/\Q o H') X.xe s
noncomputable def Yi:TO:=λ_ H Q=>Q none H
noncomputable def akg(t:TE):TO:=λσ H Q=>t σ H λx H1=>∃i,x=.int i/\Q (some i) H1
def intsAre_of{ns:List Int}:∀{us:List Value},Vals (ns.map V.int) us->IntsAre us ns:=by
 induction ns with
 |nil=>intro us r;rw[y6]at r;cases r;exact .nil
 |cons n ns ih=>
  intro us r;rw[zi]at r
  cases r with
  |cons r1 r2=>
   obtain⟨t,e⟩:=r1;subst e;exact .cons n t (ih r2)
section
variable{X:Cx}{e:Expr}{te:TE}{lo hi:Option Expr}{tl th:TO}{pos p2:Pos}
def ais:PO X none Yi:=by
 intro pins s σ H Q I h;rw[evalPart_none];exact zC ⟨none,H,I,.none,h⟩
def Rj(h:PE X e te):PO X (some e) (akg te):=by
 intro pins s σ H Q I z;rw[evalPart_some];refine thn (h pins s σ H _ I z) λu s1 ⟨x,H1,I1,r1,q1⟩=>?_;obtain⟨i,rfl,q⟩:=q1;obtain⟨t,rfl⟩:=r1;exact⟨some i,H1,I1,.int i t,q⟩
noncomputable def SlR(X:Cx)(r:V->Option Int->Option Int->Hp->VK->Prop):Prop:=
 ∀(pins:List (Addr×Obj)) (s:Shared) (σ:St) (H:Hp) (x:V) (v vl vu:Value) (lo hi:Option Int) (sl:Addr) (Q:VK),Inv X pins σ H s->RelV x v->s.heap.IsSliceOf sl vl vu .none->IsPart vl lo->IsPart vu hi->r x lo hi H Q->
  ∃T id,typeLookup (.type T) "__getitem__" =pure (some (.builtin id))/\s.TypeIs v T/\wpAny (model X.prog X.w) X.A (getItem v (.ref sl)) (EP X pins σ Q) X.xe s
noncomputable def tSl(r:V->Option Int->Option Int->Hp->VK->Prop)(te:TE)(tl th:TO):TE:=λσ H Q=>te σ H λx H1=>tl σ H1 λl H2=>th σ H2 λu H3=>r x l u H3 Q
def SX{r:V->Option Int->Option Int->Hp->VK->Prop}(hr:SlR X r)(he:PE X e te)(hl:PO X lo tl)(hu:PO X hi th):PE X (.Subscript e (.Slice lo hi none p2) pos) (tSl r te tl th):=by
 intro pins s σ H Q I h;refine Subscript_ (thn (he pins s σ H _ I h) λv s1 ⟨x,H1,I1,r1,q1⟩=>?_);refine wpAny_Slice (thn (hl pins s1 σ H1 _ I1 q1) λvl s2 ⟨l,H2,I2,pl,q2⟩=>thn (hu pins s2 σ H2 _ I2 q2) λvu z ⟨u,H3,I3,pu,q3⟩=>?_);rw[evalPart_none];refine zC ?_;have I4:Inv X pins σ H3 {z with heap:=z.heap.push {cls:=.type "slice",data:=.fields #[vl,vu,.none]}}:=I3.kept (t':=z.toks) λb ob q=>zb _ q;obtain⟨T,id,hT,ht,hg⟩:=hr pins {z with heap:=z.heap.push {cls:=.type "slice",data:=.fields #[vl,vu,.none]}} σ H3 x v vl vu l u z.heap.objs.size Q I4 r1 (Heap.IsSliceOf.new ..) pl pu q3;show wpAny (model X.prog X.w) X.A (subscriptTail e (.Slice lo hi none p2) v (.ref z.heap.objs.size)) (EP X pins σ Q) X.xe {z with heap:=z.heap.push {cls:=.type "slice",data:=.fields #[vl,vu,.none]}};exact tail_any (ops:=[.ref z.heap.objs.size,v]) ht hT hg (by with_unfolding_all rfl)
noncomputable def Zd(xs:List V)(lo hi:Option Int):List V:=(xs.drop (HT.sIx xs.length 0 lo)).take (HT.sIx xs.length xs.length hi - HT.sIx xs.length 0 lo)
def QT(xs:List V)(lo hi:Option Int):(Zd xs lo hi).length<=xs.length:=by
 unfold Zd;rw[z0,yD];omega
end
end L2
namespace L2
open PySem PySem.Spec PyProof.Rows
noncomputable def ixN(n:Nat)(i:Int):Option Nat:=if 0<=i then(if i<n then some i.toNat else none)else if -(n:Int)<=i then some (i+n).toNat else none
noncomputable def atI{α:Type}(xs:List α)(i:Int):Option α:=(ixN xs.length i).bind λj=>xs[j]?
def Xe{n:Nat}{i:Int}{j:Nat}(h:ixN n i=some j):seqIndex? i n=some j/\j<n/\ -(n:Int)<=i/\i<n:=by
 unfold ixN at h;by_cases q:0<=i
 ·rw[zg q]at h
  by_cases h1:i<n
  ·rw[zg h1]at h
   have e:i.toNat=j:=zw h;exact⟨by rw[seqIndex_of q h1,e],by omega,by omega,h1⟩
  ·rw[zc h1]at h;cases h
 ·rw[zc q]at h
  by_cases h1: -(n:Int)<=i
  ·rw[zg h1]at h
   have e:(i+n).toNat=j:=zw h;exact⟨by rw[seqIndex_neg (by omega) h1,e],by omega,h1,by omega⟩
  ·rw[zc h1]at h;cases h
def Yj{α:Type}{xs:List α}{i:Int}{v:α}(h:atI xs i=some v):∃j,seqIndex? i xs.length=some j/\xs[j]? =some v/\j<xs.length/\ -(xs.length:Int)<=i/\i<xs.length:=by
 unfold atI at h
 cases e:ixN xs.length i with
 |none=>rw[e]at h;cases h
 |some j=>
  rw[e]at h;obtain⟨h1,h2,z,q⟩:=Xe e;exact⟨j,h1,h,h2,z,q⟩
def Iz{α:Type}{xs:List α}{j:Nat}{v:α}(h:xs[j]? =some v):atI xs (j:Int)=some v:=by
 have q:j<xs.length:=(zp.mp h).1
 have e:ixN xs.length (j:Int)=some j:=by
  unfold ixN;rw[zg (by omega),zg (by omega)];simp
 unfold atI;rw[e];exact h
noncomputable def aiS(b:Expr):Prop:=∀o i,subscripted b false o i=operate [o,i] (getItem o i)
noncomputable def IxR(X:Cx)(r:R2):Prop:=
 ∀(value slice:Expr) (pins:List (Addr×Obj)) (s:Shared) (σ:St) (H:Hp) (x y:V) (v u:Value) (Q:VK),Inv X pins σ H s->RelV x v->RelV y u->r x y H Q->
  subscripted slice false v u=operate [v,u] (getItem v u)->wpAny (model X.prog X.w) X.A (subscriptTail value slice v u) (EP X pins σ Q) X.xe s
noncomputable def MtR(X:Cx)(id:String)(r:V->List V->Hp->VK->Prop):Prop:=
 ∀(pins:List (Addr×Obj)) (s:Shared) (σ:St) (H:Hp) (x:V) (xs:List V) (v:Value) (us:List Value) (Q:VK),Inv X pins σ H s->RelV x v->Vals xs us->r x xs H Q->
  wpAny (model X.prog X.w) X.A (call (.builtin id) (v::us)) (EP X pins σ Q) X.xe s
section
variable{X:Cx}{a b:Expr}{ta tb:TE}{pos:Pos}
def jy{r:R2}(hr:IxR X r)(ha:PE X a ta)(hb:PE X b tb)(hs:aiS b):PE X (.Subscript a b pos) (tOp r ta tb):=by
 intro pins s σ H Q I h;exact Subscript_ (alg ha hb I h λv u s2 x y H2 z rx ry q=>hr a b pins s2 σ H2 x y v u Q z rx ry q (hs _ _))
noncomputable def alk(K:Fg_):R2:=λx y H Q=>∃p xs i v,x=.ref p/\y=.int i/\SqL K H p xs/\atI xs i=some v/\Q v H
noncomputable def aif(K:Fg_):R2:=λx y H Q=>∃p xs i v,x=.ref p/\y=.int i/\SqT K H p xs/\atI xs i=some v/\Q v H
def aiJ:IxR X (alk X.K):=by
 intro value ab pins s σ H x y v u Q I rx ry h hs;obtain⟨p,xs,i,z,rfl,rfl,hq,he,q⟩:=h;cases rx;obtain⟨t,rfl⟩:=ry;obtain⟨its,r,pl,hz⟩:=I.list hq;obtain⟨j,h1,h2,h3,h4,h5⟩:=Yj he;obtain⟨w,ew,ac⟩:=r.get h2;have hl:=r.length;have hn:=Qi;have aa:EP X pins σ Q w s:=⟨z,H,I,ac,q⟩;by_cases h0:0<=i
 ·have hj:i.toNat=j:=by
   rw[seqIndex_of h0 h5]at h1;exact zw h1
  exact item_listR pl.isList h0 (by omega) (by rw[hj];simpa using ew) aa hs
 ·have hj:(i+(its.toArray.size:Int)).toNat=j:=by
   rw[seqIndex_neg (by omega) h4]at h1;rw[zl,<-hl];exact zw h1
  exact subscriptTail_builtinR (x:=w) pl.isList.typeIs slot_list_getitem.lookup
   (wpAny_getItem_list_neg (Q:=λr s'=>r=w/\EP X pins σ Q r s') pl.isList (by omega) (by rw[zl]<;>omega) (by omega) (by rw[hj];simpa using ew) ⟨rfl,aa⟩) hs
def akk:IxR X (aif X.K):=by
 intro value ab pins s σ H x y v u Q I rx ry h hs;obtain⟨p,xs,i,z,rfl,rfl,hq,he,q⟩:=h;cases rx;obtain⟨t,rfl⟩:=ry;obtain⟨its,r,pl,hz⟩:=I.tuple hq;obtain⟨j,h1,h2,h3,h4,h5⟩:=Yj he;obtain⟨w,ew,ac⟩:=r.get h2;have hl:=r.length;have hn:=Qi;have aa:EP X pins σ Q w s:=⟨z,H,I,ac,q⟩
 exact subscriptTail_builtinR (x:=w) pl.typeIs slot_tuple_getitem.lookup
  (getItem_tuple (j:=j) (Q:=λr s'=>r=w/\EP X pins σ Q r s') pl (by omega) (by omega) (by rw[zl,<-hl];exact h1) (by simpa using ew) ⟨rfl,aa⟩) hs
def Vp(its:List Value)(n j:Nat)(u:Value):Obj.mapSeq (·.setIfInBounds j u) {cls:=.type "list",data:=.seq its.toArray n}={cls:=.type "list",data:=.seq (its.set j u).toArray n}:=by
 simp[Obj.mapSeq]
theorem Inv.lst{pins:List (Addr×Obj)}{σ:St}{H:Hp}{s:Shared}{p:Addr}{xs:List V}(I:Inv X pins σ H s)(h:H p=some (.lst xs)):
  ∃(its:List Value)(n:Nat),Vals xs its/\s.heap.get? p=some {cls:=.type "list",data:=.seq its.toArray n}/\xs.length<=sizeLine:=by
 obtain⟨z,its,n,r,e⟩:=I.hok p _ h;exact⟨its,n,r,e,z⟩
def Inv.lstUpd{pins:List (Addr×Obj)}{σ:St}{H:Hp}{s:Shared}{p:Addr}{xs ys:List V}{its its':List Value}{n z:Nat}{f:Obj->Obj}(I:Inv X pins σ H s)(h:H p=some (.lst xs))
  (ho:s.heap.get? p=some {cls:=.type "list",data:=.seq its.toArray n}) (hf:f {cls:=.type "list",data:=.seq its.toArray n}={cls:=.type "list",data:=.seq its'.toArray z}) (r:Vals ys its') (hz:ys.length<=sizeLine) (t:Nat):
  Inv X pins σ (upd H p (.lst ys)) {s with heap:=s.heap.update p f,toks:=t}:=by
 have e:(s.heap.update p f).get? p=some {cls:=.type "list",data:=.seq its'.toArray z}:=by
  rw[zzn f ho (by rw[hf]<;>rfl),hf]
 refine I.write (x:=p) (e:=p) (by rw[h];trivial) (.inl rfl) (λb u hb q=>(yt _ _ (Ne.symm hb)).trans q) ⟨_,e⟩ ?_;exact⟨hz,its',z,r,e⟩
noncomputable def alr:V->V->V->Hp->(Hp->Prop)->Prop:=λo i v H Q=>∃p xs k j,o=.ref p/\i=.int k/\H p=some (.lst xs)/\ixN xs.length k=some j/\Q (upd H p (.lst (xs.set j v)))
def set_list:amb X alr:=by
 intro pins s σ H o i v ov iv u Q I ro ri rv h;obtain⟨p,xs,k,j,rfl,rfl,hp,hj,q⟩:=h;cases ro;obtain⟨t,rfl⟩:=ri;obtain⟨its,n,r,ho,hz⟩:=I.lst hp;obtain⟨h1,h2,h3,h4⟩:=Xe hj;have z:=r.length;have hn:=Qi
 have I':Inv X pins σ (upd H p (.lst (xs.set j v))) {s with heap:=s.heap.update p (Obj.mapSeq (·.setIfInBounds j u))}:=
  I.lstUpd hp ho (Vp its n j u) (r.set rv j) (by rw[List.length_set];exact hz) s.toks
 by_cases h0:0<=k
 ·have hk:k.toNat=j:=by
   rw[seqIndex_of h0 h4]at h1;exact zw h1
  exact PySem.W.ki_setAt ho h0 (by omega) (by rw[zl,<-z];exact h4) (by rw[hk];exact⟨_,I',q⟩)
 ·have hk:(k+(its.toArray.size:Int)).toNat=j:=by
   rw[seqIndex_neg (by omega) h3]at h1;rw[zl,<-z];exact zw h1
  exact PySem.W.ki_setBack ho (by omega) (by rw[zl,<-z];exact h3) (by omega) (by rw[hk];exact⟨_,I',q⟩)
def Qp(lo hi:Option Int)(n:Nat):(sliceBounds lo hi none n).1=((HT.sIx n 0 lo:Nat):Int)/\(sliceBounds lo hi none n).2.1=((HT.sIx n n hi:Nat):Int)/\(sliceBounds lo hi none n).2.2=1:=by
 refine⟨?_,?_,rfl⟩
 ·cases lo with
  |none=>simp[sliceBounds,HT.sIx]
  |some i=>
   simp only[sliceBounds,HT.sIx,Option.getD_none,show(1:Int)>0 by decide,if_true];by_cases h:i<0
   ·simp only[h,if_true]<;>omega
   ·simp only[h,if_false]<;>omega
 ·cases hi with
  |none=>simp[sliceBounds,HT.sIx]
  |some i=>
   simp only[sliceBounds,HT.sIx,Option.getD_none,show(1:Int)>0 by decide,if_true];by_cases h:i<0
   ·simp only[h,if_true]<;>omega
   ·simp only[h,if_false]<;>omega
def MP(its:List Value)(lo hi:Option Int):slicePick its.toArray lo hi none=((its.drop (HT.sIx its.length 0 lo)).take (HT.sIx its.length its.length hi - HT.sIx its.length 0 lo)).toArray:=by
 obtain⟨h1,h2,q⟩:=Qp lo hi its.toArray.size;unfold slicePick;rw[h1,h2,q];simp only[sliceRange_one,pick_run,zl]<;>rfl
noncomputable def ali(K:Fg_):V->Option Int->Option Int->Hp->VK->Prop:=λx lo hi H Q=>∃a xs,x=.ref a/\SqL K H a xs/\∀p,H p=none->Q (.ref p) (upd H p (.lst (Zd xs lo hi)))
def ajw:SlR X (ali X.K):=by
 intro pins s σ H x v vl vu lo hi sl Q I rx hs pl pu h;obtain⟨a,xs,rfl,hx,q⟩:=h;cases rx;obtain⟨its,r,ht,hz⟩:=I.list hx;have z:=r.length;refine⟨"list",_,slot_list_getitem.lookup,ht.isList.typeIs,?_⟩;refine wpAny_getItem_list_slice ht.isList hs pl pu .none (by simp) ?_ (by rw[zl]<;>omega);rw[MP,<-z];refine⟨.ref s.heap.objs.size,_,I.laid (t':=s.toks) (o:=.lst (Zd xs lo hi)) (λb ob q=>zb _ q) (zm _) ?_,rfl,q _ (I.hok.fresh (zm _))⟩;exact⟨zV (QT xs lo hi) hz,_,0,(r.drop (HT.sIx xs.length 0 lo)).take (HT.sIx xs.length xs.length hi - HT.sIx xs.length 0 lo),zA _ rfl⟩
def Pj:nH X (.builtin "len") (λxs H Q=>∃p ys,xs=[.ref p]/\(SqL X.K H p ys\/SqT X.K H p ys)/\Q (.int ys.length) H):=by
 intro pins s σ H xs us Q I r h;obtain⟨p,ys,rfl,hq,q⟩:=h;obtain⟨u,rfl,rx⟩:=vals1 r;cases rx;have hn:=Qi;rcases hq with hq|hq
 ·obtain⟨its,r',pl,hz⟩:=I.list hq
  have z:=r'.length;exact Calls.call_len_list pl.isList (by simp only[zl]<;>omega) ⟨.int ys.length,H,I.tok _,⟨s.toks+1,by rw[zl,z]⟩,q⟩
 ·obtain⟨its,r',pl,hz⟩:=I.tuple hq
  have z:=r'.length;exact len_tuple pl (by simp only[zl]<;>omega) ⟨.int ys.length,H,I.tok _,⟨s.toks+1,by rw[zl,z]⟩,q⟩
def Fy:nH X (.builtin "len") (λxs H Q=>∃z,xs=[.str z]/\z.length<=sizeLine/\Q (.int z.length) H):=by
 intro pins s σ H xs us Q I r h;obtain⟨z,rfl,hz,q⟩:=h;obtain⟨u,rfl,t,rfl⟩:=vals1 r;have hn:=Qi;exact len_str (by omega) ⟨.int z.length,H,I.tok _,⟨_,rfl⟩,q⟩
def Nz:nH X (.type "list") (λxs H Q=>∃p ys,xs=[.ref p]/\(SqL X.K H p ys\/SqT X.K H p ys)/\∀l,H l=none->Q (.ref l) (upd H l (.lst ys))):=by
 intro pins s σ H xs us Q I r h;obtain⟨p,ys,rfl,hq,q⟩:=h;obtain⟨u,rfl,rx⟩:=vals1 r;cases rx
 have ab:∀(its:List Value),Vals ys its->ys.length<=sizeLine->∀(h':Heap)(z:Nat),(∀b o',s.heap.get? b=some o'->h'.get? b=some o')->
   h'.get? s.heap.objs.size=some {cls:=.type "list",dict:=none,data:=.seq its.toArray z,slots:= #[]}->EP X pins σ Q (.ref s.heap.objs.size) {s with heap:=h'}:=λits r' hz h' z kp e=>
  ⟨.ref s.heap.objs.size,_,I.laid (t':=s.toks) kp (zm _) (show lW X.prog X.w _ h' _ (.lst ys)from⟨hz,its,z,r',e⟩),rfl,q _ (I.hok.fresh (zm _))⟩
 rcases hq with hq|hq
 ·obtain⟨its,r',pl,hz⟩:=I.list hq
  have aa:=r'.length;obtain⟨o,ho,hc,n,hd⟩:=pl.isList;exact call_list_seq p (.inl rfl) ho hc hd (λh' z kp e=>ab its r' hz h' z kp e) (by simp only[zl]<;>omega)
 ·obtain⟨its,r',pl,hz⟩:=I.tuple hq
  have aa:=r'.length;obtain⟨o,ho,hc,n,hd⟩:=pl;exact call_list_seq p (.inr rfl) ho hc hd (λh' z kp e=>ab its r' hz h' z kp e) (by simp only[zl]<;>omega)
noncomputable def tyV(K:Fg_)(T:String)(x:V)(H:Hp):Prop:=match x with
 |.str _=>T= "str"
 |.int _=>T= "int"
 | .ref p=>(T= "list" /\∃xs,SqL K H p xs)\/(T= "tuple" /\∃o,K.lookup p=some o/\o.cls=.type "tuple" /\o.dict=none)\/
   (T= "dict" /\((∃kvs,H p=some (.dK kvs))\/∃kvs,H p=some (.dT kvs)))\/(T= "set" /\∃S n,H p=some (.set S n))
 |_=>False
def aaW{pins:List (Addr×Obj)}{σ:St}{H:Hp}{s:Shared}{T:String}{x:V}{v:Value}(I:Inv X pins σ H s)(r:RelV x v)(ty:tyV X.K T x H):
  s.TypeIs v T/\∀a,v=.ref a->∃ob,s.heap.get? a=some ob/\ob.dict=none:=by
 cases x with
 |str z=>
  obtain⟨t,rfl⟩:=r;cases (show T= "str" from ty);exact⟨typeIs_str s z t,λ_ e=>nomatch e⟩
 |int i=>
  obtain⟨t,rfl⟩:=r;cases (show T= "int" from ty);exact⟨typeIs_int s i t,λ_ e=>nomatch e⟩
 |ref p=>
  cases r;rcases ty with⟨rfl,xs,hq⟩|⟨rfl,o,q,hc,hd⟩|⟨rfl,q⟩|⟨rfl,S,n,q⟩
  ·obtain⟨its,_,pl,_⟩:=I.list hq
   refine⟨pl.isList.typeIs,λa e=>?_⟩;cases e;obtain⟨o,n,e,c,hd,_⟩:=pl;exact⟨o,e,hd⟩
  ·refine⟨⟨o,I.kIn p o q,hc⟩,λa e=>?_⟩
   cases e;exact⟨o,I.kIn _ o q,hd⟩
  ·have z:∃o,s.heap.get? p=some o/\o.ExactDict:=by
    rcases q with⟨kvs,q⟩|⟨kvs,q⟩
    ·obtain⟨_,_,_,_,o,_,_,e,ex,_⟩:=I.hok p _ q
     exact⟨o,e,ex⟩
    ·obtain⟨_,_,_,_,o,_,_,e,ex,_⟩:=I.hok p _ q
     exact⟨o,e,ex⟩
   obtain⟨o,e,ex⟩:=z;refine⟨⟨o,e,ex.1⟩,λa e2=>?_⟩;cases e2;exact⟨o,e,ex.2.1⟩
  ·obtain⟨o,_,_,_,e,ex,_⟩:=I.hok p _ q
   refine⟨⟨o,e,ex.1⟩,λa e2=>?_⟩;cases e2;exact⟨o,e,ex.2.1⟩
 |_=>exact False.elim ty
noncomputable def alB(K:Fg_)(T:String)(r:V->List V->Hp->VK->Prop)(to:TE):TE:=λσ H Q=>to σ H λx H1=>tyV K T x H1/\r x [] H1 Q
noncomputable def tBM(K:Fg_)(T:String)(r:V->List V->Hp->VK->Prop)(to:TE)(t:TA):TE:=λσ H Q=>to σ H λx H1=>tyV K T x H1/\t σ H1 λxs H2=>r x xs H2 Q
variable{o e:Expr}{es:List Expr}{to:TE}{t:TA}{name:Str}{apos cpos:Pos}{T id:String}{r:V->List V->Hp->VK->Prop}
def ajJ(pa:PlainAttrs T)(slot:Slot T name id)(z:typeOf (.builtin id)=pure (.type "method_descriptor")) (hm:MtR X id r) (ho:PE X o to)
  (q:attributeBase o name X.env (eval o X.env)=eval o X.env:=by rfl) (hline:(apos.endLine==cpos.line)=true:=by rfl):PE X (.Call (.Attribute o name apos) [] [] cpos) (alB X.K T r to):=by
 intro pins s σ H Q I h;refine wpAny_Call_method0_late q hline (thn (ho pins s σ H _ I h) λv s1 ⟨x,H1,I1,r1,ty,q1⟩=>?_);obtain⟨h1,h2⟩:=aaW I1 r1 ty;exact⟨T,id,pa,slot,z,h1,h2,Calls.callWith_builtin rfl (PySem.evalArgs_none (hm pins s1 σ H1 x [] v [] Q I1 r1 .nil q1))⟩
def alv(pa:PlainAttrs T)(slot:Slot T name id)(z:typeOf (.builtin id)=pure (.type "method_descriptor")) (hm:MtR X id r) (ho:PE X o to) (ha:PA X (e::es) t)
  (q:attributeBase o name X.env (eval o X.env)=eval o X.env:=by rfl)
  (hfew:((backTo cpos (starEach (e::es) X.env)).all (λx=>!x.1) && (backToKw cpos (keywordEach [] X.env)).all (λx=>x.1.isSome)
   && decide ((e::es).length+([]:List Keyword).length+(if([]:List Keyword).isEmpty then 0 else 1)<30))=true:=by rfl)
  (hline:(apos.endLine==cpos.line)=true:=by rfl) (hs:starEach (e::es) X.env=(false,eval e X.env)::starEach es X.env:=by rfl) (hplain:(backTo cpos (starEach es X.env)).any (·.1)=false:=by rfl):
  PE X (.Call (.Attribute o name apos) (e::es) [] cpos) (tBM X.K T r to t):=by
 intro pins s σ H Q I h;refine wpAny_Call_method_late q hfew hline rfl (thn (ho pins s σ H _ I h) λv s1 ⟨x,H1,I1,r1,ty,q1⟩=>?_);obtain⟨h1,h2⟩:=aaW I1 r1 ty;refine⟨T,id,pa,slot,z,h1,h2,?_⟩;have hA:=ha cpos pins s1 σ H1 _ I1 q1;rw[hs]at hA⊢;refine Calls.callWith_builtin (by show(false||(backTo cpos (starEach es X.env)).any (·.1))=false;rw[hplain]<;>rfl) (Calls.evalArgs_plain ?_);exact thn hA λus s2 ⟨vs,H2,I2,r2,q2⟩=>hm pins s2 σ H2 x vs v us Q I2 r1 r2 q2
end
end L2
namespace L2
open PySem PySem.Spec PyProof.Rows
noncomputable def MtM(X:Cx)(id:String)(r:V->List V->Hp->VK->Prop):Prop:=
 ∀(pins:List (Addr×Obj)) (s:Shared) (σ:St) (H:Hp) (x:V) (xs:List V) (v:Value) (us:List Value) (Q:VK),Inv X pins σ H s->RelV x v->Vals xs us->r x xs H Q->
  wpAny (model X.prog X.w) X.A (call (.builtin id) (v::us)) (EP X pins σ Q) X.xe s
def Vals.one{x:V}{us:List Value}(h:Vals [x] us):∃u,us=[u]/\RelV x u:=by
 cases h with|cons r q=>cases q;exact⟨_,rfl,r⟩
def Vals.two{x y:V}{us:List Value}(h:Vals [x,y] us):∃u v,us=[u,v]/\RelV x u/\RelV y v:=by
 cases h with|cons r q=>cases q with|cons r2 q2=>cases q2;exact⟨_,_,rfl,r,r2⟩
def Vals.zero:∀{us:List Value},Vals [] us->us=[]
 |_,.nil=>rfl
theorem Vals.dropLast{xs:List V}{us:List Value}(h:Vals xs us):Vals xs.dropLast us.dropLast:=by
 induction h with
 |nil=>exact .nil
 |cons r t ih=>
  cases t with
  |nil=>exact .nil
  |cons q t'=>exact .cons r ih
def VD{α:Type}(l:List α):l.eraseIdx (l.length - 1)=l.dropLast:=by
 induction l with
 |nil=>rfl
 |cons a r ih=>
  cases r with
  |nil=>rfl
  |cons b r=>
   have e:(a::b::r).length - 1=((b::r).length - 1)+1:=by
    have h1:(a::b::r).length=r.length+2:=rfl;have h2:(b::r).length=r.length+1:=rfl;omega
   rw[e,List.eraseIdx_cons_succ,ih]
   all_goals rfl
section
variable{X:Cx}{pins:List (Addr×Obj)}{σ:St}{H:Hp}{s:Shared}{l b:Addr}{xs ys zs:List V}
def Inv.lset{its its':List Value}{n:Nat}{f:Array Value->Array Value}{t':Nat}(I:Inv X pins σ H s)(hH:H l=some (.lst xs))
  (e:s.heap.get? l=some {cls:=.type "list",data:=.seq its.toArray n}) (hf:f its.toArray=its'.toArray) (hv:Vals ys its') (hz:ys.length<=sizeLine):
  Inv X pins σ (upd H l (.lst ys)) {s with heap:=s.heap.update l (Obj.mapSeq f),toks:=t'}:=by
 have q:=PySem.IsL.update e f;rw[hf]at q;refine I.write (x:=l) (e:=l) (by rw[hH];exact trivial) (.inl rfl) (λb' u hb z=>(yt s.heap (Obj.mapSeq f) (Ne.symm hb)).trans z) ⟨_,q⟩ ?_;exact⟨hz,its',_,hv,q⟩
def Inv.lnew{its:List Value}{t':Nat}(I:Inv X pins σ H s)(z:Vals ys its)(hz:ys.length<=sizeLine):
  Inv X pins σ (upd H s.heap.objs.size (.lst ys)) {s with heap:=s.heap.push {cls:=.type "list",data:=.seq its.toArray},toks:=t'}:=
 I.laid (λ_ _ q=>zb _ q) (zm _) ⟨hz,its,0,z,zA _ rfl⟩
theorem Inv.fresh(I:Inv X pins σ H s):H s.heap.objs.size=none:=I.hok.fresh (zm _)
def Inv.lstM(I:Inv X pins σ H s)(q:H l=some (.lst xs)):xs.length<=sizeLine/\∃(its:List Value)(n:Nat),Vals xs its/\xs.length=its.length/\s.heap.get? l=some {cls:=.type "list",data:=.seq its.toArray n}:=by
 obtain⟨z,its,n,r,e⟩:=I.hok l _ q;exact⟨z,its,n,r,r.length,e⟩
def aar{n:Nat}(h:n<=sizeLine):Builtin.List.listTooLong n=false:=by
 unfold Builtin.List.listTooLong;exact zF (by omega)
end
section
variable{X:Cx}
noncomputable def Jc:V->List V->Hp->VK->Prop:=λx vs H Q=>∃l xs y,x=.ref l/\vs=[y]/\H l=some (.lst xs)/\xs.length<sizeLine/\Q .non (upd H l (.lst (xs++[y])))
def lY:MtM X "list.append" Jc:=by
 intro pins s σ H x vs v us Q I rx rv h;obtain⟨l,xs,y,rfl,rfl,hH,hz,q⟩:=h;cases rx;obtain⟨u,rfl,ru⟩:=rv.one;obtain⟨z,its,n,r,hl,e⟩:=I.lstM hH;refine zz7 F.slot_list_append ⟨_,e,rfl⟩ F.entry_list_append (F.args_list_append_2 _ _) (PySem.list_append l its.toArray n u (by rw[zl];omega)) ⟨e,?_⟩;refine⟨.non,_,I.lset (its':=its++[u]) hH e (by simp) (r.append (.cons ru .nil)) ?_,rfl,q⟩;rw[zB,yV];omega
noncomputable def ajm:V->List V->Hp->VK->Prop:=λx vs H Q=>∃l b xs zs,x=.ref l/\vs=[.ref b]/\H l=some (.lst xs)/\H b=some (.lst zs)/\xs.length+zs.length<=sizeLine/\Q .non (upd H l (.lst (xs++zs)))
def YJ:MtM X "list.extend" ajm:=by
 intro pins s σ H x vs v us Q I rx rv h;obtain⟨l,b,xs,zs,rfl,rfl,hH,hB,hz,q⟩:=h;cases rx;obtain⟨u,rfl,ru⟩:=rv.one;cases ru;obtain⟨z,its,n,r,hl,e⟩:=I.lstM hH;obtain⟨z2,aa,n2,r2,ac,e2⟩:=I.lstM hB;have hsz:its.toArray.size+aa.toArray.size<=sizeLine:=by rw[zl,zl];omega
 have ab:¬(!its.toArray.isEmpty && Builtin.List.listTooLong (its.toArray.size+aa.toArray.size))=true:=by
  rw[aar hsz,zzI];exact zN
 refine zz7 F.slot_list_extend ⟨_,e,rfl⟩ F.entry_list_extend (F.args_list_extend_2 _ _)
  (AutoSeq1.list_extend_list_list_0 l its.toArray n b aa.toArray n2 ab (by rw[zl];omega) (by omega)) ⟨e,e2,?_⟩
 refine⟨.non,_,I.lset (its':=its++aa) hH e (by simp) (r.append r2) ?_,rfl,q⟩;rw[zB];omega
noncomputable def amh:V->List V->Hp->VK->Prop:=λx vs H Q=>∃l xs y,x=.ref l/\vs=[]/\H l=some (.lst xs)/\xs[xs.length - 1]? =some y/\Q y (upd H l (.lst xs.dropLast))
def aks:MtM X "list.pop" amh:=by
 intro pins s σ H x vs v us Q I rx rv h;obtain⟨l,xs,y,rfl,rfl,hH,hy,q⟩:=h;cases rx;have aa:=rv.zero;subst aa;obtain⟨z,its,n,r,hl,e⟩:=I.lstM hH;obtain⟨u,hu,ru⟩:=r.get hy
 have hy':its.toArray[its.toArray.size - 1]? =some u:=by
  show its.toArray[its.length - 1]? =some u;rw[<-yG,<-hl];exact hu
 refine zz7 F.slot_list_pop ⟨_,e,rfl⟩ F.entry_list_pop (F.args_list_pop_1 _) (MeetsSeq.list_pop_last l its.toArray n u hy' (by rw[zl];omega)) ⟨e,?_⟩;refine⟨y,_,I.lset (its':=its.dropLast) hH e ?_ r.dropLast ?_,ru,q⟩
 ·show its.toArray.eraseIdxIfInBounds (its.toArray.size - 1)=its.dropLast.toArray
  rw[zl,List.eraseIdxIfInBounds_toArray,VD]
 ·rw[List.length_dropLast]
  omega
noncomputable def alp:R2:=λx y H Q=>∃l b xs zs,x=.ref l/\y=.ref b/\H l=some (.lst xs)/\H b=some (.lst zs)/\xs.length+zs.length<=sizeLine/\∀p,H p=none->Q (.ref p) (upd H p (.lst (xs++zs)))
def Za:OpR X (binaryOp .Add) alp:=by
 intro pins s σ H x y v u Q I rx ry h;obtain⟨l,b,xs,zs,rfl,rfl,hH,hB,hz,q⟩:=h;cases rx;cases ry;obtain⟨z,its,n,r,hl,e⟩:=I.lstM hH;obtain⟨z2,aa,n2,r2,ab,e2⟩:=I.lstM hB;refine PySem.P.add_list e e2 ?_ (by rw[zl,zl];omega);have ea:its.toArray++aa.toArray=(its++aa).toArray:=by simp
 rw[ea];exact⟨.ref _,_,I.lnew (t':=s.toks) (r.append r2) (by rw[zB];omega),rfl,q _ I.fresh⟩
end
section
variable{prog:Program}{w:World}{A:Around}{E:Value->Shared->Prop}{s:Shared}
set_option maxRecDepth 100000 in
end
end L2
namespace Att
open PySem PySem.W PySem.Calls PyProof.Rows
def Ja{P:Params}{h:Heap}:∀(ns:List Int)(vs:List Value),WellAll P h vs (ns.map WData.int)->IntsAre vs ns:=by
 intro ns
 induction ns with
 |nil=>
  intro vs w;rw[y6]at w;cases w;exact .nil
 |cons n ns ih=>
  intro vs w;rw[zi]at w
  cases w with
  |cons a b=>
   cases a;exact .cons _ _ (ih _ b)
def Xw{l:OpenLaw}{n:Nat}(hn:l.most=some n){P:Params}{h:Heap}{args:List WData}{aa:List Value}
  (z:l.row.toRowW.claim.pre args=true) (ac:WellAll P h aa args):
  ∃a vs ns,aa=[Value.ref a]/\args=[WData.list (ns.map WData.int)]/\h.get? a=some {cls:=.type "list",data:=.seq vs.toArray}/\IntsAre vs ns/\ns.length<=n:=by
 have ad:WShape.hasAll [] args [.list .int]=true:=(pre_splitW z).1;have hc:l.pre.holds [] {args:=args}=true:=(pre_splitW z).2;obtain⟨d,r,rfl,h1,h2⟩:=hasAllW_cons ad;obtain rfl:=hasAllW_nil h2;obtain⟨xs,rfl,h3⟩:=hasW_list h1;obtain⟨ns,rfl⟩:=items_int h3
 have ab:ns.length<=n:=by
  unfold OpenLaw.pre at hc
  have h4:(WTm.not (.lt (.lit (.int (n:Int))) (.len (.arg 0)))).holds [] {args:=[.list (ns.map .int)]}=true:=by
   have h4:=(holds_andW hc).1;rw[hn]at h4;exact h4
  have h5:=condW_of h4 (w_not (w_lt w_lit (w_len_list (w_arg rfl))));rw[za]at h5;refine Nat.le_of_not_lt λq=>?_;have q':(n:Int)<((ns.length:Nat):Int):=by omega
  first
   |(rw[zD q']at h5;exact absurd h5 (by decide))
   |(simp at h5;omega)
 cases ac with
 |cons w1 w2=>
  cases w2
  cases w1 with
  |list ho hall=>exact⟨_,_,ns,rfl,rfl,ho,Ja ns _ hall,ab⟩
def YQ(l:OpenLaw)(args:List WData):l.row.toRowW.claim.post args (.bool true) args=true:=
 postW_of (r:=l.row.toRowW) (X:=(true==true))
  (show WShape.has [] (.bool true) .bool=true by first|rfl|decide|simp[WShape.has,WShape.arms,WShape.armsAll])
  (show(WTm.eq .res (.lit (.bool true))).value [] {args:=args,res:=some (.bool true),after:=args}=some (.bool (true==true))from w_eq_bool (w_res rfl) w_lit) rfl
def attach_call{l:OpenLaw}{n:Nat}{q:Program}{z:List Str}{XP:(Str->Option Value)->Heap->Prop}{YP:World->Heap->Prop}{d:DefRec}
  (hn:l.most=some n) (ah:d.params.defaults=[])
  (ad:∀(w:World)(s₀ s₁:Shared)(mg mb:Str->Option Value)(fa:Addr)(o:Obj)(pm cd ab:Value)(a:Addr)(vs:List Value)(ns:List Int),
   Ground q z [] XP w s₀ mg mb s₁.heap->YP w s₁.heap->
   s₁.heap.get? fa=some o->o.data=.func (docDef d.name d.params d.body d.scope pm cd ab)->s₁.heap.CodeRec cd d.name->mg d.name=some (.ref fa)->
   s₁.heap.get? a=some {cls:=.type "list",data:=.seq vs.toArray}->IntsAre vs ns->ns.length<=n->s₁.gens= #[]->
   codeAny (model l.prog w) callerA (.call (.ref fa) ⟨[.ref a],[]⟩) (λr s'=>r=.ok (.ret (.bool true))/\OldK s₁.heap s'.heap/\s'.os=s₁.os/\AllBare s'.gens) s₁):
  WalkO q z XP YP l.row.toRowW d [] (λf vs=>PySem.call f vs):=by
 intro w s₀ s₁ mg mb G Y fa o pm cd ab dV kV ho hd aj hD ag hg args ak as ac al an ai am;obtain rfl:dV=.none:=Dflts.none hD ah;obtain rfl:kV=.none:=Dflts.noKw hD;obtain⟨a,vs,ns,rfl,rfl,af,aa,ae⟩:=Xw hn ac ai;refine enter_call (codeAny_mono (ad w s₀ s₁ mg mb fa o pm cd ab a vs ns G Y ho (fd_plain hd) aj ag af aa ae hg) λr s' hq=>?_);obtain⟨rfl,h2,h3,h4⟩:=hq;exact⟨.inl ⟨.bool true,.bool true,[],rfl,λ_=>rfl,.bool true,YQ l _,λ_=>⟨List.Pairwise.nil,λ_ hm=>(nomatch hm)⟩⟩,h2,h3,h4⟩
end Att
namespace L2
open PySem PySem.Spec PyProof.Rows
theorem vV:∀{vs:List Value}{ns:List Int},IntsAre vs ns->Vals (ns.map V.int) vs
 |_,_,.nil=> .nil
 |_,_,.cons n t h=> .cons ⟨t,rfl⟩ (vV h)
noncomputable def Only(H:Hp):Prop:=∀b,H b=none\/∃o xs,H b=some (.frz o (.lst xs))
def aap{P:Program}{w:World}{K:Fg_}{mg mb:Str->Option Value}{CX:CXT}{k:Nat}{fa a:Addr}{fd:FuncData}{x:Str}{sp:Sp}{s₁:Shared}{vs:List Value}{ns:List Int}
  (KX:K.In s₁.heap) (ae:s₁.heap.Ns mainGlobals mg) (hb:s₁.heap.Ns builtinsNs mb) (aj:∀x:Str,x≠ "__name__" ->mb x=bootBuiltins x) (ag:s₁.heap.NoLimit) (hg:s₁.gens= #[])
  (ha:s₁.heap.get? a=some {cls:=.type "list",data:=.seq vs.toArray}) (hi:IntsAre vs ns) (hl:ns.length<=sizeLine) (hr:qW k callerA)
  (F:∀base:Heap,K.In base->base.Ns mainGlobals mg->jK P w K mg base CX k fa fd [x] sp) (hbind:∀(s:Shared)(u:Value),BindsTo s fd ⟨[u],[]⟩ [(x,u)])
  (hsp:∀H:Hp,Only H->SqL K H a (ns.map V.int)->sp [.ref a] H (λv _=>v=.bl true) λ_ _ _=>False)
  (hCX:∀H e s',CX [] H s₁ (λ_ _ _=>False) e s'->False):
  codeAny (model P w) callerA (.call (.ref fa) ⟨[.ref a],[]⟩) (λr s'=>r=.ok (.ret (.bool true))/\OldK s₁.heap s'.heap/\s'.os=s₁.os/\AllBare s'.gens) s₁:=by
 have rv:=vV hi;have ah:=hi.length
 have ac:∀H:Hp,Only H->SqL K H a (ns.map V.int)->HOk P w H s₁.heap->(∀b,H b≠none->b=a)->(H a≠none->K.lookup a=none)->
   codeAny (model P w) callerA (.call (.ref fa) ⟨[.ref a],[]⟩) (λr s'=>r=.ok (.ret (.bool true))/\OldK s₁.heap s'.heap/\s'.os=s₁.os/\AllBare s'.gens) s₁:=by
  intro H hO hS hok hA hK;have aa:∀{b:Addr}{o:Obj},s₁.heap.get? b=some o->H b=none->(aac s₁.heap H).get? b=some o:=λe n=>Zk e n
  have ai:∀{b:Addr}{o:Obj}{es:Array DictEntry}{ep:Nat},s₁.heap.get? b=some o->o.data=.dict es ep->H b=none:=fun{b o es ep} e d=>by
   cases q:H b with
   |none=>rfl
   |some u=>
    have e':b=a:=hA b (by rw[q];simp);subst e';rw[ha]at e;cases e;have d':Data.seq vs.toArray _=Data.dict es ep:=d;cases d'
  have ab:∀{b:Addr}{m:Str->Option Value},s₁.heap.Ns b m->(aac s₁.heap H).Ns b m:=fun{b m}⟨o,es,ep,e,d,r⟩=>⟨o,es,ep,aa e (ai e d),d,r⟩
  have ad:K.In (aac s₁.heap H):=λb o e=>aa (KX b o e) (by
   cases q:H b with
   |none=>rfl
   |some u=>
    have e':b=a:=hA b (by rw[q];simp);subst e';rw[hK (by rw[q];simp)]at e;cases e)
  have hM:Mod K mg (aac s₁.heap H):=⟨ad,ab ae,⟨mb,ab hb,aj⟩,let⟨mc,h1,h2⟩:=ag;⟨mc,ab h1,h2⟩⟩;have e0:Ze P w K mg (aac s₁.heap H) callerA [] s₁ H:=⟨rfl,hM,λb o e=>aiq e,zz4 (Xf _ _),trivial,λb hb=>absurd (show b∈([]:List Addr)from hb) (by simp),hok,.of_eq hg⟩;refine codeAny_mono ((F _ ad (ab ae)).run callerA [] s₁ H ⟨[.ref a],[]⟩ [.ref a] [.ref a] _ _ hr e0 (hbind s₁ (.ref a)) (.cons rfl .nil) (hsp H hO hS)) λr s' h=>?_
  cases r with
  |error e=>exact(hCX H e s' h).elim
  |ok fl=>
   cases fl with
   |next=>exact False.elim h
   |brk=>exact False.elim h
   |cont=>exact False.elim h
   |ret u=>
    obtain⟨v,H',os,bare,un,af,r',q⟩:=h;have q':v=.bl true:=q;subst q';obtain rfl:u=Value.bool true:=r';refine⟨rfl,OldK.of_keep λb o e=>?_,os,bare⟩
    cases q:H b with
    |none=>exact un.keep b o e q (by intro z;exact absurd (show b∈([]:List Addr)from z) (by simp)) (by simp)
    |some u=>
     rcases hO b with z|⟨ob,xs,z⟩
     ·rw[q]at z;cases z
     ·have z2:=un.frzs b ob _ z
      obtain⟨e1,_⟩:=hok b _ z;obtain⟨e2,_⟩:=af b _ z2;rw[e]at e1;cases e1;exact e2
 cases hk:K.lookup a with
 |some o=>
  have e:=KX a o hk;rw[ha]at e;cases e;refine ac (λ_=>none) (λ_=> .inl rfl) (.inr ⟨_,vs.toArray,_,hk,rfl,rfl,rfl,by rw[zl,ah];exact hl,by simpa using rv⟩) (λb u z=>by have z':(none:Option HO)=some u:=z;cases z') (λb z=>absurd rfl z) λz=>absurd rfl z
 |none=>
  refine ac (λb=>if b=a then some (.frz {cls:=.type "list",data:=.seq vs.toArray} (.lst (ns.map V.int)))else none) (λb=>?_) (.inl (.inr ⟨{cls:=.type "list",data:=.seq vs.toArray},zg rfl⟩)) (λb u z=>?_) (λb z=>?_) λ_=>hk
  ·by_cases hb:b=a
   ·exact .inr ⟨_,_,zg hb⟩
   ·exact .inl (zc hb)
  ·by_cases hb:b=a
   ·have z':=(zg hb).symm.trans z
    cases z';subst hb;exact⟨ha,by rw[za];exact hl,vs,_,rv,ha⟩
   ·have z':=(zc hb).symm.trans z
    cases z'
  ·by_cases hb:b=a
   ·exact hb
   ·exact absurd (zc hb) z
end L2
namespace L2
open PySem PySem.Spec PyProof.Rows
def walk_of{l:PySem.W.OpenLaw}{n k:Nat}{q:Program}{ab:List Str}{XP:(Str->Option Value)->Heap->Prop}{YP:World->Heap->Prop}{d:DefRec}{K:Params->Fg_}{CX:World->CXT}{sp:World->Sp}{x:Str}
  (hn:l.most=some n) (ag:n<=sizeLine) (ah:d.params.defaults=[]) (hr:qW k callerA)
  (hY:∀(w:World)(h:Heap),YP w h->(K w.params).In h)
  (F:∀(w:World)(mg:Str->Option Value)(fa:Addr)(h:Heap),(K w.params).In h->h.Ns mainGlobals mg->mg d.name=some (.ref fa)->
   ∃fd:FuncData,(∀(s:Shared)(u:Value),BindsTo s fd ⟨[u],[]⟩ [(x,u)])/\
    ∀base:Heap,(K w.params).In base->base.Ns mainGlobals mg->jK l.prog w (K w.params) mg base (CX w) k fa fd [x] (sp w))
  (ad:∀(w:World)(H:Hp)(a:Addr)(ns:List Int),ns.length<=n->Only H->SqL (K w.params) H a (ns.map V.int)->sp w [.ref a] H (λv _=>v=.bl true) λ_ _ _=>False)
  (ae:∀(w:World)(H:Hp)(s:Shared)(e:Value)(s':Shared),CX w [] H s (λ_ _ _=>False) e s'->False):
  PySem.W.WalkO q ab XP YP l.row.toRowW d [] (λf vs=>PySem.call f vs):=by
 refine Att.attach_call hn ah λw s₀ s₁ mg mb fa o pm cd ai a vs ns G Y ho hd aj af ac aa z hg=>?_;have KX:=hY w _ Y;obtain⟨fd,hb,hF⟩:=F w mg fa _ KX G.T.g af;exact aap KX G.T.g G.T.b G.T.builtins G.T.nolimit hg ac aa (zV z ag) hr hF hb (λH hO hS=>ad w H a ns z hO hS) λH e s'=>ae w H s₁ e s'
end L2
namespace L2
open PySem PySem.Spec PyProof.Rows
noncomputable def inClass(s:Stmt)(j:Nat):Stmt:=match s with
 |.ClassDef _ _ _ body _ _ _ _ _ _ _=>body.getD j (.Pass ⟨0,0,0,0⟩)
 |_=> .Pass ⟨0,0,0,0⟩
noncomputable def nD(s:Stmt):Arguments:=match s with
 |.FunctionDef _ a _ _ _ _ _ _ _ _=>a
 |_=>{posonlyargs:=[],args:=[],vararg:=none,kwonlyargs:=[],kw_defaults:=[],kwarg:=none,defaults:=[]}
noncomputable def lX(s:Stmt):List Stmt:=match s with
 |.FunctionDef _ _ b _ _ _ _ _ _ _=>b
 |_=>[]
noncomputable def iD(s:Stmt):Scope:=match s with
 |.FunctionDef _ _ _ _ _ _ sc _ _ _=>sc
 |_=>{kind:=.function,names:=[],isGenerator:=false,isCoroutine:=false}
abbrev CX0:CXT:=λ_ _ _ _ _ _=>False
abbrev E0:XK:=λ_ _ _=>False
def jC{X:Cx}:Ah CX0 X E0:=λ_ _ _ _ _ _ _ h=>h.elim
structure Fun(K:Fg_)(x qual:Str)(st:Stmt)(f:Addr)(fd:FuncData):Prop where
 ex:∃(oc:Value)(od:Option Addr)(kV doc pm:Value)(an:Option Addr)(cdv ct:Value)(osl:Array (Option Value)),
  fd=PySem.W.fnOf x qual (nD st) (lX st) (iD st) .none kV doc pm an cdv ct/\K.lookup f=some ⟨oc,od,.func fd,osl⟩/\PySem.W.codeIn K cdv qual=true
 kp:PySem.W.keepIn K (.ref f)=true
section
variable{P:Program}{w:World}{K:Fg_}{mg:Str->Option Value}{base:Heap}
def Fun.ok{x z:Str}{st:Stmt}{f:Addr}{fd:FuncData}{N ps:List Str}{k:Nat}{sp:Sp}(F:Fun K x z st f fd)(S:iJ N ps (iD st))(len:∀vs H Q E,sp vs H Q E->vs.length=ps.length)
  (ab:∀(aa:Value)(A:Around)(outer:List Env)(s:Shared)(H:Hp)(vs:List V)(Q:VK)(E:XK),qW k (A.deeper (envOfC z (iD st) s.heap.objs.size f aa))->sp vs H Q E->
   ∃t,PSs (aay CX0 P w K mg base N z (iD st) f aa A outer s H E).nox (lX st) t/\t {nx:=λ_ H'=>Q .non H',rt:=Q} (start N vs) H):jK P w K mg base CX0 (k+1) f fd ps sp:=by
 obtain⟨oc,od,kV,af,pm,an,aa,ct,ae,rfl,lk,ad⟩:=F.ex;refine akD lk ad S len λA outer s H vs Q E hr ac=>?_;obtain⟨t,h,q⟩:=ab aa A outer s H vs Q E hr ac;exact⟨t,h.nox,q⟩
def Fun.binds{x q:Str}{st:Stmt}{f:Addr}{fd:FuncData}{ps:List Str}(F:Fun K x q st f fd)
  (h:∀(kV aa pm:Value)(an:Option Addr)(z ct:Value)(us:List Value),us.length=ps.length->bindArgs (PySem.W.fnOf x q (nD st) (lX st) (iD st) .none kV aa pm an z ct) ⟨us,[]⟩=pure (ps.zip us)):Binds K fd ps []:=by
 obtain⟨oc,od,kV,aa,pm,an,z,ct,ab,rfl,lk,ac⟩:=F.ex;exact .all (h kV aa pm an z ct)
def Yn{x q:Str}{st:Stmt}{f:Addr}{oc:Value}{od an:Option Addr}{ab:Array (Option Value)}{kV aa pm z ct:Value}(l:K.lookup f=some ⟨oc,od,.func (PySem.W.fnOf x q (nD st) (lX st) (iD st) .none kV aa pm an z ct),ab⟩)
  (c:PySem.W.codeIn K z q=true) (k:PySem.W.keepIn K (.ref f)=true):Fun K x q st f (PySem.W.fnOf x q (nD st) (lX st) (iD st) .none kV aa pm an z ct):=⟨⟨oc,od,kV,aa,pm,an,z,ct,ab,rfl,l,c⟩,k⟩
end
def oV{A:Around}{k:Nat}(q:qW k A):A.units+1<cLine:=yx (Nat.add_le_add_left (by decide:1<=64) _) q.units
def Wz{n:Nat}(h:n<=1000):n<sizeLine:=yx h (by decide)
section
variable{X:Cx}
def pv(i:Nat){x:Str}{pos:Pos}(q:X.N[i]? =some x:=by rfl)(hv:Vis X.env.scope x:=by walk_at "o") (hd:(x==("__debug__" :Str))=false:=by decide)
  (hcd:(x==("__classdict__" :Str))=false:=by decide):PE X (.Name x pos) (Qo i):=ako q hv hd hcd
end
noncomputable def Same(H H':Hp):Prop:=∀b o,H b=some o->H' b=some o
def same_refl(H:Hp):Same H H:=λ_ _ h=>h
def Same.trans{H H1 H2:Hp}(a:Same H H1)(b:Same H1 H2):Same H H2:=λc o h=>b c o (a c o h)
def Same.free{H H':Hp}(e:Same H H'){l:Addr}(h:H' l=Option.none):H l=Option.none:=by
 cases q:H l with
 |none=>rfl
 |some o=>
  rw[e l o q]at h;cases h
def Same.seq{K:Fg_}{H H':Hp}{a:Addr}{xs:List V}(e:Same H H')(h:SqL K H a xs):SqL K H' a xs:=by
 rcases h with(h|⟨o,h⟩)|h
 ·exact .inl (.inl (e _ _ h))
 ·exact .inl (.inr ⟨o,e _ _ h⟩)
 ·exact .inr h
end L2
namespace L2
open PySem PySem.Spec PyProof.Rows
noncomputable def AllIn:List (Str×Addr)->List (Str×Addr)->Prop
 |[],_=>True
 |(x,c)::r,cells=>cells.lookup x=some c/\AllIn r cells
theorem AllIn.look{aa:List (Str×Addr)}:∀{cl:List (Str×Addr)},AllIn cl aa->∀{x:Str}{c:Addr},cl.lookup x=some c->aa.lookup x=some c
 |[],_,x,c,e=>by simp at e
 |(y,d)::r,h,x,c,e=>by
  rw[zzZ]at e
  cases q:x==y with
  |true=>
   rw[q]at e;have z:d=c:=zw e;have z2:x=y:=beq_iff_eq.mp q;subst z z2;exact h.1
  |false=>
   rw[q]at e;exact AllIn.look h.2 e
noncomputable def Hg(cells:List (Str×Addr)):List (Str×NameKind)->List (Str×Addr)->List (Str×Addr)
 |[],cs=>cs
 |(n,k)::r,cs=>Hg cells r (match k with
  |.free=>match cells.lookup n with
   |some c=>(n,c)::cs
   |Option.none=>cs
  |_=>cs)
abbrev FJ(scope:Scope)(env:Env):List (Str×Addr):=Hg env.cells scope.names []
theorem JC(z:List (Str×Addr)):∀(names:List (Str×NameKind))(cs:List (Str×Addr)),AllIn cs z->AllIn (Hg z names cs) z
 |[],_,h=>h
 |(n,k)::r,cs,h=>by
  unfold Hg;refine JC z r _ ?_
  cases k with
  |free=>
   cases q:z.lookup n with
   |none=>exact h
   |some c=>exact⟨q,h⟩
  |_=>exact h
def tY(scope:Scope)(env:Env):AllIn (FJ scope env) env.cells:=JC _ _ _ trivial
noncomputable def CapOk(X:Cx)(sc:Scope)(cl:List (Str×Addr)):List Str->List (Option Nat)->Prop
 |[],[]=>True
 |_::N,Option.none::r=>CapOk X sc cl N r
 |x::N,some j::r=>X.N[j]? =some x/\(X.env.kindOf x=some .cell\/X.env.kindOf x=some .free)/\(sc.names.lookup x=some .cell\/sc.names.lookup x=some .free)/\(∃c,cl.lookup x=some c)/\CapOk X sc cl N r
 |_,_=>False
noncomputable def qi(σ:St)(cap:List (Option Nat)):St:=cap.map λo=>match o with
 |Option.none=>Option.none
 |some j=>match σ[j]? with
  |some v=>v
  |Option.none=>Option.none
def CapOk.nil{X:Cx}{q:Scope}{cl:List (Str×Addr)}:CapOk X q cl [] []:=trivial
def CapOk.own{X:Cx}{q:Scope}{cl:List (Str×Addr)}{x:Str}{N:List Str}{r:List (Option Nat)}(h:CapOk X q cl N r):CapOk X q cl (x::N) (Option.none::r):=h
def CapOk.take{X:Cx}{q:Scope}{cl:List (Str×Addr)}{x:Str}{N:List Str}{j:Nat}{r:List (Option Nat)}(h1:X.N[j]? =some x)(h2:X.env.kindOf x=some .cell\/X.env.kindOf x=some .free)
  (h3:q.names.lookup x=some .cell\/q.names.lookup x=some .free) (z:(cl.lookup x).isSome=true) (h:CapOk X q cl N r):CapOk X q cl (x::N) (some j::r):=⟨h1,h2,h3,yM.mp z,h⟩
theorem CapOk.len{X:Cx}{q:Scope}{cl:List (Str×Addr)}:∀{N:List Str}{cap:List (Option Nat)},CapOk X q cl N cap->cap.length=N.length
 |[],[],_=>rfl
 |_::N,Option.none::r,h=>congrArg (·+1) (CapOk.len (N:=N) (cap:=r) h)
 |_::N,some _::r,h=>congrArg (·+1) (CapOk.len (N:=N) (cap:=r) h.2.2.2.2)
 |[],_::_,h=>h.elim
 |_::_,[],h=>h.elim
theorem CapOk.get{X:Cx}{sc:Scope}{cl:List (Str×Addr)}{σ:St}:∀{N:List Str}{cap:List (Option Nat)}{i:Nat}{x:Str}{v:V},CapOk X sc cl N cap->N[i]? =some x->(qi σ cap)[i]? =some (some v)->
  ∃j:Nat,X.N[j]? =some x/\σ[j]? =some (some v)/\(X.env.kindOf x=some .cell\/X.env.kindOf x=some .free)/\(sc.names.lookup x=some .cell\/sc.names.lookup x=some .free)/\∃c,cl.lookup x=some c
 |[],[],i,x,v,_,e,_=>by simp at e
 |y::N,Option.none::r,0,x,v,h,e1,e2=>by
  have z:(some (Option.none:Option V))=some (some v):=e2;cases z
 |y::N,Option.none::r,i+1,x,v,h,e1,e2=>CapOk.get (N:=N) (cap:=r) (i:=i) h (by simpa using e1) (by simpa [qi] using e2)
 |y::N,some j::r,0,x,v,h,e1,e2=>by
  have z:y=x:=by simpa using e1
  subst z;obtain⟨h1,h2,h3,h4,_⟩:=h;refine⟨j,h1,?_,h2,h3,h4⟩;have z2:some (match σ[j]? with|some v=>v|Option.none=>Option.none)=some (some v):=e2
  cases q:σ[j]? with
  |none=>rw[q]at z2;cases z2
  |some o=>rw[q]at z2;exact z2
 |y::N,some j::r,i+1,x,v,h,e1,e2=>CapOk.get (N:=N) (cap:=r) (i:=i) h.2.2.2.2 (by simpa using e1) (by simpa [qi] using e2)
 |[],_::_,_,_,_,h,_,_=>h.elim
 |_::_,[],_,_,_,h,_,_=>h.elim
noncomputable def cxC(X:Cx)(N':List Str)(scope:Scope)(s:Shared)(H:Hp)(fp:List Addr)(xe:Value->Shared->Prop):Cx:=
 {X with N:=N',s₀:=s,H₀:=H,env:=compEnvC scope (FJ scope X.env) s.heap.objs.size X.env,outer:=X.stack,ex:=fp,fn:=λ_=>false,pn:=[],xe:=xe}
noncomputable def PTs(X:Cx)(ifs:List Expr)(t:TT):Prop:=
 ∀(pins:List (Addr×Obj)) (s:Shared) (σ:St) (H:Hp) (Q:Bool->Hp->Prop),Inv X pins σ H s->t σ H Q->
  wpAny (model X.prog X.w) X.A (forIn ifs true λc r=>if r=true then do let ok<-isTrue c X.env (eval c X.env);pure (ForInStep.yield ok)else pure (ForInStep.yield r)) (TP X pins σ Q) X.xe s
noncomputable def Mp:TT:=λ_ H Q=>Q true H
def jN{X:Cx}:PTs X [] Mp:=λ_ _ _ H _ I h=>wpAny_tests_nil ⟨H,I,h⟩
def HW{X:Cx}{c:Expr}{t:TT}(h:PT X c t):PTs X [c] t:=λpins s σ H Q I q=>wpAny_tests_one (h pins s σ H Q I q)
noncomputable def aiE(cap:List (Option Nat))(wi:TI)(g:TG)(tt:TT)(te:TE):TE:=λσ H Q=>wi σ H λJ H1=>∀D,H1 D=Option.none->
 ∃W:Nat->Nat->List V->St->Hp->Prop,(∃m,W 0 m [] (qi σ cap) (upd H1 D (.lst [])))/\∀i m acc σ1 H2,W i m acc σ1 H2->H2 D=some (.lst acc)->
  (J.stop i H2/\Q (.ref D) H2)\/(J.go i H2/\∀x H3,J.yld i H2 x H3->g x σ1 H3 λσ4 H4=>tt σ4 H4 λb H5=>
   if b=true then te σ4 H5 λv H6=>∃acc',H6 D=some (.lst acc')/\acc'.length<sizeLine/\∃m',m'<m/\W (i+1) m' (acc'++[v]) σ4 (upd H6 D (.lst (acc'++[v])))
   else∃m',m'<m/\∃acc',H5 D=some (.lst acc')/\W (i+1) m' acc' σ4 H5)
section
variable{X:Cx}{elt tg iter:Expr}{ifs:List Expr}{scope:Scope}{pos:Pos}{cap:List (Option Nat)}{N':List Str}{wi:TI}{g:TG}{tt:TT}{te:TE}
structure Yz(X:Cx)(iter:Expr)(scope:Scope)(N':List Str)(cap:List (Option Nat)):Prop where
 clos:closureFor scope X.env=pure (FJ scope X.env)
 cap:CapOk X (relabel scope X.env) (FJ scope X.env) N' cap
 kind:scope.kind=.function
 nocell:∀y∈scope.names,y.2≠.cell
 names:∀y∈scope.names,y.2=.local->scope.names.lookup y.1=some .local
 has:(scope.names.all λy=>y.2 !=.free||((FJ scope X.env).lookup y.1).isSome)=true
 fold:∀x,foldedSetIterable iter X.env x=pure x
theorem YF{f:Str×NameKind->Str×NameKind}(h1:∀y,(f y).1=y.1)(h2:∀y,y.2≠NameKind.cell->((f y).2=NameKind.cell\/(f y).2=NameKind.free)->y.2=NameKind.free){cl:List (Str×Addr)}:
  ∀{names:List (Str×NameKind)}{x:Str},(∀y∈names,y.2≠NameKind.cell)->(names.all λy=>y.2 !=NameKind.free||(cl.lookup y.1).isSome)=true->((names.map f).lookup x=some NameKind.cell\/(names.map f).lookup x=some NameKind.free)->∃c,cl.lookup x=some c
 |[],x,_,_,h=>by rcases h with h|h<;>simp at h
 |y::r,x,hc,ha,h=>by
  rw[List.all_cons,Bool.and_eq_true]at ha;rw[zi]at h;have e0:f y=(y.1,(f y).2):=by rw[<-h1 y]
  rw[e0,zzZ]at h
  cases q:x==y.1 with
  |true=>
   rw[q]at h;have e:x=y.1:=beq_iff_eq.mp q
   have hf:y.2=NameKind.free:=h2 y (hc y zk) (by
    rcases h with h|h
    ·exact .inl (zw h)
    ·exact .inr (zw h))
   have h3:(cl.lookup y.1).isSome=true:=by
    have:=ha.1;rw[hf]at this
    simpa using this
   rw[e];exact yM.mp h3
  |false=>
   rw[q]at h;exact YF h1 h2 (λz hz=>hc z (zt _ hz)) ha.2 h
def akW{env:Env}{scope:Scope}{cl:List (Str×Addr)}{x:Str}(hc:∀y∈scope.names,y.2≠NameKind.cell)(ha:(scope.names.all λy=>y.2 !=NameKind.free||(cl.lookup y.1).isSome)=true)
  (h:(relabel scope env).names.lookup x=some NameKind.cell\/(relabel scope env).names.lookup x=some NameKind.free):∃c,cl.lookup x=some c:=by
 refine YF (f:=fun(n,k)=>if(k==NameKind.free && env.scope.kind==.function && env.kindOf n==some .cell)then(n,NameKind.cell)else(n,k)) (λy=>?_) (λy hy q=>?_) hc ha h
 ·obtain⟨n,k⟩:=y
  dsimp only;split<;>rfl
 ·obtain⟨n,k⟩:=y
  dsimp only at q⊢hy;by_cases z:(k==NameKind.free && env.scope.kind==.function && env.kindOf n==some .cell)=true
  ·simp only[Bool.and_eq_true]at z
   exact beq_iff_eq.mp z.1.1
  ·rw[zc z]at q
   rcases q with q|q
   ·exact absurd q hy
   ·exact q
def Om{P:Program}{w:World}{A:Around}{R:Result->Shared->Prop}{s:Shared}{it acc:Value}{env:Env}(I:Nat->Shared->Prop)
  (z:∀n s,I n s->wpAny (model P w) A (pyNext it) (λr s₁=>match r with
   |none=>R (.ok .next) s₁
   | some v=>wpAny (model P w) A (letOwnedTupleGo tg it v) (λ_ q=>wpAny (model P w) A (assign tg env v) (λ_ s₂=>
     wpAny (model P w) A (forIn ifs true λc r=>if r=true then do let ok<-isTrue c env (eval c env);pure (ForInStep.yield ok)else pure (ForInStep.yield r)) (λok s₃=>
      if ok=true then wpAny (model P w) A (eval elt env) (λx s₄=>
       wpAny (model P w) A (call (.builtin "list.append") [acc,x]) (λ_ s₅=>∃m,m<n/\I m s₅) (notedBy (model P w) A env λe s'=>R (.error e) s') s₄) (notedBy (model P w) A env λe s'=>R (.error e) s') s₃
      else∃m,m<n/\I m s₃) (notedBy (model P w) A env λe s'=>R (.error e) s') s₂) (notedBy (model P w) A env λe s'=>R (.error e) s') q) (notedBy (model P w) A env λe s'=>R (.error e) s') s₁)
    (notedBy (model P w) A env λe s'=>R (.error e) s') s)
  (n:Nat) (h:I n s):
  codeAny (model P w) A (.compLoop (.ListComp elt [⟨tg,iter,ifs,0⟩] scope pos) 0 it acc env) R s:=by
 refine codeAny_loop rfl I (λn s hI=>?_) n h;show wpAny _ A ((compTurn (.ListComp elt [⟨tg,iter,ifs,0⟩] scope pos) 0 it acc env).onRaise (λx=>do noteFrame x env;theTreesLotGoes x)) _ _ s;refine wpAny_noted ?_;rw[compTurn_list];refine zd (zzW (zd (ye (z n s hI) (λr s₁ h₁=>?_) λ_ _ h'=>h')))
 cases r with
 |none=>exact zC h₁
 |some v=>
  refine zd (ye h₁ (λ_ q h₁=>?_) λ_ _ h'=>h');refine zd (ye h₁ (λ_ s₂ h₂=>zd (ye h₂ (λok s₃ h₃=>?_) λ_ _ h'=>h')) λ_ _ h'=>h')
  cases ok with
  |false=>exact zC ⟨rfl,h₃⟩
  |true=>
   exact zd (zd (ye h₃ (λx s₄ h₄=>zd (ye h₄ (λ_ s₅ h₅=>zC (zC ⟨rfl,h₅⟩)) λ_ _ h'=>h')) λ_ _ h'=>h'))
def NQ{pins:List (Addr×Obj)}{σ:St}{H2:Hp}{s2:Shared}{Q:VK}{it:Addr}{fp:List Addr}{tn:Nat->Heap->Prop}{J:It}{R:Value->Addr->Result->Shared->Prop}{E:Value->Shared->Prop}
  (hc:X.calm=true) (C:Yz X iter scope N' cap)
  (hg:∀s H fp xe,PG (cxC X N' scope s H fp xe) tg g) (ht:∀s H fp xe,PTs (cxC X N' scope s H fp xe) ifs tt) (he:∀s H fp xe,PE (cxC X N' scope s H fp xe) elt te)
  (I2:Inv X pins σ H2 s2) (T:Turn X.prog X.w X.K tg J fp it tn) (ag:tn 0 s2.heap) (f2:∀b∈fp,RP X pins H2 b)
  (hR:∀D Cl H' s',Inv X pins σ H' s'->(∃m,s'.heap.Ns Cl m)->H' Cl=Option.none->Cl≠X.env.locals->X.s₀.heap.objs.size<=Cl->(∀x c,X.env.cells.lookup x=some c->c≠Cl)->(∀p∈X.pn++pins,p.1≠Cl)->Q (.ref D) H'->R (.ref D) Cl (.ok .next) s')
  (hw:∀D,H2 D=Option.none->∃W:Nat->Nat->List V->St->Hp->Prop,(∃m,W 0 m [] (qi σ cap) (upd H2 D (.lst [])))/\∀i m acc σ1 H2,W i m acc σ1 H2->H2 D=some (.lst acc)->
   (J.stop i H2/\Q (.ref D) H2)\/(J.go i H2/\∀x H3,J.yld i H2 x H3->g x σ1 H3 λσ4 H4=>tt σ4 H4 λb H5=>
    if b=true then te σ4 H5 λv H6=>∃aa,H6 D=some (.lst aa)/\aa.length<sizeLine/\∃m',m'<m/\W (i+1) m' (aa++[v]) σ4 (upd H6 D (.lst (aa++[v])))
    else∃m',m'<m/\∃aa,H5 D=some (.lst aa)/\W (i+1) m' aa σ4 H5)):
  wpAny (model X.prog X.w) X.A (newList []) (λacc s₃=>wpAny (model X.prog X.w) X.A (newFunctionEnv scope X.env.globals (FJ scope X.env) [] X.env.qual none .none (some X.env)) (λaj s₄=>
   codeAny (model X.prog X.w) X.A (.compStart (.ListComp elt [⟨tg,iter,ifs,0⟩] scope pos) 0 (.ref it) acc {aj with scope:=relabel scope X.env}) (R acc aj.locals) s₄) E s₃) E s2:=by
 refine wpAny_newObj_type (wpAny_newFunctionEnv C.nocell (by intro y hy;simp at hy) (λh₁ ai al=>?_) C.kind);obtain⟨W,⟨m0,w0⟩,ah⟩:=hw s2.heap.objs.size I2.fresh;have I3:Inv X pins σ (upd H2 s2.heap.objs.size (.lst [])) {s2 with heap:=s2.heap.push {cls:=.type "list",data:=.seq ([]:List Value).toArray}}:=I2.lnew (t':=s2.toks) .nil (zJ _);generalize ao:({s2 with heap:=s2.heap.push {cls:=.type "list",data:=.seq ([]:List Value).toArray}}:Shared)=s3 at I3 ai al⊢;generalize hD:s2.heap.objs.size=D at I3 w0 ah⊢;have bf:H2 D=Option.none:=by rw[<-hD];exact I2.fresh
 have as:s3.os=s2.os:=by rw[<-ao]
 have aq:Un (frs X.stack) fp H2 (upd H2 D (.lst [])) s2.heap s3.heap:=by
  rw[<-ao,<-hD];exact Un.laid (λb u q=>zb _ q) (zm _) I2.fresh
 have ab:∀b o,s3.heap.get? b=some o->h₁.get? b=some o:=λb o e=>(al.2 b (zE (zr e))).trans (zb _ e);have af:∀b o,s2.heap.get? b=some o->s3.heap.get? b=some o:=λb o e=>by rw[<-ao];exact zb _ e
 have hR':∀(r:Result)(s':Shared),R (.ref D) s3.heap.objs.size r s'->R (.ref D) s3.heap.objs.size r s':=λ_ _ h=>h
 have f3:∀b∈fp,RP X pins (upd H2 D (.lst [])) b:=λb hb=>by
  obtain⟨q0,q1⟩:=f2 b hb;refine⟨?_,q1⟩;obtain⟨o,e,_⟩:=T.obj _ _ ag b hb;rw[iQ (by rw[<-hD];exact zE (zr e))];exact q0
 let XC:Cx:=cxC X N' scope s3 (upd H2 D (.lst [])) fp (notedBy (model X.prog X.w) X.A (compEnvC scope (FJ scope X.env) s3.heap.objs.size X.env) λe s'=>R (.ref D) s3.heap.objs.size (.error e) s')
 have ok:XC.Ok:=by
  refine⟨I3.ok.mod,C.kind,I3.ok.glob,I3.ok.blt,zm _,λx y c e1 e2=>I3.ok.inj x y c ((tY scope X.env).look e1) ((tY scope X.env).look e2),λx hx=>akW C.nocell C.has hx,λx c hf=>(nomatch hf),λ_=>I3.ok.hd hc,I3.ok.frames,.inl rfl,λb hb=>?_,I3.bs,zV I3.ok.bsz I3.sz,λb o e hb=>?_,λb hb hf=>?_,I3.stack,I3.stkFree⟩
  ·obtain⟨q0,q1,q2,q3,q4,q5⟩:=f3 b hb
   refine⟨?_,λx c e=>q4 x c ((tY scope X.env).look e)⟩;obtain⟨o,e,_⟩:=T.obj _ _ ag b hb;exact zE (zr (af _ _ e))
  ·obtain⟨q0,q1,q2,q3,q4,q5⟩:=f3 b hb
   rcases q3 with q3|q3
   ·exact I3.ok.noex b o e q3
   ·exact absurd (zH (zr e) (zV I3.ok.bsz q3)) (ya _)
  ·obtain⟨q0,q1,q2,q3,q4,q5⟩:=f3 b hb
   rcases zv.mp (I3.stkSub b hf)with z|z
   ·exact q1 z
   ·exact q2 z
 have I4:Inv XC [] (qi σ cap) (upd H2 D (.lst [])) {s3 with heap:=h₁,toks:=s3.toks+([]:List (Str×Value)).length}:=by
  refine⟨ok,rfl,I3.bare,Un.kept ab,⟨_,ai,λi x v e1 e2 e3=>?_⟩,λx c e=>?_,I3.hok.fresh (zm _),λx c e=>I3.freeC x c ((tY scope X.env).look e),λp hp=>absurd (show p∈([]:List (Addr×Obj))from hp) (by simp),I3.hok.kept ab,by rw[show(qi σ cap).length=cap.length from by simp[qi]];exact C.cap.len⟩
  ·obtain⟨j,g1,g2,g3,g4,c,g5⟩:=C.cap.get e1 e2
   obtain⟨m,_,hl⟩:=I3.loc
   obtain ⟨u,r,l⟩:=hl j x v g1 g2 (by
    rcases g3 with z|z
    ·exact .inr (.inl z)
    ·exact .inr (.inr z))
   refine⟨u,r,.inr ⟨g4,c,g5,?_⟩⟩;rcases l with⟨k,_⟩|⟨_,c',e,z⟩
   ·rcases g3 with q|q
    ·rw[k]at q;cases q
    ·rw[k]at q;cases q
   ·have e':=(tY scope X.env).look g5
    rw[e]at e';cases e';obtain⟨o,ho,hd⟩:=z;exact⟨o,ab _ _ ho,hd⟩
  ·obtain⟨v,o,ho,hd⟩:=I3.cell x c ((tY scope X.env).look e)
   exact⟨v,o,ab _ _ ho,hd⟩
 have ar:tn 0 h₁:=T.keep _ _ _ ag λb _ o e=>ab b o (af b o e)
 have am:∀{ac:List (Addr×Obj)}{H':Hp},(∀b∈fp,H' b=Option.none)->(∀p∈ac,p.1∉fp)->∀b∈fp,RP XC ac H' b:=fun{ac H'} hn hp b hb=>by
  obtain⟨q1,q2⟩:=ok.exf b hb;exact⟨hn b hb,q1,ok.exfs b hb,.inl hb,q2,λp bd z=>hp p (by simpa [XC,cxC] using bd) (by rw[z];exact hb)⟩
 have bi:D∉fp:=λhb=>by
  obtain⟨o,e,_⟩:=T.obj _ _ ag D hb;rw[<-hD]at e;exact absurd (zr e) (ya _)
 have out:∀{σ':St}{H':Hp}{s':Shared},Inv XC [] σ' H' s'->Inv X pins σ H' s':=fun{σ' H' s'} J'=>
  I2.call' (ch:=fp) (J'.os.trans as) (aq.trans J'.base) J'.hok J'.bare λb hb=>by
   obtain⟨q0,q1,q2,q3,q4,q5⟩:=f2 b hb;exact⟨q3,q1,q4,q5⟩
 have ak:∀s₄:Shared,s₄={s3 with heap:=h₁,toks:=s3.toks+([]:List (Str×Value)).length}->
   codeAny (model X.prog X.w) X.A (.compLoop (.ListComp elt [⟨tg,iter,ifs,0⟩] scope pos) 0 (.ref it) (.ref D) (compEnvC scope (FJ scope X.env) s3.heap.objs.size X.env)) (R (.ref D) s3.heap.objs.size) s₄:=by
  rintro s₄ rfl
  refine Om (λn s'=>∃i acc σ' H',Inv XC [] σ' H' s'/\tn i s'.heap/\(∀b∈fp,H' b=Option.none)/\H' D=some (.lst acc)/\W i n acc σ' H') ?_ m0
   ⟨0,[],qi σ cap,upd H2 D (.lst []),I4,ar,λb hb=>(f3 b hb).1,iC,w0⟩
  rintro n s5 ⟨i,acc,σ5,H5,I5,ap,au,hA,w5⟩;rcases ah i n acc σ5 H5 w5 hA with⟨stop,q⟩|⟨go,aw⟩
  ·refine thn (T.done XC rfl rfl rfl hc i [] s5 σ5 H5 _ I5 (am au (by simp)) ap stop) λr s6 ⟨hr,I6⟩=>?_
   subst hr;obtain⟨m,hn,_⟩:=I6.loc
   exact hR D s3.heap.objs.size H5 s6 (out I6) ⟨m,hn⟩ I6.free (yC I3.lt) I3.sz (λx c e z=>by
    obtain⟨v,o,ho,_⟩:=I3.cell x c e;rw[z]at ho;exact absurd (zr ho) (ya _)) (λp hp z=>by
    have e:=(I3.pin p hp).1;rw[z]at e;exact absurd (zr e) (ya _)) q
  ·refine thn (T.item XC rfl rfl rfl hc i [] s5 σ5 H5 _ I5 (am au (by simp)) ap go) λr s6 ⟨u,hr,h6⟩=>?_
   subst hr;refine thn h6 λ_ s7 ⟨x,H7,I7,r7,y7,an,be⟩=>?_;have I7':=I7.pinned (am be (by simp)) (T.obj _ _ an)
   have ad:∀{σ8:St}{H8:Hp}{s8:Shared},Inv XC ([]++PJ fp s7.heap) σ8 H8 s8->(∃aa,H8 D=some (.lst aa)/\∃m',m'<n/\W (i+1) m' aa σ8 H8)->
     ∃m,m<n/\∃i acc σ' H',Inv XC [] σ' H' s8/\tn i s8.heap/\(∀b∈fp,H' b=Option.none)/\H' D=some (.lst acc)/\W i m acc σ' H':=fun{σ8 H8 s8} I8⟨aa,ae,m',hm,w8⟩=>by
    refine⟨m',hm,i+1,aa,σ8,H8,I8.unpinned,T.keep _ _ _ an λb hb o e=>(I8.pin (b,o) (zG _ (zG _ (xW hb e)))).1,λb hb=>?_,ae,w8⟩;obtain⟨o,e,d⟩:=T.obj _ _ an b hb;exact(I8.pin (b,o) (zG _ (zG _ (xW hb e)))).2.1
   refine thn (hg s3 _ fp _ _ s7 σ5 H7 x u _ I7' r7 (aw x H7 y7)) λ_ s8 ⟨σ8,H8,I8,q8⟩=>?_;refine thn (ht s3 _ fp _ _ s8 σ8 H8 _ I8 q8) λb s9 ⟨H9,I9,q9⟩=>?_
   cases b with
   |false=>
    rw[zc zN]at q9⊢;obtain⟨m',hm,aa,ae,w9⟩:=q9;exact ad I9 ⟨aa,ae,m',hm,w9⟩
   |true=>
    rw[zg rfl]at q9⊢;refine thn (he s3 _ fp _ _ s9 σ8 H9 _ I9 q9) λv bc ⟨y,av,bb,az,aa,ae,hz,m',hm,ba⟩=>?_;refine thn (lY (X:=XC) _ bc σ8 av (.ref D) [y] (.ref D) [v] (λ_ Hz=>Hz=upd av D (.lst (aa++[y]))) bb rfl (.cons az .nil) ⟨D,aa,y,rfl,rfl,ae,hz,rfl⟩) λ_ bg ⟨_,bh,ax,_,ay⟩=>?_;subst ay;exact ad ax ⟨aa++[y],iC,m',hm,ba⟩
 exact codeAny_compStart_list (ak _ rfl) (T.self _ 0 _ _ _ ar (ak _ rfl))
def jW(hc:X.calm=true)(C:Yz X iter scope N' cap)(hi:PI X tg iter wi)
  (hg:∀s H fp xe,PG (cxC X N' scope s H fp xe) tg g) (ht:∀s H fp xe,PTs (cxC X N' scope s H fp xe) ifs tt) (he:∀s H fp xe,PE (cxC X N' scope s H fp xe) elt te):
  PE X (.ListComp elt [⟨tg,iter,ifs,0⟩] scope pos) (aiE cap wi g tt te):=by
 intro pins s σ H Q I h;rw[eval_ListComp];refine wpAny_comprehension_free (use:=none) rfl C.fold C.clos C.kind C.names (thn (hi pins s σ H _ I h) λv s1 h1=>thn h1 λab s2 h2=>?_);obtain⟨it,fp,tn,J,H2,e,I2,T,z,f2,hw⟩:=h2;subst e;refine NQ (R:=λacc Cl=>compPost (model X.prog X.w) X.A X.xe none (EP X pins σ Q) acc Cl) hc C hg ht he I2 T z f2 ?_ hw;intro D Cl H' s' I' ⟨m,hn⟩ hf h1 h2 h3 h4 q;exact⟨m,hn,λh' aa=>⟨.ref D,H',I'.turned (t':=s'.toks) (λb o hb e=>(aa.2 b hb).trans e) hf h1 (.inr h2) h3 h4,rfl,q⟩⟩
def oO{i:Nat}{y:Str}{py aa:Pos}(hN:X.N.Nodup)(ae:X.N[i]? =some y)(hy:X.env.scope.names.lookup y=some .local)
  (hc:X.calm=true) (C:Yz X iter scope N' cap) (hi:PI X tg iter wi)
  (hg:∀s H fp xe,PG (cxC X N' scope s H fp xe) tg g) (ht:∀s H fp xe,PTs (cxC X N' scope s H fp xe) ifs tt) (he:∀s H fp xe,PE (cxC X N' scope s H fp xe) elt te)
  (ad:swapsWith (.ListComp elt [⟨tg,iter,ifs,0⟩] scope pos) (some (.Name y py)) aa.line X.env=pure true:=by rfl):
  PS X (.Assign [.Name y py] (.ListComp elt [⟨tg,iter,ifs,0⟩] scope pos) aa) (ale (aiE cap wi g tt te) (Vt i)):=by
 intro pins s σ H D I h;rw[exec_Assign_Name_used _ _ _ _ ad];refine zd (zzW (zd ?_));show wpAny _ X.A (do let _<-comprehension (.ListComp elt [⟨tg,iter,ifs,0⟩] scope pos) scope X.env _ (newList []) false (eval iter X.env) (some (assign (.Name y py) X.env))) _ _ s
 refine zd (ye (wpAny_comprehension_free (use:=some (assign (.Name y py) X.env)) (Q:=λ_ s'=>SP X pins D .next s') rfl C.fold C.clos C.kind C.names (thn (hi pins s σ H _ I h) λv s1 h1=>thn h1 λai s2 h2=>?_))
  (λ_ s' hq=>zC (zC hq)) λ_ _ e=>e)
 obtain⟨it,fp,tn,J,H2,e,I2,T,ah,f2,hw⟩:=h2;subst e;refine NQ (Q:=λx H1=>Vt i x σ H1 D.nx) (R:=λacc Cl=>compPost (model X.prog X.w) X.A X.xe (some (assign (.Name y py) X.env)) (λ_ s'=>SP X pins D .next s') acc Cl) hc C hg ht he I2 T ah f2 ?_ hw;intro Da Cl H' s' I' ⟨m,hn⟩ hf h1 h2 h3 h4 q;show wpAny _ _ (assign (.Name y py) X.env (.ref Da)) _ _ s';refine wpAny_assign_Name (Qe I' hN ae (.inl hy) (v:=.ref Da) rfl (λab I'' ⟨a,ag,ha⟩=>?_) (.inr hy))
 have af:Cl≠a:=by
  rcases ha with z|z
  ·rw[z];exact h1
  ·exact Ne.symm (h3 y a z)
 exact⟨m,hn.sameBut ag af,λh' ac=>⟨_,H',I''.turned (t':=ab.toks) (λb o hb e=>(ac.2 b hb).trans e) hf h1 (.inr h2) h3 h4,q⟩⟩
end
end L2
namespace L2
open PySem PySem.Spec PyProof.Rows
section
variable{X:Cx}{a b c:Expr}{ta tb tc:TE}{pos:Pos}
noncomputable def aio(i j:Int):Prop:=i.natAbs<2^2000/\j.natAbs<2^2000
def aio.ok{i j:Int}(h:aio i j):IntMulOk i j:=
 IntMulOk.of_bits (zV (intBits_le h.1) (by decide)) (zV (intBits_le h.2) (by decide))
noncomputable def Oi(_ j:Int):Prop:=0<j/\j.natAbs<2^2000
def oY:OpR X (binaryOp .FloorDiv) (rI Oi λi j=> .int (i/j)):=opI λi j _ _ _ _ _ z q=>by
 have h1:(0:Int)<j:=z.1;have h0:j.natAbs≠0:=by omega
 have h2:j.natAbs.log2<2000:=(Nat.log2_lt h0).mpr z.2;exact floordiv_int (by omega) (by rw[Int.fdiv_eq_ediv_of_nonneg i (by omega)];exact q) (.inl (PyProof.noPylong_of_log2 (by omega)))
def WP(hc:X.calm=true):nH X (.builtin "sum") (λxs H Q=>∃(a:Addr)(ns:List Int),xs=[.ref a]/\SqL X.K H a (ns.map V.int)/\Q (.int ns.sum) H):=by
 intro pins s σ H xs us Q I r h;obtain⟨a,ns,rfl,hq,q⟩:=h;obtain⟨u,rfl,r1⟩:=vals1 r;cases r1;obtain⟨its,rv,pl,hz⟩:=I.list hq;have hi:IntsAre its ns:=intsAre_of rv;obtain⟨xs,e⟩:=hi.allInts.items;have z:=pl.isList;rw[e]at z;refine sum_intListG (I.ok.hd hc) z λh' tk t' hk=>?_;have e1:its=(intItems xs).toList:=by rw[<-e]
 have e2:xs.toList.map (·.1)=ns:=by rw[<-nums_intItems,<-e1,hi.numsOf]
 have es:preSum (numAt xs) xs.size=ns.sum:=by rw[preSum_eq,z3 (by simp),e2]
 rw[es];exact⟨.int ns.sum,H,I.kept hk,⟨_,rfl⟩,q⟩
def Ld{pins:List (Addr×Obj)}{σ:St}{H:Hp}{s:Shared}{l:Addr}{bs:List Bool}(I:Inv X pins σ H s)(hq:SqL X.K H l (bs.map V.bl)):
  ∃its:List Value,its.length=bs.length/\s.heap.IsList l its.toArray/\l≠s.heap.objs.size/\∀(i:Nat)(v:Value),its.toArray[i]? =some v->v=.bool (bs.getD i false):=by
 obtain⟨its,q,pl,hz⟩:=I.list hq;refine⟨its,by rw[<-q.length,za],pl.isList,?_,λi v e=>?_⟩
 ·obtain⟨o,n,e,_⟩:=pl
  exact zE (zr e)
 ·have e':its[i]? =some v:=by simpa using e
  have hi:i<its.length:=(zp.mp e').1;have z:i<bs.length:=by have:=q.length;rw[za]at this;omega
  obtain⟨u,hu,ru⟩:=q.get (i:=i) (x:=.bl bs[i]) (by simp[z]);rw[e']at hu;cases hu;have:v=Value.bool bs[i]:=ru;rw[this];simp[List.getD,z]
def range_any(bs:List Bool):(List.range bs.length).any (λi=>bs.getD i false)=bs.any id:=by
 rw[yR];simp only[yz,yu,id];constructor
 ·rintro⟨i,hi,e⟩
  refine⟨bs[i],yE hi,?_⟩
  simpa [List.getD,hi] using e
 ·rintro⟨x,q,e⟩
  obtain⟨i,hi,rfl⟩:=List.mem_iff_getElem.mp q;exact⟨i,hi,by simpa [List.getD,hi] using e⟩
def range_all(bs:List Bool):(List.range bs.length).all (λi=>bs.getD i false)=bs.all id:=by
 rw[yR];simp only[List.all_eq_true,yu,id];constructor
 ·intro h x q
  obtain⟨i,hi,rfl⟩:=List.mem_iff_getElem.mp q
  simpa [List.getD,hi] using h i hi
 ·intro h i hi
  have:=h bs[i] (yE hi)
  simpa [List.getD,hi] using this
def Zb(hc:X.calm=true):nH X (.builtin "any") (λxs H Q=>∃(a:Addr)(bs:List Bool),xs=[.ref a]/\SqL X.K H a (bs.map V.bl)/\Q (.bl (bs.any id)) H):=by
 intro pins s σ H xs us Q I r h;obtain⟨a,bs,rfl,hq,q⟩:=h;obtain⟨u,rfl,r1⟩:=vals1 r;cases r1;obtain⟨its,aa,hl,ac,ab⟩:=Ld I hq;refine call_any_walk (yK hl ?_);refine⟨s.heap.objs.size,_,_,_,_,_,λi=>bs.getD i false,rfl,Walks.list (A:=X.A.in1) (I.ok.hd hc) s.heap.objs.size a ac its.toArray,⟨⟨_,zA _ rfl,rfl,rfl⟩,hl.at λo e=>zb _ e⟩,λi v s' Q' E' e hQ=>?_,λh' tk hk=>?_⟩
 ·rw[ab i v e]
  exact yf hQ
 ·have e:(List.range its.toArray.size).any (λi=>bs.getD i false)=bs.any id:=by rw[zl,aa];exact range_any bs
  rw[e];refine⟨.bl (bs.any id),H,I.kept λb o e=>hk b o ?_ (zb _ e),rfl,q⟩;intro z;have z':b=s.heap.objs.size:=by simpa using z
  rw[z']at e;exact absurd (zr e) (ya _)
def YX(hc:X.calm=true):nH X (.builtin "all") (λxs H Q=>∃(a:Addr)(bs:List Bool),xs=[.ref a]/\SqL X.K H a (bs.map V.bl)/\Q (.bl (bs.all id)) H):=by
 intro pins s σ H xs us Q I r h;obtain⟨a,bs,rfl,hq,q⟩:=h;obtain⟨u,rfl,r1⟩:=vals1 r;cases r1;obtain⟨its,aa,hl,ac,ab⟩:=Ld I hq;refine call_all_walk (yK hl ?_);refine⟨s.heap.objs.size,_,_,_,_,_,λi=>bs.getD i false,rfl,Walks.list (A:=X.A.in1) (I.ok.hd hc) s.heap.objs.size a ac its.toArray,⟨⟨_,zA _ rfl,rfl,rfl⟩,hl.at λo e=>zb _ e⟩,λi v s' Q' E' e hQ=>?_,λh' tk hk=>?_⟩
 ·rw[ab i v e]
  exact yf hQ
 ·have e:(List.range its.toArray.size).all (λi=>bs.getD i false)=bs.all id:=by rw[zl,aa];exact range_all bs
  rw[e];refine⟨.bl (bs.all id),H,I.kept λb o e=>hk b o ?_ (zb _ e),rfl,q⟩;intro z;have z':b=s.heap.objs.size:=by simpa using z
  rw[z']at e;exact absurd (zr e) (ya _)
end
end L2
namespace L2
open PySem PySem.Spec PyProof.Rows
section
variable{X:Cx}{a b c:Expr}{ta tb tc:TE}{pos:Pos}
noncomputable def Ab(i j:Int):Prop:=alq i j\/aio i j
def lN:OpR X (binaryOp .Mult) (rI Ab λi j=> .int (i*j)):=opI λ_ _ _ _ _ _ _ z q=>mul_int q (z.elim (λh=>h.ok) λh=>h.ok)
def Qj{i j:Int}(h1: -(2^64)<i)(h2:i<2^64):Ab i j:=.inl (.inl ⟨h1,h2⟩)
def rG{i j:Int}(h1: -(2^64)<j)(h2:j<2^64):Ab i j:=.inl (.inr ⟨h1,h2⟩)
def Ab.big{i j:Int}(h1:i.natAbs<2^2000)(h2:j.natAbs<2^2000):Ab i j:=.inr ⟨h1,h2⟩
def Oh:nH X (.builtin "isinstance") (λxs H Q=>∃x n t k,xs=[x,.ty n]/\Kd X.K H x t/\PySem.W.kitOne X.K t (.type n)=some k/\Q (.bl k) H):=by
 intro pins s σ H xs us Q I r h;obtain⟨x,n,t,k,rfl,ty,e,q⟩:=h;obtain⟨u,w',rfl,z,rc⟩:=vals2 r;cases rc;exact Qy I z ty e λtk=>⟨.bl k,H,I.tok _,rfl,q⟩
def Pq:nH X (.builtin "isinstance") (λxs H Q=>∃x C t k,xs=[x,.ref C]/\Kd X.K H x t/\PySem.W.kitOne X.K t (.ref C)=some k/\Q (.bl k) H):=by
 intro pins s σ H xs us Q I r h;obtain⟨x,C,t,k,rfl,ty,e,q⟩:=h;obtain⟨u,w',rfl,z,rc⟩:=vals2 r;cases rc;exact Qy I z ty e λtk=>⟨.bl k,H,I.tok _,rfl,q⟩
def VG{x:Str}(T:String)(z:Gl X x)(hm:X.mg x=none)(q:bootBuiltins x=some (.type T))(hn:x≠ "__name__" :=by decide) (hd:(x==("__debug__" :Str))=false:=by decide):PE X (.Name x pos) (tC (.ty T)):=aiW z hm q rfl hn hd
end
section
variable{D:Ends}{σ:St}{H:Hp}{t u:TS}{te ta tb tc:TE}{tt tu:TT}{Q:VK}{QB:Bool->Hp->Prop}{QA:List V->Hp->Prop}{QG:St->Hp->Prop}{v x y:V}{vs:List V}{i j:Nat}{g:TG}{gs:TGs}{A:TA}{K:Fg_}
def ap_seq:Xu t u D σ H=t {D with nx:=u D} σ H:=rfl
def ap_next:Qv D σ H=D.nx σ H:=rfl
def ap_asg:ale te g D σ H=te σ H λx H1=>g x σ H1 D.nx:=rfl
def ap_name:Vt i v σ H QG=QG (σ.set i (some v)) H:=rfl
def ap_var:Qo i σ H Q=∃v,σ[i]? =some (some v)/\Q v H:=rfl
def ap_c:tC v σ H Q=Q v H:=rfl
def ap_op{r:R2}:tOp r ta tb σ H Q=ta σ H λx H1=>tb σ H1 λy H2=>r x y H2 Q:=rfl
def ap_un{r:V->Hp->VK->Prop}:tUn r ta σ H Q=ta σ H λx H1=>r x H1 Q:=rfl
def ap_rI{C:Int->Int->Prop}{f:Int->Int->V}:rI C f x y H Q=∃i j,x=.int i/\y=.int j/\C i j/\Q (f i j) H:=rfl
def ap_rI0{f:Int->Int->V}:rI0 f x y H Q=∃i j,x=.int i/\y=.int j/\Q (f i j) H:=rfl
def ap_rU{f:Int->V}:rU f x H Q=∃i,x=.int i/\Q (f i) H:=rfl
def ap_rEq:rEq x y H Q=(aiT x y=true/\Q (.bl (decide (x=y))) H):=rfl
def ap_rNe:rNe x y H Q=(aiT x y=true/\Q (.bl (!decide (x=y))) H):=rfl
def ap_ret:alO te D σ H=te σ H D.rt:=rfl
def ap_retN:akh D σ H=D.rt .non H:=rfl
def ap_drop:ajM te D σ H=te σ H λ_ H1=>D.nx σ H1:=rfl
def ap_if:Wa tt t u D σ H=tt σ H λb H1=>if b=true then t D σ H1 else u D σ H1:=rfl
def ap_test:Bg te σ H QB=te σ H λx H'=>∃k,x=.bl k/\QB k H':=rfl
def ap_tB:tB te σ H QB=te σ H λx H1=>∃c,x=.bl c/\QB c H1:=rfl
def ap_and:alR tt tu σ H QB=tt σ H λc H1=>if c=true then tu σ H1 QB else QB false H1:=rfl
def ap_or:tOr tt tu σ H QB=tt σ H λc H1=>if c=true then QB true H1 else tu σ H1 QB:=rfl
def ap_not:alP tt σ H QB=tt σ H λc H1=>QB (!c) H1:=rfl
def ap_andV:ajK ta tb σ H Q=ta σ H λx H1=>∃c,x=.bl c/\if c=true then tb σ H1 Q else Q (.bl false) H1:=rfl
def ap_notV:ajZ ta σ H Q=ta σ H λx H1=>∃c,x=.bl c/\Q (.bl (!c)) H1:=rfl
def ap_ifE:tIf tt ta tb σ H Q=tt σ H λc H1=>if c=true then ta σ H1 Q else tb σ H1 Q:=rfl
def ap_call{sp:Sp}{dvs:List V}{E:XK}:aao sp dvs E A σ H Q=A σ H λvs H1=>sp (vs++dvs) H1 Q E:=rfl
def ap_nil:Wx σ H QA=QA [] H:=rfl
def ap_cons:EY ta A σ H QA=ta σ H λx H1=>A σ H1 λxs H2=>QA (x::xs) H2:=rfl
def ap_cb{r:List V->Hp->VK->Prop}:tCB r A σ H Q=A σ H λvs H1=>r vs H1 Q:=rfl
def ap_lst:alX A σ H Q=A σ H λxs H1=>xs.length<=sizeLine/\∀p,H1 p=none->Q (.ref p) (upd H1 p (.lst xs)):=rfl
def ap_tup:alN A σ H Q=A σ H λxs H1=>xs.length<=sizeLine/\∀p,H1 p=none->Q (.ref p) (upd H1 p (.tup xs)):=rfl
def ap_chain{r q:R2}:Xv r q ta tb tc σ H Q=ta σ H λx H1=>tb σ H1 λy H2=>r x y H2 λz H3=>∃k,z=.bl k/\(if k=true then tc σ H3 λw' H4=>q y w' H4 Q else Q (.bl false) H3):=rfl
def ap_sl{r:V->Option Int->Option Int->Hp->VK->Prop}{tl th:TO}:tSl r te tl th σ H Q=te σ H λx H1=>tl σ H1 λl H2=>th σ H2 λu q=>r x l u q Q:=rfl
def ap_noPart{QO:Option Int->Hp->Prop}:Yi σ H QO=QO none H:=rfl
def ap_part{QO:Option Int->Hp->Prop}:akg te σ H QO=te σ H λx H1=>∃i,x=.int i/\QO (some i) H1:=rfl
def ap_gNil:alT vs σ H QG=(vs=[]/\QG σ H):=rfl
def ap_gCons{u:TGs}:akF g u vs σ H QG=∃v r,vs=v::r/\g v σ H λq H'=>u r q H' QG:=rfl
def ap_gTup{n:Nat}:alG K n gs v σ H QG=∃a xs,v=.ref a/\SqT K H a xs/\xs.length=n/\gs xs σ H QG:=rfl
def ap_bm{T:String}{r:V->List V->Hp->VK->Prop}:tBM K T r te A σ H Q=te σ H λx H1=>tyV K T x H1/\A σ H1 λxs H2=>r x xs H2 Q:=rfl
def ap_bm0{T:String}{r:V->List V->Hp->VK->Prop}:alB K T r te σ H Q=te σ H λx H1=>tyV K T x H1/\r x [] H1 Q:=rfl
def ap_ixL{x y:V}:alk K x y H Q=∃p xs i v,x=.ref p/\y=.int i/\SqL K H p xs/\atI xs i=some v/\Q v H:=rfl
def ap_slL{lo hi:Option Int}:ali K x lo hi H Q=∃a xs,x=.ref a/\SqL K H a xs/\∀p,H p=none->Q (.ref p) (upd H p (.lst (Zd xs lo hi))):=rfl
def scal_int(i j:Int):aiT (.int i) (.int j)=true:=rfl
def scal_str(i j:Str):aiT (.str i) (.str j)=true:=rfl
def scal_bl(i j:Bool):aiT (.bl i) (.bl j)=true:=rfl
def start_eq(N:List Str)(vs:List V):start N vs=vs.map some++List.replicate (N.length - vs.length) none:=rfl
end
end L2
namespace L2
open PySem PySem.Spec PyProof.Rows
def JM{α:Type}(l:List α):l.filter (λ_=>true)=l:=by simp
theorem Same.upd{H H':Hp}{a:Addr}{o:HO}(h:Same H H')(hn:H a=Option.none):Same H (upd H' a o):=λb u e=>by
 rw[iQ (jE e hn)];exact h b u e
def iH{H:Hp}{a:Addr}{o:HO}(hn:H a=Option.none):Same H (L2.upd H a o):=Same.upd (same_refl H) hn
section
variable{K:Fg_}{a D:Addr}{xs:List V}{g:TG}{tt:TT}{te:TE}{σ0:St}{H1:Hp}{Q:VK}
def DQ{xs:List V}(J:It)(Sσ:St->Prop)(p:V->Bool)(F:V->V)(hD:H1 D=Option.none)(h0:Sσ σ0)(hz:xs.length<=sizeLine)
  (ae:∀(i:Nat) x H,xs[i]? =some x->Same H1 H->J.go i H/\∀y H',J.yld i H y H'->y=x/\H'=H) (ac:∀H,Same H1 H->J.stop xs.length H)
  (hs:∀x∈xs,∀(σ:St)(H:Hp)(R1:St->VK)(R2:St->Hp->Prop),Sσ σ->Same H1 H->(p x=true->∀z H6,Sσ z->Same H H6->R1 z (F x) H6)->(p x=false->∀z H6,Sσ z->Same H H6->R2 z H6)->
   g x σ H λz H4=>tt z H4 λb H5=>if b=true then te z H5 (R1 z)else R2 z H5)
  (k:∀H',Same H1 H'->H' D=some (.lst ((xs.filter p).map F))->Q (.ref D) H'):
  ∃W:Nat->Nat->List V->St->Hp->Prop,(∃m,W 0 m [] σ0 (upd H1 D (.lst [])))/\∀i m acc σ1 H2,W i m acc σ1 H2->H2 D=some (.lst acc)->
   (J.stop i H2/\Q (.ref D) H2)\/(J.go i H2/\∀x H3,J.yld i H2 x H3->g x σ1 H3 λz H4=>tt z H4 λb H5=>
    if b=true then te z H5 λv H6=>∃q,H6 D=some (.lst q)/\q.length<sizeLine/\∃m',m'<m/\W (i+1) m' (q++[v]) z (upd H6 D (.lst (q++[v])))
    else∃m',m'<m/\∃q,H5 D=some (.lst q)/\W (i+1) m' q z H5):=by
 refine⟨λi m acc σ H=>m=xs.length - i/\i<=xs.length/\Sσ σ/\Same H1 H/\acc=((xs.take i).filter p).map F,⟨xs.length,rfl,zJ _,h0,iH hD,by simp⟩,?_⟩;rintro i m acc σ H ⟨rfl,hi,hσ,sm,rfl⟩ hA;by_cases ab:i<xs.length
 ·have hx:xs[i]? =some xs[i]:=by simp[ab]
  obtain⟨go,yl⟩:=ae i xs[i] H hx sm;refine .inr ⟨go,λy H' hy=>?_⟩;obtain⟨rfl,rfl⟩:=yl y H' hy;have aa:xs.take (i+1)=xs.take i++[xs[i]]:=by rw[zS,hx];rfl
  have af:(((xs.take i).filter p).map F).length<=i:=by
   rw[za];exact zV (yk _ _) (by rw[z0];exact Nat.min_le_left _ _)
  refine hs xs[i] (yE ab) σ H' _ _ hσ sm (λhp z H6 ad s6=>?_) (λhp z H6 ad s6=>?_)
  ·refine⟨_,s6 _ _ hA,by omega,xs.length - (i+1),by omega,rfl,ab,ad,(sm.trans s6).upd hD,?_⟩
   rw[aa,yo,zu];simp[hp]
  ·refine⟨xs.length - (i+1),by omega,_,s6 _ _ hA,rfl,ab,ad,sm.trans s6,?_⟩
   rw[aa,yo,zu];simp[hp]
 ·have e:i=xs.length:=by omega
  subst e;refine .inl ⟨ac H sm,k H sm ?_⟩;rw[hA,zU]
def Wj(Sσ:St->Prop)(p:V->Bool)(F:V->V)(hS:SqL K H1 a xs)(hD:H1 D=Option.none)(h0:Sσ σ0)(hz:xs.length<=sizeLine)
  (hs:∀x∈xs,∀(σ:St)(H:Hp)(R1:St->VK)(R2:St->Hp->Prop),Sσ σ->Same H1 H->(p x=true->∀z H6,Sσ z->Same H H6->R1 z (F x) H6)->(p x=false->∀z H6,Sσ z->Same H H6->R2 z H6)->
   g x σ H λz H4=>tt z H4 λb H5=>if b=true then te z H5 (R1 z)else R2 z H5)
  (k:∀H',Same H1 H'->H' D=some (.lst ((xs.filter p).map F))->Q (.ref D) H'):
  ∃W:Nat->Nat->List V->St->Hp->Prop,(∃m,W 0 m [] σ0 (upd H1 D (.lst [])))/\∀i m acc σ1 H2,W i m acc σ1 H2->H2 D=some (.lst acc)->
   ((Itl K a).stop i H2/\Q (.ref D) H2)\/((Itl K a).go i H2/\∀x H3,(Itl K a).yld i H2 x H3->g x σ1 H3 λz H4=>tt z H4 λb H5=>
    if b=true then te z H5 λv H6=>∃q,H6 D=some (.lst q)/\q.length<sizeLine/\∃m',m'<m/\W (i+1) m' (q++[v]) z (upd H6 D (.lst (q++[v])))
    else∃m',m'<m/\∃q,H5 D=some (.lst q)/\W (i+1) m' q z H5):=
 DQ (Itl K a) Sσ p F hD h0 hz (λi x H hx sm=>⟨⟨xs,x,sm.seq hS,hx⟩,λy H' hy=>⟨zw ((hy.2 xs (sm.seq hS)).symm.trans hx),hy.1⟩⟩) (λH sm=>⟨xs,sm.seq hS,zm _⟩) hs k
def Vm{lo:Int}{n:Nat}(Sσ:St->Prop)(p:V->Bool)(F:V->V)(hD:H1 D=Option.none)(h0:Sσ σ0)(hz:n<=sizeLine)
  (hs:∀i:Nat,i<n->∀(σ:St)(H:Hp)(R1:St->VK)(R2:St->Hp->Prop),Sσ σ->Same H1 H->(p (.int (lo+i))=true->∀z H6,Sσ z->Same H H6->R1 z (F (.int (lo+i))) H6)->(p (.int (lo+i))=false->∀z H6,Sσ z->Same H H6->R2 z H6)->
   g (.int (lo+i)) σ H λz H4=>tt z H4 λb H5=>if b=true then te z H5 (R1 z)else R2 z H5)
  (k:∀H',Same H1 H'->H' D=some (.lst ((((List.range n).map fun(i:Nat)=>V.int (lo+i)).filter p).map F))->Q (.ref D) H'):
  ∃W:Nat->Nat->List V->St->Hp->Prop,(∃m,W 0 m [] σ0 (upd H1 D (.lst [])))/\∀i m acc σ1 H2,W i m acc σ1 H2->H2 D=some (.lst acc)->
   ((Itr lo n).stop i H2/\Q (.ref D) H2)\/((Itr lo n).go i H2/\∀x H3,(Itr lo n).yld i H2 x H3->g x σ1 H3 λz H4=>tt z H4 λb H5=>
    if b=true then te z H5 λv H6=>∃q,H6 D=some (.lst q)/\q.length<sizeLine/\∃m',m'<m/\W (i+1) m' (q++[v]) z (upd H6 D (.lst (q++[v])))
    else∃m',m'<m/\∃q,H5 D=some (.lst q)/\W (i+1) m' q z H5):=by
 refine DQ (xs:=(List.range n).map fun(i:Nat)=>V.int (lo+i)) (Itr lo n) Sσ p F hD h0 (by simpa using hz) (λi x H hx sm=>?_) (λH sm=>?_) (λx hx σ H R1 R2 h1 h2 h3 h4=>?_) k
 ·have hi:i<n:=by simpa using (zp.mp hx).1
  have e:x=.int (lo+i):=by
   rw[zf,List.getElem?_range hi]at hx;exact(zw hx).symm
  exact⟨hi,λy H' hy=>⟨hy.2.trans e.symm,hy.1⟩⟩
 ·show n<=_
  simp
 ·obtain⟨i,hi,rfl⟩:=zj.mp hx
  exact hs i (yu.mp hi) σ H R1 R2 h1 h2 h3 h4
end
end L2
namespace L2
open PySem PySem.Spec PyProof.Rows
inductive DV where
 |non|bl (b:Bool)|int (i:Int)|str (x:Str)|lst (xs:List DV)|tup (xs:List DV)
mutual
inductive Ln(K:Fg_)(H:Hp):V->DV->Prop
 |non:Ln K H .non .non
 |bl (b:Bool):Ln K H (.bl b) (.bl b)
 |int (i:Int):Ln K H (.int i) (.int i)
 |str (x:Str):Ln K H (.str x) (.str x)
 |lst {a:Addr} {vs:List V} {ds:List DV} (h:SqL K H a vs) (hs:qX K H vs ds):Ln K H (.ref a) (.lst ds)
 |tup {a:Addr} {vs:List V} {ds:List DV} (h:SqT K H a vs) (hs:qX K H vs ds):Ln K H (.ref a) (.tup ds)
inductive qX(K:Fg_)(H:Hp):List V->List DV->Prop
 |nil:qX K H [] []
 |cons {v:V} {d:DV} {vs:List V} {ds:List DV} (h:Ln K H v d) (hs:qX K H vs ds):qX K H (v::vs) (d::ds)
end
mutual
noncomputable def mQ:DV->DV->Bool
 |.non,.non=>true
 |.bl a,.bl b=>a==b
 |.int a,.int b=>a==b
 |.bl a,.int b=>(if a then 1 else 0)==b
 |.int a,.bl b=>a==(if b then 1 else 0)
 |.str a,.str b=>a==b
 |.lst xs,.lst ys=>Dk xs ys
 |.tup xs,.tup ys=>Dk xs ys
 |_,_=>false
noncomputable def Dk:List DV->List DV->Bool
 |[],[]=>true
 |x::xs,y::ys=>mQ x y && Dk xs ys
 |_,_=>false
end
mutual
noncomputable def Kc:DV->Nat
 |.lst xs=>BL xs+1
 |.tup xs=>BL xs+1
 |_=>0
noncomputable def BL:List DV->Nat
 |[]=>0
 |x::xs=>max (Kc x) (BL xs)
end
theorem qX.length{K:Fg_}{H:Hp}:∀{vs:List V}{ds:List DV},qX K H vs ds->vs.length=ds.length
 |_,_,.nil=>rfl
 |_,_,.cons _ hs=>congrArg (·+1) (qX.length hs)
theorem qX.get{K:Fg_}{H:Hp}:∀{vs:List V}{ds:List DV}{j:Nat}{v:V}{d:DV},qX K H vs ds->vs[j]? =some v->ds[j]? =some d->Ln K H v d
 |_,_,_,_,_,.nil,h,_=>by simp at h
 |_,_,0,_,_,.cons h _,e1,e2=>by simp at e1 e2;subst e1 e2;exact h
 |_,_,j+1,_,_,.cons _ hs,e1,e2=>qX.get (j:=j) hs (by simpa using e1) (by simpa using e2)
theorem OD:∀{ds:List DV}{j:Nat}{d:DV},ds[j]? =some d->Kc d<=BL ds
 |[],_,_,h=>by simp at h
 |x::xs,0,d,h=>by simp at h;subst h;unfold BL;exact Nat.le_max_left _ _
 |x::xs,j+1,d,h=>by unfold BL;exact zV (OD (j:=j) (by simpa using h)) (Nat.le_max_right _ _)
theorem wW:∀(xs ys:List DV),xs.length=ys.length->Dk xs ys=(List.range xs.length).all λj=>mQ (xs.getD j .non) (ys.getD j .non)
 |[],[],_=>rfl
 |x::xs,y::ys,h=>by
  unfold Dk;rw[wW xs ys (by simpa using h),zM,List.range_succ_eq_map,List.all_cons,List.all_map];rfl
 |[],_::_,h=>by simp at h
 |_::_,[],h=>by simp at h
theorem wV:∀(xs ys:List DV),xs.length≠ys.length->Dk xs ys=false
 |[],[],h=>absurd rfl h
 |x::xs,y::ys,h=>by
  unfold Dk;rw[wV xs ys (by simpa using h),zzI]
 |[],_::_,_=>by unfold Dk;rfl
 |_::_,[],_=>by unfold Dk;rfl
def aak(xs ys:List DV):mQ (.lst xs) (.lst ys)=Dk xs ys:=by unfold mQ;rfl
def ZC(xs ys:List DV):mQ (.tup xs) (.tup ys)=Dk xs ys:=by unfold mQ;rfl
mutual
theorem Qg:∀d:DV,mQ d d=true
 |.non=>by unfold mQ;rfl
 |.bl a=>by unfold mQ;simp
 |.int a=>by unfold mQ;simp
 |.str a=>by unfold mQ;simp
 |.lst xs=>by unfold mQ;exact tW xs
 |.tup xs=>by unfold mQ;exact tW xs
theorem tW:∀ds:List DV,Dk ds ds=true
 |[]=>by unfold Dk;rfl
 |x::xs=>by unfold Dk;rw[Qg x,tW xs];rfl
end
section
variable{X:Cx}{pins:List (Addr×Obj)}{σ:St}{H:Hp}{s:Shared}
def Inv.noboth(I:Inv X pins σ H s){a:Addr}{xs ys:List V}(h:SqL X.K H a xs)(h':SqT X.K H a ys):False:=by
 obtain⟨its,r,⟨o,n,e,c,_⟩,_⟩:=I.list h;obtain⟨its',r',⟨o',q,z,_⟩,_⟩:=I.tuple h';rw[e]at q;cases q;rw[c]at z;exact absurd z (by decide)
mutual
theorem Ln.inj(I:Inv X pins σ H s):∀{v:V}{d d':DV},Ln X.K H v d->Ln X.K H v d'->d=d'
 |_,_,_,.non,.non=>rfl
 |_,_,_,.bl _,.bl _=>rfl
 |_,_,_,.int _,.int _=>rfl
 |_,_,_,.str _,.str _=>rfl
 |_,_,_,.lst h hs,.lst h' hs'=>by
  have e:=I.list_inj h h';subst e;rw[qX.inj I hs hs']
 |_,_,_,.tup h hs,.tup h' hs'=>by
  have e:=I.tuple_inj h h';subst e;rw[qX.inj I hs hs']
 |_,_,_,.lst h _,.tup h' _=>(I.noboth h h').elim
 |_,_,_,.tup h _,.lst h' _=>(I.noboth h' h).elim
theorem qX.inj(I:Inv X pins σ H s):∀{vs:List V}{ds ds':List DV},qX X.K H vs ds->qX X.K H vs ds'->ds=ds'
 |_,_,_,.nil,.nil=>rfl
 |_,_,_,.cons h hs,.cons h' hs'=>by rw[Ln.inj I h h',qX.inj I hs hs']
end
def in1_units(A:Around):A.in1.units=A.units+1:=rfl
def ul(I:Inv X pins σ H s){A:Around}{d1 d2:DV}{v1 v2:V}{u1 z:Value}(hd:Kc d1<=0)(aa:A.units<cLine)(h1:Ln X.K H v1 d1)(h2:Ln X.K H v2 d2)(r1:RelV v1 u1)(q:RelV v2 z):SeqAt.EqAt A s u1 z (mQ d1 d2):=by
 cases h1 with
 |lst h hs=>unfold Kc at hd;omega
 |tup h hs=>unfold Kc at hd;omega
 |non=>
  cases (show u1=Value.none from r1)
  cases h2 with
  |non=>cases (show z=Value.none from q);unfold mQ;exact SeqAt.EqAt.same _
  |bl b=>cases (show z=Value.bool b from q);unfold mQ;exact SeqAt.EqAt.none_bool b
  |int i=>obtain⟨t,e⟩:=(show∃t,z=Value.int i t from q);subst e;unfold mQ;exact SeqAt.EqAt.none_int i t
  |str x=>obtain⟨t,e⟩:=(show∃t,z=Value.str x t from q);subst e;unfold mQ;exact SeqAt.EqAt.none_str x t
  |lst h hs=>obtain⟨its,_,p,_⟩:=I.list h;cases q;unfold mQ;exact SeqAt.EqAt.none_list p.isList aa
  |tup h hs=>obtain⟨its,_,p,_⟩:=I.tuple h;cases q;unfold mQ;exact SeqAt.EqAt.none_tuple p aa
 |bl a=>
  cases (show u1=Value.bool a from r1)
  cases h2 with
  |non=>cases (show z=Value.none from q);unfold mQ;exact SeqAt.EqAt.bool_none a
  |bl b=>cases (show z=Value.bool b from q);unfold mQ;exact SeqAt.EqAt.bool_bool a b
  |int i=>obtain⟨t,e⟩:=(show∃t,z=Value.int i t from q);subst e;unfold mQ;exact SeqAt.EqAt.bool_int a i t
  |str x=>obtain⟨t,e⟩:=(show∃t,z=Value.str x t from q);subst e;unfold mQ;exact SeqAt.EqAt.bool_str a x t
  |lst h hs=>obtain⟨its,_,p,_⟩:=I.list h;cases q;unfold mQ;exact SeqAt.EqAt.bool_list a p.isList aa
  |tup h hs=>obtain⟨its,_,p,_⟩:=I.tuple h;cases q;unfold mQ;exact SeqAt.EqAt.bool_tuple a p aa
 |int a=>
  obtain⟨t1,e1⟩:=(show∃t,u1=Value.int a t from r1);subst e1
  cases h2 with
  |non=>cases (show z=Value.none from q);unfold mQ;exact SeqAt.EqAt.int_none a t1
  |bl b=>cases (show z=Value.bool b from q);unfold mQ;exact SeqAt.EqAt.int_bool a t1 b
  |int i=>obtain⟨t,e⟩:=(show∃t,z=Value.int i t from q);subst e;unfold mQ;exact SeqAt.EqAt.int_int a t1 i t
  |str x=>obtain⟨t,e⟩:=(show∃t,z=Value.str x t from q);subst e;unfold mQ;exact SeqAt.EqAt.int_str a t1 x t
  |lst h hs=>obtain⟨its,_,p,_⟩:=I.list h;cases q;unfold mQ;exact SeqAt.EqAt.int_list a t1 p.isList aa
  |tup h hs=>obtain⟨its,_,p,_⟩:=I.tuple h;cases q;unfold mQ;exact SeqAt.EqAt.int_tuple a t1 p aa
 |str a=>
  obtain⟨t1,e1⟩:=(show∃t,u1=Value.str a t from r1);subst e1
  cases h2 with
  |non=>cases (show z=Value.none from q);unfold mQ;exact SeqAt.EqAt.str_none a t1
  |bl b=>cases (show z=Value.bool b from q);unfold mQ;exact SeqAt.EqAt.str_bool a t1 b
  |int i=>obtain⟨t,e⟩:=(show∃t,z=Value.int i t from q);subst e;unfold mQ;exact SeqAt.EqAt.str_int a t1 i t
  |str x=>obtain⟨t,e⟩:=(show∃t,z=Value.str x t from q);subst e;unfold mQ;exact SeqAt.EqAt.str_str a t1 x t
  |lst h hs=>obtain⟨its,_,p,_⟩:=I.list h;cases q;unfold mQ;exact SeqAt.EqAt.str_list a t1 p.isList aa
  |tup h hs=>obtain⟨its,_,p,_⟩:=I.tuple h;cases q;unfold mQ;exact SeqAt.EqAt.str_tuple a t1 p aa
def xK{A:Around}{ac ad:List V}{aa ab:List DV}{z q:List Value}(r1:Vals ac z)(r2:Vals ad q)(h1:qX X.K H ac aa)(h2:qX X.K H ad ab)
  (ih:∀(d1 d2:DV)(v1 v2:V)(u1 u2:Value),Kc d1<=BL aa->Ln X.K H v1 d1->Ln X.K H v2 d2->RelV v1 u1->RelV v2 u2->SeqAt.EqAt A s u1 u2 (mQ d1 d2)):
  ∀(j:Nat)(a:j<z.toArray.size)(b:j<q.toArray.size),SeqAt.EqAt A s z.toArray[j] q.toArray[j] (mQ (aa.getD j .non) (ab.getD j .non)):=by
 intro j a b;have l1:=r1.length;have l2:=r2.length;have m1:=h1.length;have m2:=h2.length;simp only[zl]at a b;have a1:j<ac.length:=by omega
 have a2:j<ad.length:=by omega
 have b1:j<aa.length:=by omega
 have b2:j<ab.length:=by omega
 obtain⟨w1,e1,q1⟩:=r1.get (i:=j) (x:=ac[j]) (by simp[a1]);obtain⟨w2,e2,q2⟩:=r2.get (i:=j) (x:=ad[j]) (by simp[a2]);have z1:z.toArray[j]=w1:=by simpa [a] using e1
 have z2:q.toArray[j]=w2:=by simpa [b] using e2
 have y1:aa.getD j .non=aa[j]:=by simp[List.getD,b1]
 have y2:ab.getD j .non=ab[j]:=by simp[List.getD,b2]
 rw[z1,z2,y1,y2];exact ih _ _ _ _ _ _ (OD (j:=j) (by simp[b1])) (h1.get (j:=j) (by simp[a1]) (by simp[b1])) (h2.get (j:=j) (by simp[a2]) (by simp[b2])) q1 q2
def ain(I:Inv X pins σ H s):∀(n:Nat)(A:Around)(d1 d2:DV)(v1 v2:V)(u1 q:Value),Kc d1<=n->A.units+n<cLine->Ln X.K H v1 d1->Ln X.K H v2 d2->RelV v1 u1->RelV v2 q->SeqAt.EqAt A s u1 q (mQ d1 d2):=by
 intro n
 induction n with
 |zero=>exact λA d1 d2 v1 v2 u1 q hd hu h1 h2 r1 z=>ul I hd (by omega) h1 h2 r1 z
 |succ n ih=>
  intro A d1 d2 v1 v2 u1 q hd hu h1 h2 r1 z;have hu':A.units<cLine:=by omega
  have ad:A.in1.units+n<cLine:=by rw[in1_units];omega
  cases h1 with
  |non=>exact ul I (by unfold Kc;omega) hu' .non h2 r1 z
  |bl a=>exact ul I (by unfold Kc;omega) hu' (.bl a) h2 r1 z
  |int a=>exact ul I (by unfold Kc;omega) hu' (.int a) h2 r1 z
  |str a=>exact ul I (by unfold Kc;omega) hu' (.str a) h2 r1 z
  | @lst a vs ds h hs=>
   obtain⟨its,rv,p,_⟩:=I.list h;cases (show u1=Value.ref a from r1);have hd':BL ds<=n:=by unfold Kc at hd;omega
   cases h2 with
   |non=>cases (show q=Value.none from z);unfold mQ;exact SeqAt.EqAt.list_none p.isList hu'
   |bl b=>cases (show q=Value.bool b from z);unfold mQ;exact SeqAt.EqAt.list_bool b p.isList hu'
   |int i=>obtain⟨t,e⟩:=(show∃t,q=Value.int i t from z);subst e;unfold mQ;exact SeqAt.EqAt.list_int i t p.isList hu'
   |str x=>obtain⟨t,e⟩:=(show∃t,q=Value.str x t from z);subst e;unfold mQ;exact SeqAt.EqAt.list_str x t p.isList hu'
   | @lst a2 vs2 ds2 h' hs'=>
    obtain⟨aa,ab,p2,_⟩:=I.list h';cases (show q=Value.ref a2 from z);unfold mQ;by_cases ac:a=a2
    ·subst ac
     have e:=I.list_inj h h';subst e;rw[qX.inj I hs hs',tW];exact SeqAt.EqAt.same _
    ·have l1:=rv.length
     have l2:=ab.length;have m1:=hs.length;have m2:=hs'.length;by_cases hz:ds.length=ds2.length
     ·rw[wW _ _ hz]
      have:=SeqAt.EqAt.of_refs ac (SeqAt.RcAt.lists (A:=A) (e:=λj=>mQ (ds.getD j .non) (ds2.getD j .non)) p.isList p2.isList (by simp only[zl];omega) hu'
       (xK rv ab hs hs' λd1 d2 v1 v2 u1 q ae g1 g2 q1 q2=>ih A.in1 d1 d2 v1 v2 u1 q (by omega) ad g1 g2 q1 q2))
      rw[zl,show its.length=ds.length by omega]at this;exact this
     ·rw[wV _ _ hz]
      exact SeqAt.EqAt.of_refs ac (SeqAt.RcAt.lists_lengths p.isList p2.isList (by simp only[zl,bne_iff_ne];omega) hu')
   | @tup a2 vs2 ds2 h' hs'=>
    obtain⟨aa,ab,p2,_⟩:=I.tuple h';cases (show q=Value.ref a2 from z);unfold mQ;exact SeqAt.EqAt.list_tuple p.isList p2 hu'
  | @tup a vs ds h hs=>
   obtain⟨its,rv,p,_⟩:=I.tuple h;cases (show u1=Value.ref a from r1);have hd':BL ds<=n:=by unfold Kc at hd;omega
   cases h2 with
   |non=>cases (show q=Value.none from z);unfold mQ;exact SeqAt.EqAt.tuple_none p hu'
   |bl b=>cases (show q=Value.bool b from z);unfold mQ;exact SeqAt.EqAt.tuple_bool b p hu'
   |int i=>obtain⟨t,e⟩:=(show∃t,q=Value.int i t from z);subst e;unfold mQ;exact SeqAt.EqAt.tuple_int i t p hu'
   |str x=>obtain⟨t,e⟩:=(show∃t,q=Value.str x t from z);subst e;unfold mQ;exact SeqAt.EqAt.tuple_str x t p hu'
   | @lst a2 vs2 ds2 h' hs'=>
    obtain⟨aa,ab,p2,_⟩:=I.list h';cases (show q=Value.ref a2 from z);unfold mQ;exact SeqAt.EqAt.tuple_list p p2.isList hu'
   | @tup a2 vs2 ds2 h' hs'=>
    obtain⟨aa,ab,p2,_⟩:=I.tuple h';cases (show q=Value.ref a2 from z);unfold mQ;by_cases ac:a=a2
    ·subst ac
     have e:=I.tuple_inj h h';subst e;rw[qX.inj I hs hs',tW];exact SeqAt.EqAt.same _
    ·have l1:=rv.length
     have l2:=ab.length;have m1:=hs.length;have m2:=hs'.length
     have:=SeqAt.EqAt.of_refs ac (SeqAt.RcAt.tuples (A:=A) (e:=λj=>mQ (ds.getD j .non) (ds2.getD j .non)) p p2 hu'
       (xK rv ab hs hs' λd1 d2 v1 v2 u1 q ae g1 g2 q1 q2=>ih A.in1 d1 d2 v1 v2 u1 q (by omega) ad g1 g2 q1 q2))
     simp only[zl]at this;by_cases hz:ds.length=ds2.length
     ·rw[wW _ _ hz]
      rw[show its.length=ds.length by omega,show aa.length=ds.length by omega,Nat.min_self,beq_self_eq_true,Bool.and_true]at this;exact this
     ·rw[wV _ _ hz]
      rw[show(its.length==aa.length)=false from beq_eq_false_iff_ne.mpr (by omega),zzI]at this;exact this
noncomputable def alh(K:Fg_):R2:=λx y H Q=>∃d1 d2,Ln K H x d1/\Ln K H y d2/\1<=Kc d1/\Kc d1<=20/\Q (.bl (!mQ d1 d2)) H
def akt{k:Nat}(hr:qW k X.A):OpR X (compareOp .NotEq) (alh X.K):=by
 intro pins s σ H x y v u Q I rx ry h;obtain⟨d1,d2,h1,h2,ad,hd,q⟩:=h;have hr':=hr.units;have hu':X.A.units<cLine:=by omega
 have ae:X.A.in1.units+20<cLine:=by rw[in1_units];omega
 have aa:∀b,SeqAt.RcNeAt X.A s v u b->b=(!mQ d1 d2)->wpAny (model X.prog X.w) X.A (compareOp .NotEq v u) (EP X pins σ Q) X.xe s:=λb hb e=>by
  subst e;exact hb X.prog X.w X.xe _ ⟨.bl _,H,I,rfl,q⟩
 cases h1 with
 |non=>unfold Kc at ad;omega
 |bl a=>unfold Kc at ad;omega
 |int a=>unfold Kc at ad;omega
 |str a=>unfold Kc at ad;omega
 | @lst a vs ds h hs=>
  obtain⟨its,rv,p,_⟩:=I.list h;cases (show v=Value.ref a from rx);have hd':BL ds<=20:=by unfold Kc at hd;omega
  cases h2 with
  |non=>cases (show u=Value.none from ry);exact aa _ (SeqAt.RcNeAt.list_none p.isList hu') (by unfold mQ;rfl)
  |bl b=>cases (show u=Value.bool b from ry);exact aa _ (SeqAt.RcNeAt.list_bool b p.isList hu') (by unfold mQ;rfl)
  |int i=>obtain⟨t,e⟩:=(show∃t,u=Value.int i t from ry);subst e;exact aa _ (SeqAt.RcNeAt.list_int i t p.isList hu') (by unfold mQ;rfl)
  |str z=>obtain⟨t,e⟩:=(show∃t,u=Value.str z t from ry);subst e;exact aa _ (SeqAt.RcNeAt.list_str z t p.isList hu') (by unfold mQ;rfl)
  | @tup a2 vs2 ds2 h' hs'=>
   obtain⟨ab,ac,p2,_⟩:=I.tuple h';cases (show u=Value.ref a2 from ry);exact aa _ (SeqAt.RcNeAt.list_tuple p.isList p2 hu') (by unfold mQ;rfl)
  | @lst a2 vs2 ds2 h' hs'=>
   obtain⟨ab,ac,p2,_⟩:=I.list h';cases (show u=Value.ref a2 from ry);have l1:=rv.length;have l2:=ac.length;have m1:=hs.length;have m2:=hs'.length;by_cases hz:ds.length=ds2.length
   ·refine aa _ (SeqAt.RcNeAt.lists (A:=X.A) (e:=λj=>mQ (ds.getD j .non) (ds2.getD j .non)) p.isList p2.isList (by simp only[zl];omega) hu'
     (xK rv ac hs hs' λd1 d2 v1 v2 u1 u2 af g1 g2 q1 q2=>ain I 20 X.A.in1 d1 d2 v1 v2 u1 u2 (by omega) ae g1 g2 q1 q2)) ?_
    rw[aak,wW _ _ hz,zl,show its.length=ds.length by omega]
   ·refine aa _ (SeqAt.RcNeAt.lists_lengths p.isList p2.isList (by simp only[zl,bne_iff_ne];omega) hu') ?_
    unfold mQ;rw[wV _ _ hz]
    all_goals rfl
 | @tup a vs ds h hs=>
  obtain⟨its,rv,p,_⟩:=I.tuple h;cases (show v=Value.ref a from rx);have hd':BL ds<=20:=by unfold Kc at hd;omega
  cases h2 with
  |non=>cases (show u=Value.none from ry);exact aa _ (SeqAt.RcNeAt.tuple_none p hu') (by unfold mQ;rfl)
  |bl b=>cases (show u=Value.bool b from ry);exact aa _ (SeqAt.RcNeAt.tuple_bool b p hu') (by unfold mQ;rfl)
  |int i=>obtain⟨t,e⟩:=(show∃t,u=Value.int i t from ry);subst e;exact aa _ (SeqAt.RcNeAt.tuple_int i t p hu') (by unfold mQ;rfl)
  |str z=>obtain⟨t,e⟩:=(show∃t,u=Value.str z t from ry);subst e;exact aa _ (SeqAt.RcNeAt.tuple_str z t p hu') (by unfold mQ;rfl)
  | @lst a2 vs2 ds2 h' hs'=>
   obtain⟨ab,ac,p2,_⟩:=I.list h';cases (show u=Value.ref a2 from ry);exact aa _ (SeqAt.RcNeAt.tuple_list p p2.isList hu') (by unfold mQ;rfl)
  | @tup a2 vs2 ds2 h' hs'=>
   obtain⟨ab,ac,p2,_⟩:=I.tuple h';cases (show u=Value.ref a2 from ry);have l1:=rv.length;have l2:=ac.length;have m1:=hs.length;have m2:=hs'.length
   refine aa _ (SeqAt.RcNeAt.tuples (A:=X.A) (e:=λj=>mQ (ds.getD j .non) (ds2.getD j .non)) p p2 hu'
     (xK rv ac hs hs' λd1 d2 v1 v2 u1 u2 af g1 g2 q1 q2=>ain I 20 X.A.in1 d1 d2 v1 v2 u1 u2 (by omega) ae g1 g2 q1 q2)) ?_
   rw[ZC];simp only[zl];by_cases hz:ds.length=ds2.length
   ·rw[wW _ _ hz,show its.length=ds.length by omega,show ab.length=ds.length by omega,Nat.min_self,beq_self_eq_true,Bool.and_true]
   ·rw[wV _ _ hz,show(its.length==ab.length)=false from beq_eq_false_iff_ne.mpr (by omega),zzI]
theorem Ep(K:Fg_)(H:Hp):∀ns:List Int,qX K H (ns.map V.int) (ns.map DV.int)
 |[]=> .nil
 |n::r=> .cons (.int n) (Ep K H r)
theorem Lp:∀xs:List Int,BL (xs.map DV.int)=0
 |[]=>by simp[BL]
 |x::xs=>by simp[BL,Kc,Lp xs]
end
end L2
namespace L2
open PySem PySem.Spec PyProof.Rows
section
variable{X:Cx}{K:Fg_}{a b o e:Expr}{ta tb to te:TE}{pos:Pos}{tg:Expr}
def lA(q:X.K=K:=by rfl):IxR X (alk K):=q▸aiJ
def je(q:X.K=K:=by rfl):IxR X (aif K):=q▸akk
def Tr(q:X.K=K:=by rfl):SlR X (ali K):=q▸ajw
def ajj{k:Nat}(q:qW k X.A)(z:X.K=K:=by rfl):OpR X (compareOp .NotEq) (alh K):=z▸akt q
noncomputable def als(K:Fg_):List V->Hp->VK->Prop:=λxs H Q=>∃p ys,xs=[.ref p]/\(SqL K H p ys\/SqT K H p ys)/\Q (.int ys.length) H
def mG(q:X.K=K:=by rfl):nH X (.builtin "len") (als K):=q▸Pj
noncomputable def alC(K:Fg_):List V->Hp->VK->Prop:=λxs H Q=>∃(a:Addr)(ns:List Int),xs=[.ref a]/\SqL K H a (ns.map V.int)/\Q (.int ns.sum) H
def ql(z:X.calm=true)(q:X.K=K:=by rfl):nH X (.builtin "sum") (alC K):=q▸WP z
noncomputable def alz(K:Fg_):List V->Hp->VK->Prop:=λxs H Q=>∃(a:Addr)(bs:List Bool),xs=[.ref a]/\SqL K H a (bs.map V.bl)/\Q (.bl (bs.any id)) H
def Ot(z:X.calm=true)(q:X.K=K:=by rfl):nH X (.builtin "any") (alz K):=q▸Zb z
noncomputable def alj(K:Fg_):List V->Hp->VK->Prop:=λxs H Q=>∃(a:Addr)(bs:List Bool),xs=[.ref a]/\SqL K H a (bs.map V.bl)/\Q (.bl (bs.all id)) H
def Xj(z:X.calm=true)(q:X.K=K:=by rfl):nH X (.builtin "all") (alj K):=q▸YX z
noncomputable def JB(K:Fg_):List V->Hp->VK->Prop:=λxs H Q=>∃p ys,xs=[.ref p]/\(SqL K H p ys\/SqT K H p ys)/\∀l,H l=none->Q (.ref l) (upd H l (.lst ys))
def xR(q:X.K=K:=by rfl):nH X (.type "list") (JB K):=q▸Nz
noncomputable def ama(K:Fg_):List V->Hp->VK->Prop:=λxs H Q=>∃x n t k,xs=[x,.ty n]/\Kd K H x t/\PySem.W.kitOne K t (.type n)=some k/\Q (.bl k) H
def tU(q:X.K=K:=by rfl):nH X (.builtin "isinstance") (ama K):=q▸Oh
noncomputable def ajx(K:Fg_):List V->Hp->VK->Prop:=λxs H Q=>∃x C t k,xs=[x,.ref C]/\Kd K H x t/\PySem.W.kitOne K t (.ref C)=some k/\Q (.bl k) H
def uf(q:X.K=K:=by rfl):nH X (.builtin "isinstance") (ajx K):=q▸Pq
noncomputable def alY:List V->Hp->VK->Prop:=λxs H Q=>∃i j,xs=[.int i,.int j]/\Q (.int (if j>i then j else i)) H
def Px(q:X.calm=true):nH X (.builtin "max") alY:=Yw q
noncomputable def alL:List V->Hp->VK->Prop:=λxs H Q=>∃i j,xs=[.int i,.int j]/\Q (.int (if j<i then j else i)) H
def JV(q:X.calm=true):nH X (.builtin "min") alL:=Yp q
def lJ(z:PE X o to)(q:X.K=K:=by rfl):PI X tg o (WY K to):=q▸ajg z
def mZ{es:List Expr}{k:Nat}{t:TGs}{n:Nat}(q:X.calm=true)(h:PGs X es t)(hn:(assignEach es X.env).length=n:=by rfl)(hst:(assignEach es X.env).findIdx? (·.1)=none:=by rfl)(hK:X.K=K:=by rfl):PG X (.Tuple es k pos) (alG K n t):=hK▸akC q h hn hst
def ajn{f:Str}(z:PE X e ta)(hb:attributeBase e f X.env (eval e X.env)=eval e X.env)(q:X.K=K:=by rfl):PE X (.Attribute e f pos) (akf K ta f):=q▸aki z hb
def tZ{T:String}{name:Str}{id:String}{r:V->List V->Hp->VK->Prop}{es:List Expr}{t:TA}{apos cpos:Pos}(pa:PlainAttrs T)(slot:Slot T name id)(z:typeOf (.builtin id)=pure (.type "method_descriptor")) (hm:MtR X id r) (ho:PE X o to) (ha:PA X (e::es) t)
  (q:attributeBase o name X.env (eval o X.env)=eval o X.env:=by rfl)
  (hfew:((backTo cpos (starEach (e::es) X.env)).all (λx=>!x.1) && (backToKw cpos (keywordEach [] X.env)).all (λx=>x.1.isSome)
   && decide ((e::es).length+([]:List Keyword).length+(if([]:List Keyword).isEmpty then 0 else 1)<30))=true:=by rfl)
  (hline:(apos.endLine==cpos.line)=true:=by rfl) (hs:starEach (e::es) X.env=(false,eval e X.env)::starEach es X.env:=by rfl) (hplain:(backTo cpos (starEach es X.env)).any (·.1)=false:=by rfl) (hK:X.K=K:=by rfl):
  PE X (.Call (.Attribute o name apos) (e::es) [] cpos) (tBM K T r to t):=hK▸alv pa slot z hm ho ha q hfew hline hs hplain
def JW{T:String}{name:Str}{id:String}{r:V->List V->Hp->VK->Prop}{apos cpos:Pos}(pa:PlainAttrs T)(slot:Slot T name id)(z:typeOf (.builtin id)=pure (.type "method_descriptor")) (hm:MtR X id r) (ho:PE X o to)
  (q:attributeBase o name X.env (eval o X.env)=eval o X.env:=by rfl) (hline:(apos.endLine==cpos.line)=true:=by rfl) (hK:X.K=K:=by rfl):PE X (.Call (.Attribute o name apos) [] [] cpos) (alB K T r to):=hK▸ajJ pa slot z hm ho q hline
end
section
variable{K:Fg_}{H:Hp}{Q:VK}{p:Addr}{x y:V}
def ap_noIf{σ:St}{QB:Bool->Hp->Prop}:Mp σ H QB=QB true H:=rfl
def ap_rLen:als K [.ref p] H Q=∃ys,(SqL K H p ys\/SqT K H p ys)/\Q (.int (ys.length:Int)) H:=by simp[als]
def ap_rSum:alC K [.ref p] H Q=∃ns:List Int,SqL K H p (ns.map V.int)/\Q (.int ns.sum) H:=by simp[alC]
def ap_rAny:alz K [.ref p] H Q=∃bs:List Bool,SqL K H p (bs.map V.bl)/\Q (.bl (bs.any id)) H:=by simp[alz]
def ap_rAll:alj K [.ref p] H Q=∃bs:List Bool,SqL K H p (bs.map V.bl)/\Q (.bl (bs.all id)) H:=by simp[alj]
def ap_rListOf:JB K [.ref p] H Q=∃ys,(SqL K H p ys\/SqT K H p ys)/\∀l,H l=none->Q (.ref l) (upd H l (.lst ys)):=by simp[JB]
def ap_rIsT{n:String}:ama K [x,.ty n] H Q=∃t k,Kd K H x t/\PySem.W.kitOne K t (.type n)=some k/\Q (.bl k) H:=propext ⟨fun⟨q,z,t,k,e,h⟩=>by
  injection e with e1 e2
  injection e2 with e2 _
  injection e2 with e2
  subst e1 e2;exact⟨t,k,h⟩,fun⟨t,k,h⟩=>⟨x,n,t,k,rfl,h⟩⟩
def ap_append:Jc (.ref p) [y] H Q=∃xs,H p=some (.lst xs)/\xs.length<sizeLine/\Q .non (upd H p (.lst (xs++[y]))):=by simp[Jc]
def ap_rCat{l b:Addr}:alp (.ref l) (.ref b) H Q=∃xs zs,H l=some (.lst xs)/\H b=some (.lst zs)/\xs.length+zs.length<=sizeLine/\∀p,H p=none->Q (.ref p) (upd H p (.lst (xs++zs))):=by simp[alp]
def ap_rMax{i j:Int}:alY [.int i,.int j] H Q=Q (.int (if j>i then j else i)) H:=propext ⟨fun⟨q,z,e,h⟩=>by cases e;exact h,λh=>⟨i,j,rfl,h⟩⟩
def ap_rMin{i j:Int}:alL [.int i,.int j] H Q=Q (.int (if j<i then j else i)) H:=propext ⟨fun⟨q,z,e,h⟩=>by cases e;exact h,λh=>⟨i,j,rfl,h⟩⟩
end
end L2
namespace L2
open PySem PySem.Spec PyProof.Rows
section
variable{K:Fg_}{a:Addr}{xs:List V}{g:TG}{tb:TS}{D:Ends}{σ:St}{H:Hp}{wi:TI}{cap:List (Option Nat)}{tt:TT}{te tl:TE}{Q:VK}{ta:TA}{R:It->Hp->Prop}
noncomputable def Bw(J:It)(g:TG)(tb:TS)(D:Ends)(σ:St)(H1:Hp):Prop:=∃W:Nat->Nat->St->Hp->Prop,(∃m,W 0 m σ H1)/\∀i m σ H,W i m σ H->
 (J.stop i H/\D.nx σ H)\/(J.go i H/\∃N:St->Hp->Prop,(∀σ' H',N σ' H'->∃m',m'<m/\W (i+1) m' σ' H')/\∀x H',J.yld i H x H'->g x σ H' λσ2 H2=>tb {D with nx:=N,ct:=N,bk:=D.nx} σ2 H2)
def ap_for:akZ wi g tb D σ H=wi σ H λJ H1=>Bw J g tb D σ H1:=rfl
def Cr(q:Nat->St->Hp->Prop)(h0:q 0 σ H)(z:∀i σ H,i<=xs.length->q i σ H->SqL K H a xs)
  (hs:∀i x σ H,xs[i]? =some x->q i σ H->g x σ H λσ2 H2=>tb {D with nx:=q (i+1),ct:=q (i+1),bk:=D.nx} σ2 H2) (hd:∀σ H,q xs.length σ H->D.nx σ H):Bw (Itl K a) g tb D σ H:=ZM q h0 z hs hd
def Bw.range{lo:Int}{n:Nat}(q:Nat->St->Hp->Prop)(z:q 0 σ H)
  (hs:∀i σ H,i<n->q i σ H->g (.int (lo+i)) σ H λσ2 H2=>tb {D with nx:=q (i+1),ct:=q (i+1),bk:=D.nx} σ2 H2) (hd:∀σ H,q n σ H->D.nx σ H):Bw (Itr lo n) g tb D σ H:=YG q z hs hd
def ap_iList:WY K tl σ H R=tl σ H λx H1=>∃a,x=.ref a/\(∃xs,SqL K H1 a xs)/\R (Itl K a) H1:=rfl
def ap_iRng1:ajR ta σ H R=ta σ H λvs H1=>∃j:Int,vs=[.int j]/\ -(2^62)<=j/\j<2^62/\R (Itr 0 j.toNat) H1:=rfl
noncomputable def lq(cap:List (Option Nat))(J:It)(g:TG)(tt:TT)(te:TE)(σ:St)(H1:Hp)(Q:VK):Prop:=∀D,H1 D=Option.none->
 ∃W:Nat->Nat->List V->St->Hp->Prop,(∃m,W 0 m [] (qi σ cap) (upd H1 D (.lst [])))/\∀i m acc σ1 H2,W i m acc σ1 H2->H2 D=some (.lst acc)->
  (J.stop i H2/\Q (.ref D) H2)\/(J.go i H2/\∀x H3,J.yld i H2 x H3->g x σ1 H3 λσ4 H4=>tt σ4 H4 λb H5=>
   if b=true then te σ4 H5 λv H6=>∃acc',H6 D=some (.lst acc')/\acc'.length<sizeLine/\∃m',m'<m/\W (i+1) m' (acc'++[v]) σ4 (upd H6 D (.lst (acc'++[v])))
   else∃m',m'<m/\∃acc',H5 D=some (.lst acc')/\W (i+1) m' acc' σ4 H5)
def ap_comp:aiE cap wi g tt te σ H Q=wi σ H λJ H1=>lq cap J g tt te σ H1 Q:=rfl
def lq.list(Sσ:St->Prop)(p:V->Bool)(F:V->V)(hS:SqL K H a xs)(h0:Sσ (qi σ cap))(hz:xs.length<=sizeLine)
  (hs:∀x∈xs,∀(σ:St)(z:Hp)(R1:St->VK)(R2:St->Hp->Prop),Sσ σ->Same H z->(p x=true->∀q H6,Sσ q->Same z H6->R1 q (F x) H6)->(p x=false->∀q H6,Sσ q->Same z H6->R2 q H6)->
   g x σ z λq H4=>tt q H4 λb z=>if b=true then te q z (R1 q)else R2 q z)
  (k:∀D H',H D=Option.none->Same H H'->H' D=some (.lst ((xs.filter p).map F))->Q (.ref D) H'):lq cap (Itl K a) g tt te σ H Q:=
 λD hD=>Wj Sσ p F hS hD h0 hz hs λH' s e=>k D H' hD s e
theorem lq.range{lo:Int}{n:Nat}(Sσ:St->Prop)(p:V->Bool)(F:V->V)(h0:Sσ (qi σ cap))(hz:n<=sizeLine)
  (hs:∀i:Nat,i<n->∀(σ:St)(z:Hp)(R1:St->VK)(R2:St->Hp->Prop),Sσ σ->Same H z->(p (.int (lo+i))=true->∀q H6,Sσ q->Same z H6->R1 q (F (.int (lo+i))) H6)->(p (.int (lo+i))=false->∀q H6,Sσ q->Same z H6->R2 q H6)->
   g (.int (lo+i)) σ z λq H4=>tt q H4 λb z=>if b=true then te q z (R1 q)else R2 q z)
  (k:∀D H',H D=Option.none->Same H H'->H' D=some (.lst ((((List.range n).map fun(i:Nat)=>V.int (lo+i)).filter p).map F))->Q (.ref D) H'):lq cap (Itr lo n) g tt te σ H Q:=
 λD hD=>Vm Sσ p F hD h0 hz hs λH' s e=>k D H' hD s e
end
end L2
namespace L2
open PySem PySem.Spec PyProof.Rows
structure LeE(D D':Ends):Prop where
 nx:∀σ H,D.nx σ H->D'.nx σ H
 rt:∀v H,D.rt v H->D'.rt v H
 bk:∀σ H,D.bk σ H->D'.bk σ H
 ct:∀σ H,D.ct σ H->D'.ct σ H
end L2
namespace L2
open PySem PySem.Spec PyProof.Rows
section
variable{X:Cx}{pins:List (Addr×Obj)}{σ:St}{H:Hp}{s:Shared}{h':Heap}
def Inv.turnedN{t':Nat}{fp:List Addr}(I:Inv X pins σ H s)(hf:∀b∈fp,RP X pins H b)(k:∀b o,b∉fp->s.heap.get? b=some o->h'.get? b=some o):Inv X pins σ H {s with heap:=h',toks:=t'}:=by
 have aa:∀b u,H b=some u->b∉fp:=λb u e z=>by rw[(hf b z).1]at e;cases e
 refine I.step (g':=s.gens) (d':=s.drawn) (ch:=fp) (λb hb=>⟨(hf b hb).2.2.2.1,(hf b hb).2.1,(hf b hb).2.2.2.2.1,(hf b hb).2.2.2.2.2⟩) (λb o _ _ hc e _=>k b o hc e) (λb o _ _ hc e _=>⟨o.slots,k b o hc e⟩) (λ_ _ _ _ n=>n)
  (λb o hc e=>⟨o,k b o hc e⟩) (λ_ _ e=>e) (λ_ _ _ e=>e) (λb ps e=>⟨#[],by rw[e];simp⟩) (λm hm=>?_) (λb u e=>?_) I.bare
 ·obtain⟨o,es,ep,ho,r⟩:=hm
  exact⟨o,es,ep,k _ o (λz=>(hf _ z).2.1 rfl) ho,r⟩
 ·refine(I.hok b u e).stay (λc v hc q=>k c v ?_ q) (λ_ q=>q) λ_ _ q=>q
  rcases hc with z|z
  ·rw[z];exact aa b u e
  ·exact aa c _ z
def Inv.turnedT{t':Nat}{fp:List Addr}{T:Addr}{o:HO}(I:Inv X pins σ H s)(hf:∀b∈fp,RP X pins H b)(hT:s.heap.objs.size<=T)(k:∀b o,b∉fp->s.heap.get? b=some o->h'.get? b=some o)
  (ab:lW X.prog X.w (upd H T o) h' T o):Inv X pins σ (upd H T o) {s with heap:=h',toks:=t'}:=by
 have aa:∀b u,H b=some u->b∉fp:=λb u e z=>by rw[(hf b z).1]at e;cases e
 have hn:H T=none:=I.hok.fresh hT
 refine I.step (g':=s.gens) (d':=s.drawn) (ch:=fp) (λb hb=>⟨(hf b hb).2.2.2.1,(hf b hb).2.1,(hf b hb).2.2.2.2.1,(hf b hb).2.2.2.2.2⟩) (λb o _ _ hc e _=>k b o hc e) (λb o _ _ hc e _=>⟨o.slots,k b o hc e⟩)
  (λb o _ e n=>by rw[iQ (zE (zH (zr e) hT))];exact n)
  (λb o hc e=>⟨o,k b o hc e⟩) (λb xs e=>by rw[iQ (jE e hn)];exact e) (λb o xs e=>by rw[iQ (jE e hn)];exact e) (λb ps e=>⟨#[],by rw[iQ (jE e hn),e];simp⟩) (λm hm=>?_) (λb u e=>?_) I.bare
 ·obtain⟨o,es,ep,ho,r⟩:=hm
  exact⟨o,es,ep,k _ o (λz=>(hf _ z).2.1 rfl) ho,r⟩
 ·by_cases hb:b=T
  ·subst hb;rw[iC]at e;cases e;exact ab
  ·rw[iQ hb]at e
   refine(I.hok b u e).stay (λc v hc q=>k c v ?_ q) (λc q=>by rw[iQ (jE q hn)];exact q) λc xs q=>by rw[iQ (jE q hn)];exact q
   rcases hc with z|z
   ·rw[z];exact aa b u e
   ·exact aa c _ z
end
def pW{h:Heap}{a b:Addr}{oa ob:Obj}{z cb:Value}(ha:h.get? a=some oa)(q:h.get? b=some ob)(ea:oa.cls=z)(eb:ob.cls=cb)(hc:z≠cb):a≠b:=by
 intro e;subst e;rw[ha]at q;cases q;exact hc (ea.symm.trans eb)
noncomputable def Itz(K:Fg_)(a b:Addr):It:=
 ⟨λi H=>∃xs ys x y,SqL K H a xs/\SqL K H b ys/\xs[i]? =some x/\ys[i]? =some y,
   λi H v H'=>∃p x y,H p=none/\v=.ref p/\H'=upd H p (.tup [x,y])/\(∀xs,SqL K H a xs->xs[i]? =some x)/\∀ys,SqL K H b ys->ys[i]? =some y,
   λi H=>∃xs ys,SqL K H a xs/\SqL K H b ys/\(xs.length<=i\/ys.length<=i)⟩
def Jg{h:Heap}{z TI TO i1 i2 a b:Addr}{f0 u v:Value}{xs ys:Array Value}{j1 j2:Nat}(ab:TI≠TO)(ac:i1≠i2)(hz:IsZip h z TI TO f0)(aa:IsPair h TI (.ref i1) (.ref i2))(q:IsPair h TO u v)
  (h1:h.IsListIter i1 a j1) (h2:h.IsListIter i2 b j2) (p1:h.IsList a xs) (p2:h.IsList b ys):ZipApart z TI TO i1 i2 a b:=by
 obtain⟨o1,e1,c1,_⟩:=h1;obtain⟨o2,e2,c2,_⟩:=h2;obtain⟨l1,f1,d1,_⟩:=p1;obtain⟨l2,f2,d2,_⟩:=p2
 exact ⟨pW aa hz rfl rfl (by simp),pW q hz rfl rfl (by simp),pW e1 hz c1 rfl (by simp),pW e2 hz c2 rfl (by simp),ab,pW aa e1 rfl c1 (by simp),pW aa e2 rfl c2 (by simp),pW q e1 rfl c1 (by simp),pW q e2 rfl c2 (by simp),ac,
  pW f1 hz d1 rfl (by simp),pW f1 q d1 rfl (by simp),pW f1 e1 d1 c1 (by simp),pW f1 e2 d1 c2 (by simp),pW f2 hz d2 rfl (by simp),pW f2 q d2 rfl (by simp),pW f2 e1 d2 c1 (by simp),pW f2 e2 d2 c2 (by simp)⟩
def ZV{P:Program}{w:World}{K:Fg_}{elts:List Expr}{x1:Nat}{pos:Pos}(a b z TI TO i1 i2:Addr)(ag:TI≠TO)(ak:i1≠i2):
  Turn P w K (.Tuple elts x1 pos) (Itz K a b) [z,TI,TO,i1,i2] z (λi h=>IsZip h z TI TO .none/\IsPair h TI (.ref i1) (.ref i2)/\(∃u v,IsPair h TO u v)/\h.IsListIter i1 a i/\h.IsListIter i2 b i) where
 mem:=by simp
 obj:=λi h st c hb=>by
  obtain⟨hz,aa,⟨u,v,ab⟩,⟨o1,e1,c1,d1⟩,⟨o2,e2,c2,d2⟩⟩:=st;simp only[zv,zo,or_false]at hb;rcases hb with rfl|rfl|rfl|rfl|rfl
  ·exact⟨_,hz,λv z=>by cases z⟩
  ·exact⟨_,aa,λv z=>by cases z⟩
  ·exact⟨_,ab,λv z=>by cases z⟩
  ·exact⟨_,e1,λv z=>by rw[d1]at z;cases z⟩
  ·exact⟨_,e2,λv z=>by rw[d2]at z;cases z⟩
 keep:=λi h h' st k=>by
  obtain⟨hz,aa,⟨u,v,ab⟩,h1,h2⟩:=st;exact⟨k _ (by simp) _ hz,k _ (by simp) _ aa,⟨u,v,k _ (by simp) _ ab⟩,h1.at λo e=>k _ (by simp) o e,h2.at λo e=>k _ (by simp) o e⟩
 item:=by
  intro X hP hw hK hc i pins s σ H E I hf st hg;subst hP hw hK;obtain⟨xs,ys,x,y,ac,ad,hx,hy⟩:=hg;obtain⟨aj,af,p1,_⟩:=I.list ac;obtain⟨ah,ae,p2,_⟩:=I.list ad;obtain⟨u1,am,an⟩:=af.get hx;obtain⟨u2,ao,ap⟩:=ae.get hy;obtain⟨hz,aa,⟨ua,ub,ab⟩,h1,h2⟩:=st;have D:=Jg ag ak hz aa ab h1 h2 p1.isList p2.isList;refine wpAny_pyNext_zip_item D hz aa ab h1 h2 p1.isList p2.isList (x:=u1) (y:=u2) (by simpa using am) (by simpa using ao) λh' a1 a2 a3 a4 a5 a6 a7=>?_;refine⟨_,rfl,wpAny_letOwnedTupleGo_zip (s:={s with heap:=h'}) a1 λai b1 b2=>?_⟩;have nz:s.heap.objs.size≠z:=yC (zr hz)
  have k:∀c o,c∉[z,TI,TO,i1,i2]->s.heap.get? c=some o->ai.get? c=some o:=λc o hc e=>by
   simp only[zv,zo,or_false,not_or]at hc;exact(b2.2 c hc.1).trans (a7 c o hc.1 hc.2.2.1 hc.2.2.2.1 hc.2.2.2.2 e)
  have al:ai.get? s.heap.objs.size=some {cls:=.type "tuple",data:=.seq #[u1,u2]}:=(b2.2 _ nz).trans a5
  refine ⟨.ref s.heap.objs.size,upd H s.heap.objs.size (.tup [x,y]),I.turnedT (t':=s.toks) hf (zm _) k ⟨by rw[zq];simp,[u1,u2],.cons an (.cons ap .nil),_,al,rfl,_,rfl⟩,rfl,
   ⟨_,x,y,I.hok.fresh (zm _),rfl,rfl,λaq q=>by rw[I.list_inj q ac];exact hx,λar q=>by rw[I.list_inj q ad];exact hy⟩,?_,λc hb=>?_⟩
  ·exact⟨b1,(b2.2 _ D.TIz).trans (a7 _ _ D.TIz D.TITO D.TIi1 D.TIi2 aa),⟨_,_,(b2.2 _ D.TOz).trans a2⟩,a3.at λo e=>(b2.2 _ D.i1z).trans e,a4.at λo e=>(b2.2 _ D.i2z).trans e⟩
  ·obtain ⟨o,e⟩:∃o,s.heap.get? c=some o:=by
    simp only[zv,zo,or_false]at hb;rcases hb with rfl|rfl|rfl|rfl|rfl
    ·exact⟨_,hz⟩
    ·exact⟨_,aa⟩
    ·exact⟨_,ab⟩
    ·obtain⟨o,e,_⟩:=h1;exact⟨o,e⟩
    ·obtain⟨o,e,_⟩:=h2;exact⟨o,e⟩
   rw[iQ (zE (zr e))];exact(hf c hb).1
 done:=by
  intro X hP hw hK hc i pins s σ H E I hf st hg;subst hP hw hK;obtain⟨xs,ys,ac,ad,hx⟩:=hg;obtain⟨aj,af,p1,_⟩:=I.list ac;obtain⟨ah,ae,p2,_⟩:=I.list ad;obtain⟨hz,aa,⟨ua,ub,ab⟩,h1,h2⟩:=st;have D:=Jg ag ak hz aa ab h1 h2 p1.isList p2.isList;have l1:=af.length;have l2:=ae.length;refine wpAny_pyNext_zip_end (I.ok.hd hc) D hz aa ab h1 h2 p1.isList p2.isList (hx.elim (λh=> .inl (by simp;omega)) λh=> .inr (by simp;omega)) λh' k=>⟨rfl,I.turnedN (t':=s.toks) hf λc o hc e=>?_⟩;simp only[zv,zo,or_false,not_or]at hc;exact k c o hc.1 hc.2.2.1 hc.2.2.2.1 hc.2.2.2.2 e
 self:=λ_ _ _ _ _ st h=>wpAny_pyIter_zip st.1 h
noncomputable def Ite(K:Fg_)(a:Addr):It:=
 ⟨λi H=>∃xs x,SqL K H a xs/\xs[i]? =some x,
   λi H v H'=>∃p x,H p=none/\v=.ref p/\H'=upd H p (.tup [.int i,x])/\∀xs,SqL K H a xs->xs[i]? =some x,
   λi H=>∃xs,SqL K H a xs/\xs.length<=i⟩
def Xi{P:Program}{w:World}{K:Fg_}{elts:List Expr}{x1:Nat}{pos:Pos}(a e it:Addr)(ad:e≠it):
  Turn P w K (.Tuple elts x1 pos) (Ite K a) [e,it] e (λi h=>(∃aa,IsEnum h e it i aa)/\h.IsListIter it a i) where
 mem:=by simp
 obj:=λi h st c hb=>by
  obtain⟨⟨aa,he⟩,⟨o1,e1,c1,d1⟩⟩:=st;simp only[zv,zo,or_false]at hb;rcases hb with rfl|rfl
  ·exact⟨_,he,λv z=>by cases z⟩
  ·exact⟨_,e1,λv z=>by rw[d1]at z;cases z⟩
 keep:=λi h h' st k=>by
  obtain⟨⟨aa,he⟩,h1⟩:=st;exact⟨⟨aa,k _ (by simp) _ he⟩,h1.at λo e=>k _ (by simp) o e⟩
 item:=by
  intro X hP hw hK hc i pins s σ H E I hf st hg;subst hP hw hK;obtain⟨xs,x,ab,hx⟩:=hg;obtain⟨af,ac,p1,_⟩:=I.list ab;obtain⟨u1,ah,ai⟩:=ac.get hx;obtain⟨⟨aa,he⟩,h1⟩:=st;refine wpAny_pyNext_enum_item he h1 p1.isList (x:=u1) (by simpa using ah) ad λh' a1 a2 a3 a4 a5=>?_;refine⟨_,rfl,wpAny_letOwnedTupleGo_enum (s:={s with heap:=h',toks:=s.toks+1}) a1 λae b1 b2=>?_⟩;have ne:s.heap.objs.size≠e:=yC (zr he)
  have k:∀c o,c∉[e,it]->s.heap.get? c=some o->ae.get? c=some o:=λc o hc q=>by
   simp only[zv,zo,or_false,not_or]at hc;exact(b2.2 c hc.1).trans (a5 c o hc.1 hc.2 q)
  have ag:ae.get? s.heap.objs.size=some {cls:=.type "tuple",data:=.seq #[.int i s.toks,u1]}:=(b2.2 _ ne).trans a3
  refine ⟨.ref s.heap.objs.size,upd H s.heap.objs.size (.tup [.int i,x]),I.turnedT (t':=s.toks+1) hf (zm _) k ⟨by rw[zq];simp,[.int i s.toks,u1],.cons ⟨_,rfl⟩ (.cons ai .nil),_,ag,rfl,_,rfl⟩,rfl,
   ⟨_,x,I.hok.fresh (zm _),rfl,rfl,λaj q=>by rw[I.list_inj q ab];exact hx⟩,⟨⟨u1,by simpa using b1⟩,a2.at λo q=>(b2.2 _ (Ne.symm ad)).trans q⟩,λc hb=>?_⟩
  obtain ⟨o,q⟩:∃o,s.heap.get? c=some o:=by
   simp only[zv,zo,or_false]at hb;rcases hb with rfl|rfl
   ·exact⟨_,he⟩
   ·obtain⟨o,q,_⟩:=h1;exact⟨o,q⟩
  rw[iQ (zE (zr q))];exact(hf c hb).1
 done:=by
  intro X hP hw hK hc i pins s σ H E I hf st hg;subst hP hw hK;obtain⟨xs,ab,hx⟩:=hg;obtain⟨af,ac,p1,_⟩:=I.list ab;obtain⟨⟨aa,he⟩,h1⟩:=st;have l1:=ac.length;refine wpAny_pyNext_enum_end (I.ok.hd hc) he h1 p1.isList (by simp;omega) λh' k=>⟨rfl,I.turnedN (t':=s.toks) hf λc o hc q=>?_⟩;simp only[zv,zo,or_false,not_or]at hc;exact k c o hc.2 q
 self:=λ_ _ _ _ _ st h=>by
  obtain⟨⟨aa,he⟩,_⟩:=st;exact wpAny_pyIter_enum he h
section
variable{X:Cx}{K:Fg_}{ta:TA}{elts:List Expr}{x1:Nat}{tpos:Pos}
noncomputable def alU(K:Fg_)(ta:TA):TI:=λσ H R=>ta σ H λvs H1=>∃a b,vs=[.ref a,.ref b]/\(∃xs,SqL K H1 a xs)/\(∃ys,SqL K H1 b ys)/\R (Itz K a b) H1
noncomputable def aky(K:Fg_)(ta:TA):TI:=λσ H R=>ta σ H λvs H1=>∃a,vs=[.ref a]/\(∃xs,SqL K H1 a xs)/\R (Ite K a) H1
def Le{a b:Expr}{p pos:Pos}(hg:Gl X "zip") (hm:X.mg "zip" =none) (ha:PA X [a,b] ta) (hs:starEach [a,b] X.env=[(false,eval a X.env),(false,eval b X.env)]:=by rfl) (hs2:starEach [b] X.env=[(false,eval b X.env)]:=by rfl) (hK:X.K=K:=by rfl):
  PI X (.Tuple elts x1 tpos) (.Call (.Name "zip" p) [a,b] [] pos) (alU K ta):=by
 subst hK;intro pins s σ H R I h;refine Call_ (Bc I hg hm (by decide+kernel) (PyProof.Rows.callWith_type1 (T:= "zip") (thn (ha pos pins s σ H _ I h) λus z ⟨vs,H1,I1,r1,q1⟩=>?_) (by rw[hs,hs2]) (by rw[hs2];rfl)));obtain⟨l1,l2,e,⟨xs,hx⟩,⟨ys,hy⟩,q⟩:=q1;subst e;obtain⟨u,v,rfl,ru,rv⟩:=vals2 r1;cases ru;cases rv;obtain⟨ac,_,p1,_⟩:=I1.list hx;obtain⟨ab,_,p2,_⟩:=I1.list hy;refine call_zip_2 p1.isList p2.isList λh' g1 g2 g3 g4 g5 g6 k=>?_;have I2:Inv X pins σ H1 {z with heap:=h'}:=I1.kept (t':=z.toks) k;refine wpAny_pyIter_zip (s:={z with heap:=h'}) g1 ⟨_,[z.heap.objs.size+4,z.heap.objs.size+2,z.heap.objs.size+3,z.heap.objs.size,z.heap.objs.size+1],_,_,H1,rfl,I2,ZV l1 l2 _ _ _ _ _ (show((z.heap.objs.size:Nat)+2≠z.heap.objs.size+3) by omega) (show((z.heap.objs.size:Nat)≠z.heap.objs.size+1) by omega),⟨g1,g2,⟨_,_,g3⟩,g4,g5⟩,λc hc=>?_,q⟩
 have hc':z.heap.objs.size<=c:=by
  simp only[zv,zo,or_false]at hc
  have aa:∃k:Nat,c=z.heap.objs.size+k:=by
   rcases hc with rfl|rfl|rfl|rfl|rfl
   ·exact⟨4,rfl⟩
   ·exact⟨2,rfl⟩
   ·exact⟨3,rfl⟩
   ·exact⟨0,rfl⟩
   ·exact⟨1,rfl⟩
  obtain⟨k,rfl⟩:=aa;exact yy _ k
 exact I1.fpOk hc' (I1.hok.fresh hc')
def ajl{a:Expr}{p pos:Pos}(hg:Gl X "enumerate") (hm:X.mg "enumerate" =none) (ha:PA X [a] ta) (hs:starEach [a] X.env=[(false,eval a X.env)]:=by rfl) (hK:X.K=K:=by rfl):
  PI X (.Tuple elts x1 tpos) (.Call (.Name "enumerate" p) [a] [] pos) (aky K ta):=by
 subst hK;intro pins s σ H R I h;refine Call_ (Bc I hg hm (by decide+kernel) (PyProof.Rows.callWith_type1 (T:= "enumerate") (thn (ha pos pins s σ H _ I h) λus z ⟨vs,H1,I1,r1,q1⟩=>?_) (by rw[hs];rfl) rfl));obtain⟨l1,e,⟨xs,hx⟩,q⟩:=q1;subst e;obtain⟨u,rfl,ru⟩:=vals1 r1;cases ru;obtain⟨ab,_,p1,_⟩:=I1.list hx;refine call_enumerate_list p1.isList λh' g1 g2 g3 k=>?_;have I2:Inv X pins σ H1 {z with heap:=h'}:=I1.kept (t':=z.toks) k;refine wpAny_pyIter_enum (s:={z with heap:=h'}) g1 ⟨_,[z.heap.objs.size+1,z.heap.objs.size],_,_,H1,rfl,I2,Xi l1 _ _ (show((z.heap.objs.size:Nat)+1≠z.heap.objs.size) by omega),⟨⟨_,g1⟩,g2⟩,λc hc=>?_,q⟩
 have hc':z.heap.objs.size<=c:=by
  simp only[zv,zo,or_false]at hc
  have aa:∃k:Nat,c=z.heap.objs.size+k:=by
   rcases hc with rfl|rfl
   ·exact⟨1,rfl⟩
   ·exact⟨0,rfl⟩
  obtain⟨k,rfl⟩:=aa;exact yy _ k
 exact I1.fpOk hc' (I1.hok.fresh hc')
variable{σ:St}{H:Hp}{R:It->Hp->Prop}{g:TG}{tb:TS}{D:Ends}{a b:Addr}{xs ys:List V}
def ap_iZip:alU K ta σ H R=ta σ H λvs H1=>∃a b,vs=[.ref a,.ref b]/\(∃xs,SqL K H1 a xs)/\(∃ys,SqL K H1 b ys)/\R (Itz K a b) H1:=rfl
def ap_iEnum:aky K ta σ H R=ta σ H λvs H1=>∃a,vs=[.ref a]/\(∃xs,SqL K H1 a xs)/\R (Ite K a) H1:=rfl
def Bw.zip(q:Nat->St->Hp->Prop)(aa:xs.length=ys.length)(h0:q 0 σ H)(hl:∀i σ H,i<=xs.length->q i σ H->SqL K H a xs/\SqL K H b ys)
  (hs:∀i x y σ H p,xs[i]? =some x->ys[i]? =some y->q i σ H->H p=none->g (.ref p) σ (upd H p (.tup [x,y])) λσ2 H2=>tb {D with nx:=q (i+1),ct:=q (i+1),bk:=D.nx} σ2 H2) (hd:∀σ H,q xs.length σ H->D.nx σ H):Bw (Itz K a b) g tb D σ H:=by
 refine⟨λi m σ H=>m=xs.length - i/\i<=xs.length/\q i σ H,⟨xs.length,by simp,zJ _,h0⟩,?_⟩;rintro i m σ H ⟨rfl,hi,p⟩;obtain⟨q1,q2⟩:=hl i σ H hi p;by_cases z:i<xs.length
 ·refine .inr ⟨⟨xs,ys,xs[i],ys[i],q1,q2,by simp[z],by simp[aa▸z]⟩,q (i+1),λσ' H' p'=>⟨xs.length - (i+1),by omega,rfl,z,p'⟩,λv H' y=>?_⟩
  obtain⟨pp,x,y,hp,rfl,rfl,e1,e2⟩:=y;exact hs i x y σ _ pp (e1 xs q1) (e2 ys q2) p hp
 ·have e:i=xs.length:=by omega
  subst e;exact .inl ⟨⟨xs,ys,q1,q2,.inl (zm _)⟩,hd σ H p⟩
end
end L2
namespace L2
open PySem PySem.Spec PyProof.Rows
noncomputable def DK(h h':Heap):Prop:=∀b o,h.get? b=some o->∃o',h'.get? b=some o'/\o'.dict=o.dict
theorem DK.trans{h h1 h2:Heap}(a:DK h h1)(b:DK h1 h2):DK h h2:=λc o e=>by
 obtain⟨z,q,d1⟩:=a c o e;obtain⟨o2,e2,d2⟩:=b c z q;exact⟨o2,e2,d2.trans d1⟩
structure KD{α:Type}(t:Sem α):Prop where
 out:∀(M:Model)(Γ:PySem.Ctx)(P:α->Pos->Shared->Prop)(E:Value->Pos->Shared->Prop)(p:Pos)(s:Shared),Sem.wp M Γ t P E p s->Sem.wp M Γ t (λa p' s'=>P a p' s'/\DK s.heap s'.heap) E p s
end L2
namespace L2
open PySem PySem.Spec PyProof.Rows
structure amk(K:Fg_)(C:Addr):Prop where
 ex:PySem.W.excIn K C [.type "ValueError",.type "Exception",.type "BaseException",.type "object"] "ValueError.__new__" =true
end L2
namespace L2
open PySem PySem.Spec PyProof.Rows
section
variable{prog:Program}{w:World}{A:Around}{E:Value->Shared->Prop}{h:Heap}{g:Array GenState}{d:Drawn}{t:Nat}{os:OsState}{a:Addr}{o:Obj}
 {nm q:Str} {C N:Addr} {bs bm:List Value} {hdct:Bool} {sn:List Str} {sub:List Value} {ab:Bool} {col:Option Bool} {dd:Option Addr} {k0 k1 k2 k3 k5:Option Value} {newId:String} {K:Fg_}
structure amm(K:Fg_)(C:Addr):Prop where
 cl:PySem.W.findIn K (.ref C) "__class__" =some (some (.builtin "object.__class__"))
 ga:PySem.W.findIn K (.ref C) "__getattribute__" =some (some (.builtin "BaseException.__getattribute__"))
 gh:PySem.W.findIn K (.ref C) "__getattr__" =some none
end
end L2
namespace L2
open PySem PySem.Spec PyProof.Rows
abbrev TX:=St->Hp->VK->XK->Prop
end L2
namespace L2
open PySem PySem.Spec PyProof.Rows
section
variable{κ:Type} [DecidableEq κ]
noncomputable def pF(kvs:List (κ×V))(k:κ):Option V:=(kvs.find? λkv=>decide (kv.1=k)).map (·.2)
noncomputable def putK(kvs:List (κ×V))(k:κ)(v:V):List (κ×V):=
 if(kvs.any λkv=>decide (kv.1=k))=true then kvs.map (λkv=>if kv.1=k then(kv.1,v)else kv)else kvs++[(k,v)]
noncomputable def Rx(kvs:List (κ×V))(k:κ):List (κ×V):=kvs.filter λkv=>decide (kv.1≠k)
def lH{p:κ×V}{r:List (κ×V)}{k:κ}(e:p.1=k):pF (p::r) k=some p.2:=by simp[pF,yS,e]
def lC{p:κ×V}{r:List (κ×V)}{k:κ}(e:¬p.1=k):pF (p::r) k=pF r k:=by simp[pF,yS,e]
theorem ph(k:κ):∀kvs:List (κ×V),(kvs.any λq=>decide (q.1=k))=(pF kvs k).isSome
 |[]=>rfl
 |p::r=>by
  rw[List.any_cons];by_cases e:p.1=k
  ·simp only[lH e,zD e,Bool.true_or,Option.isSome_some]
  ·rw[lC e,zF e,Bool.false_or];exact ph k r
theorem Ul(k j:κ)(y:V):∀kvs:List (κ×V),pF (kvs.map λq=>if q.1=k then(q.1,y)else q) j=(pF kvs j).map λx=>if j=k then y else x
 |[]=>rfl
 |p::r=>by
  have ih:=Ul k j y r;rw[zi];by_cases h:p.1=k
  ·rw[zg h]
   by_cases e:p.1=j
   ·rw[lH (p:=(p.1,y)) e,lH e,zzA,zg (e.symm.trans h)]
   ·rw[lC (p:=(p.1,y)) e,lC e,ih]
  ·rw[zc h]
   by_cases e:p.1=j
   ·rw[lH (p:=p) e,lH e,zzA,zc (λz=>h (e.trans z))]
   ·rw[lC (p:=p) e,lC e,ih]
theorem PX(k j:κ)(y:V):∀kvs:List (κ×V),pF kvs k=none->pF (kvs++[(k,y)]) j=if j=k then some y else pF kvs j
 |[],_=>by
  by_cases e:k=j
  ·rw[zg e.symm];exact lH (p:=(k,y)) e
  ·rw[zc (λz=>e z.symm)];exact lC (p:=(k,y)) e
 |p::r,hn=>by
  rw[zzt];have q:¬p.1=k:=λz=>by rw[lH z]at hn;cases hn
  rw[lC q]at hn;have ih:=PX k j y r hn;by_cases e:p.1=j
  ·rw[lH e,lH e,zc (λz=>q (e.trans z))]
  ·rw[lC e,lC e,ih]
def ZQ(kvs:List (κ×V))(k j:κ)(y:V):pF (putK kvs k y) j=if j=k then some y else pF kvs j:=by
 unfold putK;by_cases a:(kvs.any λz=>decide (z.1=k))=true
 ·rw[zg a,Ul]
  rw[ph]at a;by_cases e:j=k
  ·obtain⟨x,hx⟩:=yM.mp a
   rw[zg e,e,hx,zzA,zg rfl]
  ·rw[zc e]
   cases pF kvs j with
   |none=>rfl
   |some x=>rw[zzA,zc e]
 ·rw[zc a]
  refine PX k j y kvs ?_;rw[ph]at a
  cases q:pF kvs k with
  |none=>rfl
  |some x=>rw[q]at a;exact(a rfl).elim
def uI(kvs:List (κ×V))(k:κ)(v:V):(putK kvs k v).length<=kvs.length+1:=by
 unfold putK;split
 ·rw[za];omega
 ·rw[zB,zM,yT];omega
def aad{kvs:List (κ×V)}{k:κ}(v:V)(h:pF kvs k=none):putK kvs k v=kvs++[(k,v)]:=by
 unfold putK;rw[ph,h];exact zc (by decide)
def KH.isSome_eq{o:Option V}{u:Option Value}(r:KH o u):o.isSome=u.isSome:=by
 cases o with
 |none=>cases u with
  |none=>rfl
  |some _=>exact(show False from r).elim
 |some _=>cases u with
  |none=>exact(show False from r).elim
  |some _=>rfl
theorem KH.getD{o:Option V}{u:Option Value}{d:V}{d':Value}(r:KH o u)(rd:RelV d d'):RelV (o.getD d) (u.getD d'):=by
 cases o with
 |none=>cases u with
  |none=>exact rd
  |some _=>exact(show False from r).elim
 |some _=>cases u with
  |none=>exact(show False from r).elim
  |some _=>exact r
def KV.val{kvs:List (κ×V)}{vs:List (κ×Value)}(r:KV kvs vs)(k:κ):KH (pF kvs k) (valueAt vs k):=by
 unfold KV at r
 induction r with
 |nil=>exact True.intro
 | @cons p q ps qs h t ih=>
  obtain⟨h1,h2⟩:=h;by_cases e:p.1=k
  ·have e':q.1=k:=h1.symm.trans e
   have b:valueAt (q::qs) k=some q.2:=by simp[valueAt,yS,e']
   rw[lH e,b];exact h2
  ·have e':¬q.1=k:=λz=>e (h1.trans z)
   have b:valueAt (q::qs) k=valueAt qs k:=by simp[valueAt,yS,e']
   rw[lC e,b];exact ih
theorem KV.any{kvs:List (κ×V)}{vs:List (κ×Value)}(r:KV kvs vs)(k:κ):(kvs.any λq=>decide (q.1=k))=vs.any λq=>decide (q.1=k):=by
 unfold KV at r
 induction r with
 |nil=>rfl
 |cons h t ih=>rw[List.any_cons,List.any_cons,ih,h.1]
def KV.repl{kvs:List (κ×V)}{vs:List (κ×Value)}(r:KV kvs vs)(k:κ){y:V}{u:Value}(ry:RelV y u):
  KV (kvs.map λkv=>if kv.1=k then(kv.1,y)else kv) (vs.map λkv=>if kv.1=k then(kv.1,u)else kv):=by
 unfold KV at r⊢
 induction r with
 |nil=>exact .nil
 | @cons p q ps qs h t ih=>
  rw[zi,zi];refine .cons ?_ ih;obtain⟨h1,h2⟩:=h;by_cases e:p.1=k
  ·rw[zg e,zg (h1.symm.trans e)];exact⟨h1,ry⟩
  ·rw[zc e,zc (λz=>e (h1.trans z))];exact⟨h1,h2⟩
def KV.put{kvs:List (κ×V)}{vs:List (κ×Value)}(r:KV kvs vs)(k:κ){y:V}{u:Value}(q:RelV y u):KV (putK kvs k y) (stored vs k u):=by
 unfold putK stored;rw[r.any k];by_cases e:(vs.any λz=>decide (z.1=k))=true
 ·rw[zg e,zg e];exact r.repl k q
 ·rw[zc e,zc e];exact Paired.snoc r ⟨rfl,q⟩
def KV.drop{kvs:List (κ×V)}{vs:List (κ×Value)}(r:KV kvs vs)(k:κ):KV (Rx kvs k) (without vs k):=by
 unfold KV at r⊢;unfold Rx without
 induction r with
 |nil=>exact .nil
 | @cons p q ps qs h t ih=>
  obtain⟨h1,h2⟩:=h;rw[zzu,zzu];by_cases e:p.1=k
  ·have a:¬decide (p.1≠k)=true:=by simp[e]
   have b:¬decide (q.1≠k)=true:=by simp[h1.symm.trans e]
   rw[zc a,zc b];exact ih
  ·have e':¬q.1=k:=λz=>e (h1.trans z)
   have a:decide (p.1≠k)=true:=by simp[e]
   have b:decide (q.1≠k)=true:=by simp[e']
   rw[zg a,zg b];exact .cons ⟨h1,h2⟩ ih
theorem KV.length{kvs:List (κ×V)}{vs:List (κ×Value)}(r:KV kvs vs):kvs.length=vs.length:=z4 r
def aal(kvs:List (κ×V))(k:κ):(Rx kvs k).length<=kvs.length:=yk _ _
end
def Nb{P:Program}{w:World}{k:Key}{u:Value}(r:RelV (kV k) u):(jF P w).is k u=true:=by
 cases k with
 |inl i=>obtain⟨t,e⟩:=(show∃t,u=Value.int i t from r);subst e;exact Rc P w i t
 |inr x=>obtain⟨t,e⟩:=(show∃t,u=Value.str x t from r);subst e;exact QV P w x t
theorem Pu{P:Program}{w:World}:∀{ks:List Key}{us:List Value},Vals (ks.map kV) us->ItemsAre (jF P w) ks us
 |[],_,r=>by rw[y6]at r;cases r;exact .nil
 |k::ks,_,r=>by
  rw[zi]at r
  cases r with
  |cons h t=>exact .cons (Nb h) (Pu t)
abbrev KT(H:Hp):List (List Key×V)->List (List Key×Addr×Value)->Prop:=Paired λp q=>p.1=q.1/\H q.2.1=some (.tup (p.1.map kV))/\RelV p.2 q.2.2
def KT.val{H:Hp}{kvs:List (List Key×V)}{xs:List (List Key×Addr×Value)}(r:KT H kvs xs)(k:List Key):KH (pF kvs k) ((atKey xs k).map (·.2)):=by
 induction r with
 |nil=>exact True.intro
 | @cons p q ps qs h t ih=>
  obtain⟨h1,_,h2⟩:=h;by_cases e:p.1=k
  ·have e':q.1=k:=h1.symm.trans e
   have b:atKey (q::qs) k=some q.2:=by simp[atKey,yS,e']
   rw[lH e,b];exact h2
  ·have e':¬q.1=k:=λz=>e (h1.trans z)
   have b:atKey (q::qs) k=atKey qs k:=by simp[atKey,yS,e']
   rw[lC e,b];exact ih
def KT.repl{H:Hp}{kvs:List (List Key×V)}{xs:List (List Key×Addr×Value)}(r:KT H kvs xs)(k:List Key){y:V}{u:Value}(ry:RelV y u):
  KT H (kvs.map λkv=>if kv.1=k then(kv.1,y)else kv) (xs.map (putAt k u)):=by
 induction r with
 |nil=>exact .nil
 | @cons p q ps qs h t ih=>
  rw[zi,zi];refine .cons ?_ ih;obtain⟨h1,h2,h3⟩:=h;unfold putAt;by_cases e:p.1=k
  ·rw[zg e,zg (h1.symm.trans e)];exact⟨h1,h2,ry⟩
  ·rw[zc e,zc (λz=>e (h1.trans z))];exact⟨h1,h2,h3⟩
def KT.put{H:Hp}{kvs:List (List Key×V)}{xs:List (List Key×Addr×Value)}(r:KT H kvs xs)(k:List Key){b:Addr}{y:V}{u:Value}(hb:H b=some (.tup (k.map kV)))(z:RelV y u):
  KT H (putK kvs k y) (storedH xs k b u):=by
 have e:(kvs.any λkv=>decide (kv.1=k))=(atKey xs k).isSome:=by
  rw[ph,(r.val k).isSome_eq,Option.isSome_map]
 unfold putK storedH;rw[e];by_cases q:(atKey xs k).isSome=true
 ·rw[zg q,zg q];exact r.repl k z
 ·rw[zc q,zc q];exact Paired.snoc r ⟨rfl,hb,z⟩
def KT.keeps{H H':Hp}{kvs:List (List Key×V)}{xs:List (List Key×Addr×Value)}(r:KT H kvs xs)(q:∀b ys,H b=some (.tup ys)->H' b=some (.tup ys)):KT H' kvs xs:=
 Paired.mapP r λ_ _ z=>⟨z.1,q _ _ z.2.1,z.2.2⟩
section
variable{P:Program}{w:World}{H:Hp}{h:Heap}{a:Addr}
def ajB{u:HO}(ok:HOk P w H h)(e:Rd H a u):lW P w H h a u:=e.ok ok
def HF{kvs:List (Key×V)}(ok:HOk P w H h)(e:Rd H a (.dK kvs)):kvs.length<=sizeLine/\(a==sysModules)=false/\∃vs,KV kvs vs/\h.DictOf (jF P w) a vs:=
 show lW P w H h a (.dK kvs)from ajB ok e
def QZ{kvs:List (Key×V)}(ok:HOk P w H h)(e:H a=some (.dK kvs)):kvs.length<=sizeLine/\(a==sysModules)=false/\∃vs,KV kvs vs/\h.DictOf (jF P w) a vs:=HF ok (.inl e)
def Oq{ks:List Key}(ok:HOk P w H h)(e:H a=some (.tup (ks.map kV))):(tupleKind (jF P w)).is h ks a:=by
 obtain⟨_,its,r,o,h1,h2,n,q⟩:=(show lW P w H h a (.tup (ks.map kV))from ok a _ e);exact⟨o,its.toArray,n,h1,h2,q,by simpa using Pu r⟩
def Vk{kvs:List (List Key×V)}(ok:HOk P w H h)(e:Rd H a (.dT kvs)):kvs.length<=sizeLine/\(a==sysModules)=false/\
  ∃xs,KT H kvs xs/\h.DictOfH (tupleKind (jF P w)) a xs:=by
 obtain⟨z,y,xs,r,o,es,ep,h1,h2,h3,h4,h5⟩:=(show lW P w H h a (.dT kvs)from ajB ok e);refine⟨z,y,xs,r,o,es,ep,h1,h2,h3,h4,λx hx=>?_,h5⟩
 have aa:∀{l:List (List Key×V)}{m:List (List Key×Addr×Value)},KT H l m->∀x∈m,(tupleKind (jF P w)).is h x.1 x.2.1:=by
  intro l m q
  induction q with
  |nil=>intro x hx;exact nomatch hx
  | @cons p q ps qs hq t ih=>
   intro x hx;rcases zv.mp hx with e|hx
   ·subst e
    exact Oq ok (by rw[<-hq.1];exact hq.2.1)
   ·exact ih x hx
 exact aa r x hx
def alA{kvs:List (List Key×V)}(ok:HOk P w H h)(e:H a=some (.dT kvs)):kvs.length<=sizeLine/\(a==sysModules)=false/\
  ∃xs,KT H kvs xs/\h.DictOfH (tupleKind (jF P w)) a xs:=Vk ok (.inl e)
end
noncomputable def Yt(H:Hp)(a:Addr)(y:V)(r:Option V):Prop:=
 (∃kvs k,Rd H a (.dK kvs)/\y=kV k/\r=pF kvs k)\/∃kvs k b,Rd H a (.dT kvs)/\y=.ref b/\H b=some (.tup (k.map kV))/\r=pF kvs k
noncomputable def alc(H:Hp)(a:Addr)(y v:V)(H':Hp):Prop:=
 (∃kvs k,H a=some (.dK kvs)/\y=kV k/\kvs.length<sizeLine/\H'=upd H a (.dK (putK kvs k v)))\/
 ∃kvs k b,H a=some (.dT kvs)/\y=.ref b/\H b=some (.tup (k.map kV))/\kvs.length<sizeLine/\H'=upd H a (.dT (putK kvs k v))
def rF{H:Hp}{a:Addr}{kvs:List (Key×V)}{k:Key}(e:H a=some (.dK kvs)):Yt H a (kV k) (pF kvs k):=.inl ⟨kvs,k,.inl e,rfl,rfl⟩
def vm{H:Hp}{a:Addr}{kvs:List (Key×V)}{k:Key}{v:V}(e:H a=some (.dK kvs))(q:kvs.length<sizeLine):alc H a (kV k) v (upd H a (.dK (putK kvs k v))):=.inl ⟨kvs,k,e,rfl,q,rfl⟩
section
variable{X:Cx}{pins:List (Addr×Obj)}{σ:St}{H:Hp}{s:Shared}{a:Addr}{y v:V}{u r:Value}{o:Option V}{A:Around}{E:Value->Shared->Prop}
def Inv.big(I:Inv X pins σ H s):sysModules<s.heap.objs.size:=by
 have h:mainGlobals<s.heap.objs.size:=(I.mod.glob.keeps I.bk).lt;exact zzF (by decide) h
def YK{Q:Value->Shared->Prop}(hu:A.units+1<cLine)(I:Inv X pins σ H s)(g:Yt H a y (some v))(ry:RelV y u)(h:∀w' s',Inv X pins σ H s'->RelV v w'->Q w' s'):
  wpAny (model X.prog X.w) A (getItem (.ref a) u) Q E s:=by
 rcases g with⟨kvs,k,e,ey,l⟩|⟨kvs,k,b,e,ey,eb,l⟩
 ·subst ey
  obtain⟨z,hd,vs,rel,dd⟩:=HF I.hok e;obtain⟨w',hw,q⟩:=KH.some_of (v:=v) (o:=valueAt vs k) (by rw[l];exact rel.val k);exact wpAny_getItem_of (Nb ry) dd.mapOf hw (h w' _ (I.tok _) q)
 ·subst ey
  cases (show u=Value.ref b from ry);obtain⟨z,hd,xs,rel,dd⟩:=Vk I.hok e;obtain⟨w',hw,q⟩:=KH.some_of (v:=v) (o:=(atKey xs k).map (·.2)) (by rw[l];exact rel.val k);obtain⟨p,hp,aa⟩:=zzi.mp hw;refine wpAny_getItem_heap (tupleKind_room_in1 hu) (Oq I.hok eb) dd hp ?_;rw[aa];exact h w' _ (I.tok _) q
def Jd{h':Heap}{t':Nat}{ob:HO}(I:Inv X pins σ H s)(mu:Mut (H a))(hs:Heap.SameBut a s.heap h')(he:∃q,h'.get? a=some q)(aa:lW X.prog X.w (upd H a ob) h' a ob):
  Inv X pins σ (upd H a ob) {s with heap:=h',toks:=t'}:=
 I.write (x:=a) (e:=a) mu (.inl rfl) (λb q hb z=>(hs.2 b hb).trans z) he aa
def Lf{P:Program}{w:World}{H':Hp}{h':Heap}{kvs:List (Key×V)}{vs:List (Key×Value)}(z:kvs.length<=sizeLine)(hd:(a==sysModules)=false)(rel:KV kvs vs)(q:h'.DictOf (jF P w) a vs):
  lW P w H' h' a (.dK kvs):=⟨z,hd,vs,rel,q⟩
def Wb{H':Hp}{Q:Unit->Shared->Prop}(hu:A.units+1<cLine)(I:Inv X pins σ H s)(g:alc H a y v H')(ry:RelV y u)(rv:RelV v r)(h:∀s',Inv X pins σ H' s'->Q () s'):
  wpAny (model X.prog X.w) A (setItem (.ref a) u r) Q E s:=by
 rcases g with⟨kvs,k,e,ey,l,eH⟩|⟨kvs,k,b,e,ey,eb,l,eH⟩
 ·subst ey eH
  obtain⟨z,hd,vs,rel,dd⟩:=QZ I.hok e;have hz:vs.length<=sizeLine:=by rw[<-rel.length];exact z
  have hl:(putK kvs k v).length<=sizeLine:=by have:=uI kvs k v;omega
  refine wpAny_setItem_pairs (hsz:=hz) (Nb ry) dd λh' aa hs=>h _ ?_;have he:∃q,h'.get? a=some q:=let⟨q,_,_,hq,_⟩:=aa;⟨q,hq⟩
  exact Jd I (by rw[e];exact True.intro) hs he (Lf hl hd (rel.put k rv) aa)
 ·subst ey eH
  cases (show u=Value.ref b from ry);obtain⟨z,hd,xs,rel,dd⟩:=alA I.hok e;have hz:xs.length<=sizeLine:=by rw[<-z4 rel];exact z
  have hl:(putK kvs k v).length<=sizeLine:=by have:=uI kvs k v;omega
  refine wpAny_setItem_heap (hsz:=hz) (tupleKind_room_in1 hu) (Oq I.hok eb) dd λh' aa hs=>h _ ?_;obtain⟨q,es,ep,hq,h2,h3,h4,_,h5⟩:=aa;refine Jd I (by rw[e];exact True.intro) hs ⟨q,hq⟩ ⟨hl,hd,_,(rel.put k eb rv).keeps λc ys ec=>?_,q,es,ep,hq,h2,h3,h4,h5⟩;rw[iQ (alD ec e (λz=>nomatch z))];exact ec
end
section
variable{X:Cx}{pins:List (Addr×Obj)}{σ:St}{H:Hp}{s:Shared}{a:Addr}{kvs:List (Key×V)}{k:Key}{u:Value}{A:Around}{E:Value->Shared->Prop}
def alu{v:V}{aa:List Value}{Q:Value->Shared->Prop}(I:Inv X pins σ H s)(e:H a=some (.dK kvs))(ry:RelV (kV k) u)(l:pF kvs k=some v)(hm:aa=[]\/∃x,aa=[x])
  (h:∀w' s',Inv X pins σ (upd H a (.dK (Rx kvs k))) s'->RelV v w'->Q w' s'):wpAny (model X.prog X.w) A (call (.builtin "dict.pop") (.ref a::u::aa)) Q E s:=by
 obtain⟨z,hd,vs,rel,dd⟩:=QZ I.hok e;obtain⟨w',hw,ac⟩:=KH.some_of (v:=v) (o:=valueAt vs k) (by rw[<-l];exact rel.val k)
 have hp:(keyPart u).isSome=true:=by
  cases k with
  |inl i=>obtain⟨t,q⟩:=(show∃t,u=Value.int i t from ry);subst q;rfl
  |inr x=>obtain⟨t,q⟩:=(show∃t,u=Value.str x t from ry);subst q;rfl
 have ha:argsOk "dict.pop" ⟨.ref a::u::aa,[]⟩:=by
  rcases hm with q|⟨x,q⟩
  ·subst q;exact PySem.F.args_dict_pop_2 _ _
  ·subst q;exact PySem.F.args_dict_pop_3 _ _ _
 refine yL zzo dd.typeIs PySem.F.entry_dict_pop ha (meets_dict_pop_there (jF X.prog X.w) a (Nb ry) aa hm hp)
  ⟨vs,w',dd,by rw[<-rel.length];exact z,hw,λh' ab hs=>h w' _ ?_ ac⟩
 have he:∃q,h'.get? a=some q:=let⟨q,_,_,hq,_⟩:=ab;⟨q,hq⟩
 exact Jd I (by rw[e];exact True.intro) hs he (Lf (zV (aal kvs k) z) hd (rel.drop k) ab)
def akG{r:Value}{Q:Value->Shared->Prop}(I:Inv X pins σ H s)(e:H a=some (.dK kvs))(ry:RelV (kV k) u)(l:pF kvs k=none)(h:∀s',Inv X pins σ H s'->Q r s'):
  wpAny (model X.prog X.w) A (call (.builtin "dict.pop") [.ref a,u,r]) Q E s:=by
 obtain⟨z,hd,vs,rel,dd⟩:=QZ I.hok e;have hn:valueAt vs k=none:=KH.none_of (by rw[<-l];exact rel.val k)
 have hp:(keyPart u).isSome=true:=by
  cases k with
  |inl i=>obtain⟨t,q⟩:=(show∃t,u=Value.int i t from ry);subst q;rfl
  |inr x=>obtain⟨t,q⟩:=(show∃t,u=Value.str x t from ry);subst q;rfl
 exact yL zzo dd.typeIs PySem.F.entry_dict_pop (PySem.F.args_dict_pop_3 _ _ _) (meets_dict_pop_default (jF X.prog X.w) a (Nb ry) hd hp r) ⟨vs,dd,hn,h _ (I.tok _)⟩
def aiz{Q:Value->Shared->Prop}(I:Inv X pins σ H s)(e:H a=some (.dK kvs))(h:∀s',Inv X pins σ (upd H a (.dK [])) s'->Q .none s'):wpAny (model X.prog X.w) A (call (.builtin "dict.clear") [.ref a]) Q E s:=by
 obtain⟨z,hd,vs,rel,dd⟩:=QZ I.hok e;refine yL PySem.F.slot_dict_clear dd.typeIs PySem.F.entry_dict_clear (PySem.F.args_dict_clear_1 _) (meets_dict_clear (jF X.prog X.w) a) ⟨vs,dd,by rw[<-rel.length];exact z,λh' aa hs=>h _ ?_⟩;have he:∃q,h'.get? a=some q:=let⟨q,_,_,hq,_⟩:=aa;⟨q,hq⟩
 exact Jd (t':=s.toks) I (by rw[e];exact True.intro) hs he (Lf (zJ _) hd .nil aa)
end
noncomputable def alV(i:Expr):Prop:=∀ov iv,subscripted i false ov iv=operate [ov,iv] (getItem ov iv)
def ajf{prog:Program}{w:World}{A:Around}{E:Value->Shared->Prop}{s:Shared}{env:Env}{value q:Expr}{pos:Pos}{T id:String}{Q:Value->Shared->Prop}
  (hl:typeLookup (.type T) "__getitem__" =pure (some (.builtin id))) (hs:alV q)
  (h:wpAny (model prog w) A (eval value env) (λo s₁=>wpAny (model prog w) A (eval q env) (λi s₂=>s₂.TypeIs o T/\wpAny (model prog w) A (getItem o i) Q E s₂) E s₁) E s):
  wpAny (model prog w) A (eval (.Subscript value q pos) env) Q E s:=by
 refine Subscript_ (ye h (λo s₁ h₁=>ye h₁ (λi s₂ h₂=>?_) λ_ _ x=>x) λ_ _ x=>x);obtain⟨hT,h₂⟩:=h₂;unfold subscriptTail;refine zd ?_;rw[getitemInPython_of_ne hT.not_modules];refine zd (zz9 hT hl ?_)
 have z:wpAny (model prog w) A (subscripted q false o i) (λr s₃=>wpAny (model prog w) A (letTemporaryGo value o r>>=λ_=>pure r) Q E s₃) E s₂:=by
  rw[hs o i];exact wpAny_operating (ye h₂ (λr s₃ h₃=>zd (wpAny_letTemporaryGo (zC h₃))) λ_ _ x=>x)
 first
  |exact zC (zd z)
  |exact zd (zC (zd z))
  |exact zd z
def Rv{X:Cx}{pins:List (Addr×Obj)}{σ:St}{H:Hp}{s:Shared}{a:Addr}{y:V}{o:Option V}(I:Inv X pins σ H s)(g:Yt H a y o):s.TypeIs (.ref a) "dict" :=by
 rcases g with⟨kvs,k,e,_,_⟩|⟨kvs,k,b,e,_,_,_⟩
 ·obtain⟨_,_,vs,_,q⟩:=HF I.hok e
  exact q.typeIs
 ·obtain⟨_,_,xs,_,q⟩:=Vk I.hok e
  exact q.typeIs
noncomputable def ajH(td ty:TE):TE:=λσ H Q=>td σ H λx H1=>ty σ H1 λy H2=>∃a v,x=.ref a/\Yt H2 a y (some v)/\Q v H2
noncomputable def ajL(td ty tv:TE):TS:=λD σ H=>tv σ H λv H1=>td σ H1 λx H2=>ty σ H2 λy H3=>∃a H4,x=.ref a/\alc H3 a y v H4/\D.nx σ H4
section
variable{X:Cx}{o i e value:Expr}{pos pos' tpos:Pos}{td ty tv:TE}
def BV(hu:X.A.units+1<cLine)(ho:PE X o td)(hi:PE X i ty)(hs:alV i):PE X (.Subscript o i pos) (ajH td ty):=by
 intro pins s σ H Q I h;refine ajf PySem.F.slot_dict_getitem.lookup hs (thn (ho pins s σ H _ I h) λu s1 ⟨x,H1,I1,rx,q1⟩=>thn (hi pins s1 σ H1 _ I1 q1) λiv s2 ⟨y,H2,z,ry,a,v,ex,g,q2⟩=>?_);subst ex;obtain rfl:u=Value.ref a:=rx;exact⟨Rv z g,YK hu z g ry λw' s3 I3 q=>⟨v,H2,I3,q,q2⟩⟩
def uE(hu:X.A.units+1<cLine)(ho:PE X o td)(hi:PE X i ty)(hv:PE X value tv)(hs:swapsWith value (some (.Subscript o i pos')) pos.line X.env=pure false):
  PS X (.Assign [.Subscript o i pos'] value pos) (ajL td ty tv):=by
 intro pins s σ H D I h;refine wpAny_Assign_Subscript (thn (hv pins s σ H _ I h) λr s1 ⟨v,H1,I1,rv,q1⟩=>thn (ho pins s1 σ H1 _ I1 q1) λu s2 ⟨x,H2,I2,rx,q2⟩=>thn (hi pins s2 σ H2 _ I2 q2) λiv s3 ⟨y,H3,I3,ry,a,H4,ex,g,z⟩=>?_) hs;subst ex;obtain rfl:u=Value.ref a:=rx;exact Wb hu I3 g ry rv λs4 q=>⟨σ,H4,q,z⟩
end
def Sy{P:Program}{w:World}{H:Hp}(h:Heap)(q:sysModules<h.objs.size):lW P w H (h.push {cls:=.type "dict",data:=.dict #[]}) h.objs.size (.dK []):=
 ⟨zJ _,beq_eq_false_iff_ne.mpr (Ne.symm (zE q)),[],.nil,Heap.DictOf.new h⟩
noncomputable def aaI:TE:=λ_ H Q=>∀p,H p=none->Q (.ref p) (upd H p (.dK []))
section
variable{X:Cx}{pos:Pos}
def Tz:PE X (.Dict [] [] pos) aaI:=λpins s σ H Q I h=>
 wpAny_Dict_empty ⟨.ref s.heap.objs.size,_,I.laid (a:=s.heap.objs.size) (o:=.dK []) (t':=s.toks) (λ_ _ q=>zb _ q) (zm _) (Sy s.heap I.big),rfl,h _ (I.hok.fresh (zm _))⟩
end
noncomputable def Lj:List (TE×TE)->St->Hp->(List (V×V)->Hp->Prop)->Prop
 |[],_,H,Q=>Q [] H
 |(tk,tv)::r,σ,H,Q=>tk σ H λx H1=>tv σ H1 λy H2=>Lj r σ H2 λps H3=>Q ((x,y)::ps) H3
abbrev VV:List (V×V)->List (Value×Value)->Prop:=Paired λp q=>RelV p.1 q.1/\RelV p.2 q.2
noncomputable def PPs(X:Cx)(pos:Pos)(keys:List (Option Expr))(values:List Expr)(trs:List (TE×TE)):Prop:=
 ∀(pins:List (Addr×Obj)) (s:Shared) (σ:St) (H:Hp) (Q:List (V×V)->Hp->Prop),Inv X pins σ H s->Lj trs σ H Q->
  wpAny (model X.prog X.w) X.A (evalPairs (pairTrees keys values X.env pos)) (λvs s'=>∃ps H',Inv X pins σ H' s'/\VV ps vs/\Q ps H') X.xe s
def RZ{X:Cx}{pos:Pos}:PPs X pos [] [] []:=λpins s σ H Q I h=>pairTrees_nil_walk ⟨[],H,I,.nil,h⟩
def xX{X:Cx}{pos:Pos}{k v:Expr}{ks:List (Option Expr)}{vs:List Expr}{tk tv:TE}{q:List (TE×TE)}(hk:PE X k tk)(hv:PE X v tv)(hr:PPs X pos ks vs q):
  PPs X pos (some k::ks) (v::vs) ((tk,tv)::q):=λpins s σ H Q I h=>
 pairTrees_cons_walk (thn (hk pins s σ H _ I h) λu s1 ⟨x,H1,I1,rx,q1⟩=>thn (hv pins s1 σ H1 _ I1 q1) λw2 s2 ⟨y,H2,z,ry,q2⟩=>
  thn (hr pins s2 σ H2 _ z q2) λws s3 ⟨ps,H3,I3,rel,q3⟩=>⟨(x,y)::ps,H3,I3,.cons ⟨rx,ry⟩ rel,q3⟩)
noncomputable def Li(kvs more:List (Key×V)):List (Key×V):=more.foldl (λacc kv=>putK acc kv.1 kv.2) kvs
def KV.merge:∀{z:List (Key×V)}{rs:List (Key×Value)}{kvs:List (Key×V)}{vs:List (Key×Value)},KV z rs->KV kvs vs->KV (Li kvs z) (merged vs rs):=by
 intro z rs kvs vs r;unfold KV at r
 induction r generalizing kvs vs with
 |nil=>intro q;exact q
 | @cons p q ps qs h t ih=>
  intro r0
  have e:KV (putK kvs p.1 p.2) (stored vs q.1 q.2):=by
   have:=r0.put p.1 h.2;rw[<-h.1];exact this
  exact ih e
theorem CQ:∀(more kvs:List (Key×V)),(Li kvs more).length<=kvs.length+more.length
 |[],kvs=>by show kvs.length<=kvs.length+0;omega
 |p::r,kvs=>by
  have h1:=CQ r (putK kvs p.1 p.2);have h2:=uI kvs p.1 p.2;show(Li (putK kvs p.1 p.2) r).length<=_;rw[zM];omega
theorem Ly{P:Program}{w:World}:∀{kvs:List (Key×V)}{ws:List (Value×Value)},VV (kvs.map λz=>(kV z.1,z.2)) ws->∃rs,Carries (jF P w) ws rs/\KV kvs rs
 |[],_,r=>by rw[y6]at r;cases r;exact⟨[],True.intro,.nil⟩
 |p::kvs,_,r=>by
  rw[zi]at r
  cases r with
  | @cons a b as bs h t=>
   obtain⟨rs,c,q⟩:=Ly (P:=P) (w:=w) t;obtain⟨b1,b2⟩:=b;exact⟨(p.1,b2)::rs,⟨Nb h.1,rfl,c⟩,.cons ⟨rfl,h.2⟩ q⟩
noncomputable def ZK(trs:List (TE×TE)):TE:=λσ H Q=>∀p,H p=none->Lj trs σ (upd H p (.dK [])) λps H2=>H2 p=some (.dK [])/\∃kvs:List (Key×V),ps=kvs.map (λkv=>(kV kv.1,kv.2))/\kvs.length<=15/\Q (.ref p) (upd H2 p (.dK (Li [] kvs)))
def QQ{X:Cx}{pos:Pos}{aa:List (Option Expr)}{ab:List Expr}{ae:List (TE×TE)}(h:PPs X pos aa ab ae)(ad:aa.all (·.isSome)=true)(hl:aa.length=ab.length)(h0:aa≠[])
  (af:aa.length<=15):PE X (.Dict aa ab pos) (ZK ae):=by
 intro pins s σ H Q I q;have hn:=I.hok.fresh (zm s.heap.objs.size);have I1:=I.laid (a:=s.heap.objs.size) (o:=.dK []) (h':=s.heap.push {cls:=.type "dict",data:=.dict #[]}) (t':=s.toks) (λ_ _ q=>zb _ q) (zm _) (Sy s.heap I.big);refine wpAny_Dict_walk (knd:=jF X.prog X.w) ad hl h0 af (thn (h pins _ σ _ _ I1 (q _ hn)) λws s2 ⟨ps,H2,I2,rel,e,kvs,ep,lk,q2⟩=>?_);subst ep;obtain⟨rs,c,rk⟩:=Ly (P:=X.prog) (w:=X.w) rel;obtain⟨z,hd,ag,r0,dd⟩:=QZ I2.hok e;cases r0;refine⟨rs,c,dd,λh' ac hs=>⟨.ref s.heap.objs.size,_,?_,rfl,q2⟩⟩
 have hz:(Li [] kvs).length<=sizeLine:=by
  have h1:=CQ kvs [];rw[yT]at h1;rw[zq];omega
 have he:∃q,h'.get? s.heap.objs.size=some q:=let⟨q,_,_,hq,_⟩:=ac;⟨q,hq⟩
 exact Jd I2 (by rw[e];exact True.intro) hs he (Lf hz hd (rk.merge .nil) ac)
structure M1(X:Cx)(o:Expr)(m:Str)(apos:Pos)(e:Expr)(cpos:Pos):Prop where
 base:attributeBase o m X.env (eval o X.env)=eval o X.env
 few:((backTo cpos (starEach [e] X.env)).all (λx=>!x.1) && (backToKw cpos (keywordEach [] X.env)).all (λx=>x.1.isSome)
  && decide (([e]:List Expr).length+([]:List Keyword).length+(if([]:List Keyword).isEmpty then 0 else 1)<30))=true
 line:(apos.endLine==cpos.line)=true
 trees:backTo cpos (starEach [e] X.env)=[(false,eval e X.env)]
structure M2(X:Cx)(o:Expr)(m:Str)(apos:Pos)(e f:Expr)(cpos:Pos):Prop where
 base:attributeBase o m X.env (eval o X.env)=eval o X.env
 few:((backTo cpos (starEach [e,f] X.env)).all (λx=>!x.1) && (backToKw cpos (keywordEach [] X.env)).all (λx=>x.1.isSome)
  && decide (([e,f]:List Expr).length+([]:List Keyword).length+(if([]:List Keyword).isEmpty then 0 else 1)<30))=true
 line:(apos.endLine==cpos.line)=true
 trees:backTo cpos (starEach [e,f] X.env)=[(false,eval e X.env),(false,eval f X.env)]
noncomputable def IsD(H:Hp)(a:Addr):Prop:=(∃kvs,Rd H a (.dK kvs))\/∃kvs,Rd H a (.dT kvs)
def YS{X:Cx}{pins:List (Addr×Obj)}{σ:St}{H:Hp}{s:Shared}{a:Addr}(I:Inv X pins σ H s)(d:IsD H a):
  s.TypeIs (.ref a) "dict" /\(∀b,Value.ref a=.ref b->∃z,s.heap.get? b=some z/\z.dict=none)/\(a==sysModules)=false:=by
 rcases d with⟨kvs,e⟩|⟨kvs,e⟩
 ·obtain⟨_,hd,vs,_,dd⟩:=HF I.hok e
  refine⟨dd.typeIs,λb q=>?_,hd⟩;cases q;obtain⟨z,_,_,h1,h2,_⟩:=dd;exact⟨z,h1,h2.2.1⟩
 ·obtain⟨_,hd,xs,_,dd⟩:=Vk I.hok e
  refine⟨dd.typeIs,λb q=>?_,hd⟩;cases q;obtain⟨z,_,_,h1,h2,_⟩:=dd;exact⟨z,h1,h2.2.1⟩
section
variable{X:Cx}{pins:List (Addr×Obj)}{σ:St}{H:Hp}{s:Shared}{a:Addr}{y d:V}{u r:Value}{o:Option V}{A:Around}{E:Value->Shared->Prop}
def aku{Q:Value->Shared->Prop}(hu:A.units+1<cLine)(I:Inv X pins σ H s)(g:Yt H a y o)(ry:RelV y u)(h:∀w' s',Inv X pins σ H s'->RelV (o.getD .non) w'->Q w' s'):
  wpAny (model X.prog X.w) A (call (.builtin "dict.get") [.ref a,u]) Q E s:=by
 rcases g with⟨kvs,k,e,ey,l⟩|⟨kvs,k,b,e,ey,eb,l⟩
 ·subst ey
  obtain⟨z,hd,vs,rel,q⟩:=HF I.hok e;refine yL yw q.typeIs yQ (PySem.F.args_dict_get_2 _ _) (meets_dict_get (jF X.prog X.w) a (Nb ry) hd) ⟨_,q.mapOf,h _ _ (I.tok _) ?_⟩;rw[l];exact(rel.val k).getD rfl
 ·subst ey
  cases (show u=Value.ref b from ry);obtain⟨z,hd,xs,rel,q⟩:=Vk I.hok e;refine yL yw q.typeIs yQ (PySem.F.args_dict_get_2 _ _) (meetsH_dict_get (tupleKind (jF X.prog X.w)) a b hd) ⟨tupleKind_room_in1 hu,k,xs,Oq I.hok eb,q,h _ _ (I.tok _) ?_⟩;rw[l];exact(rel.val k).getD rfl
def akJ{Q:Value->Shared->Prop}(hu:A.units+1<cLine)(I:Inv X pins σ H s)(g:Yt H a y o)(ry:RelV y u)(rd:RelV d r)(h:∀w' s',Inv X pins σ H s'->RelV (o.getD d) w'->Q w' s'):
  wpAny (model X.prog X.w) A (call (.builtin "dict.get") [.ref a,u,r]) Q E s:=by
 rcases g with⟨kvs,k,e,ey,l⟩|⟨kvs,k,b,e,ey,eb,l⟩
 ·subst ey
  obtain⟨z,hd,vs,rel,q⟩:=HF I.hok e;refine yL yw q.typeIs yQ (PySem.F.args_dict_get_3 _ _ _) (meets_dict_get_default (jF X.prog X.w) a (Nb ry) hd r) ⟨_,q.mapOf,h _ _ (I.tok _) ?_⟩;rw[l];exact(rel.val k).getD rd
 ·subst ey
  cases (show u=Value.ref b from ry);obtain⟨z,hd,xs,rel,q⟩:=Vk I.hok e;refine yL yw q.typeIs yQ (PySem.F.args_dict_get_3 _ _ _) (meetsH_dict_get_default (tupleKind (jF X.prog X.w)) a b hd r) ⟨tupleKind_room_in1 hu,k,xs,Oq I.hok eb,q,h _ _ (I.tok _) ?_⟩;rw[l];exact(rel.val k).getD rd
end
noncomputable def aib(td ty:TE):TE:=λσ H Q=>td σ H λx H1=>∃a,x=.ref a/\IsD H1 a/\ty σ H1 λy H2=>∃o,Yt H2 a y o/\Q (o.getD .non) H2
noncomputable def aim(td ty tx:TE):TE:=λσ H Q=>td σ H λx H1=>∃a,x=.ref a/\IsD H1 a/\ty σ H1 λy H2=>tx σ H2 λz H3=>∃o,Yt H3 a y o/\Q (o.getD z) H3
noncomputable def aaH(td ty tx:TE):TE:=λσ H Q=>td σ H λx H1=>∃a,x=.ref a/\IsD H1 a/\ty σ H1 λy H2=>tx σ H2 λz H3=>∃kvs k,H3 a=some (.dK kvs)/\y=kV k/\
 (∀v,pF kvs k=some v->Q v (upd H3 a (.dK (Rx kvs k))))/\(pF kvs k=none->Q z H3)
section
variable{X:Cx}{o e f:Expr}{apos cpos:Pos}{td ty tx:TE}
def Zn(hu:X.A.units+1<cLine)(ho:PE X o td)(he:PE X e ty)(m:M1 X o "get" apos e cpos):PE X (.Call (.Attribute o "get" apos) [e] [] cpos) (aib td ty):=by
 intro pins s σ H Q I h;refine zzS m.base m.few m.line yg yw PySem.F.type_dict_get (thn (ho pins s σ H _ I h) λu s1 ⟨x,H1,z,rx,a,ex,d,q1⟩=>?_);subst ex;obtain rfl:u=Value.ref a:=rx;obtain⟨t1,t2,_⟩:=YS z d;refine⟨t1,t2,?_⟩;rw[m.trees];refine Calls.callWith_builtin rfl (Calls.evalArgs_plain (Calls.spliced_cons (thn (he pins s1 σ H1 _ z q1) λiv s2 ⟨y,H2,I2,ry,ov,g,q2⟩=>Calls.spliced_nil ?_)));exact aku hu I2 g ry λw' s3 I3 q=>⟨_,H2,I3,q,q2⟩
def pq(hu:X.A.units+1<cLine)(ho:PE X o td)(he:PE X e ty)(hf:PE X f tx)(m:M2 X o "get" apos e f cpos):PE X (.Call (.Attribute o "get" apos) [e,f] [] cpos) (aim td ty tx):=by
 intro pins s σ H Q I h;refine zzS m.base m.few m.line yg yw PySem.F.type_dict_get (thn (ho pins s σ H _ I h) λu s1 ⟨x,H1,I1,rx,a,ex,d,q1⟩=>?_);subst ex;obtain rfl:u=Value.ref a:=rx;obtain⟨t1,t2,_⟩:=YS I1 d;refine⟨t1,t2,?_⟩;rw[m.trees]
 refine Calls.callWith_builtin rfl (Calls.evalArgs_plain (Calls.spliced_cons (thn (he pins s1 σ H1 _ I1 q1) λiv s2 ⟨y,H2,I2,ry,q2⟩=>
  Calls.spliced_cons (thn (hf pins s2 σ H2 _ I2 q2) λfv s3 ⟨z,H3,I3,rz,ov,g,q3⟩=>Calls.spliced_nil ?_))))
 exact akJ hu I3 g ry rz λw' s4 I4 q=>⟨_,H3,I4,q,q3⟩
def aaq(ho:PE X o td)(he:PE X e ty)(hf:PE X f tx)(m:M2 X o "pop" apos e f cpos):PE X (.Call (.Attribute o "pop" apos) [e,f] [] cpos) (aaH td ty tx):=by
 intro pins s σ H Q I h;refine zzS m.base m.few m.line yg zzo PySem.F.type_dict_pop (thn (ho pins s σ H _ I h) λu s1 ⟨x,H1,I1,rx,a,ex,d,q1⟩=>?_);subst ex;obtain rfl:u=Value.ref a:=rx;obtain⟨t1,t2,_⟩:=YS I1 d;refine⟨t1,t2,?_⟩;rw[m.trees]
 refine Calls.callWith_builtin rfl (Calls.evalArgs_plain (Calls.spliced_cons (thn (he pins s1 σ H1 _ I1 q1) λiv s2 ⟨y,H2,I2,ry,q2⟩=>
  Calls.spliced_cons (thn (hf pins s2 σ H2 _ I2 q2) λfv s3 ⟨z,H3,I3,rz,kvs,k,ea,ey,q3,q4⟩=>Calls.spliced_nil ?_))))
 subst ey
 cases l:pF kvs k with
 |some v=>exact alu I3 ea ry l (.inr ⟨fv,rfl⟩) λw' s4 q aa=>⟨v,_,q,aa,q3 v l⟩
 |none=>exact akG I3 ea ry l λs4 q=>⟨z,H3,q,rz,q4 l⟩
end
section
variable{X:Cx}{pins:List (Addr×Obj)}{σ:St}{H:Hp}{s:Shared}{a:Addr}{kvs:List (Key×V)}{A:Around}{E:Value->Shared->Prop}
def Zr{Q:Value->Shared->Prop}(I:Inv X pins σ H s)(e:Rd H a (.dK kvs))(h:∀p s',H p=none->Inv X pins σ (upd H p (.dK kvs)) s'->Q (.ref p) s'):wpAny (model X.prog X.w) A (call (.type "dict") [.ref a]) Q E s:=by
 obtain⟨z,hd,vs,rel,dd⟩:=HF I.hok e;refine kt_call_dict hd dd (by rw[<-rel.length];exact z) λh' aa hs=>?_;refine h _ _ (I.hok.fresh (zm _)) (I.laid (a:=s.heap.objs.size) (o:=.dK kvs) (t':=s.toks) (λb q hq=>?_) (zm _) (Lf z (beq_eq_false_iff_ne.mpr (Ne.symm (zE I.big))) rel aa));exact(hs.2 b (zE (zr hq))).trans (zb _ hq)
end
end L2
namespace L2
open PySem PySem.Spec PyProof.Rows
section
variable{κ:Type} [DecidableEq κ]
def aaC{kvs:List (κ×V)}{k:κ}(h:pF kvs k=none):¬k∈kvs.map (·.1):=by
 intro m;obtain⟨p,hp,e⟩:=zj.mp m;have q:(kvs.any λz=>decide (z.1=k))=true:=yz.mpr ⟨p,hp,zD e⟩;rw[ph,h]at q;exact absurd q (by simp)
theorem Wl:∀{l:List κ}{k:κ},l.Nodup->¬k∈l->(l++[k]).Nodup
 |[],k,_,_=>by simp
 |a::r,k,h,hk=>by
  obtain⟨h1,h2⟩:=zP.mp h;show(a::(r++[k])).Nodup;refine zP.mpr ⟨λm=>?_,Wl h2 λm=>hk (zv.mpr (Or.inr m))⟩;rcases zI.mp m with q|q
  ·exact h1 q
  ·exact hk (zv.mpr (Or.inl (zy.mp q).symm))
def aiO{kvs:List (κ×V)}{k:κ}(v:V)(hn:(kvs.map (·.1)).Nodup)(h:pF kvs k=none):((putK kvs k v).map (·.1)).Nodup:=by
 rw[aad v h,zu];exact Wl hn (aaC h)
end
end L2
namespace L2
open PySem PySem.Spec PyProof.Rows
structure Zf(K:Fg_)(x qual:Str)(st:Stmt)(f:Addr)(fd:FuncData)(dvs:List V):Prop where
 ex:∃(oc:Value)(od:Option Addr)(Td:Addr)(kV doc pm:Value)(an:Option Addr)(cdv ct:Value)(osl:Array (Option Value))(ot:Obj)(its:List Value)(nt:Nat),
  fd=PySem.W.fnOf x qual (nD st) (lX st) (iD st) (.ref Td) kV doc pm an cdv ct/\K.lookup f=some ⟨oc,od,.func fd,osl⟩/\PySem.W.codeIn K cdv qual=true/\K.lookup Td=some ot/\ot.data=.seq its.toArray nt/\Vals dvs its
 kp:PySem.W.keepIn K (.ref f)=true
section
variable{P:Program}{w:World}{K:Fg_}{mg:Str->Option Value}{base:Heap}
def Zf.ok{x z:Str}{st:Stmt}{f:Addr}{fd:FuncData}{N ps:List Str}{k:Nat}{sp:Sp}{dvs:List V}(F:Zf K x z st f fd dvs)(S:iJ N ps (iD st))(len:∀vs H Q E,sp vs H Q E->vs.length=ps.length)
  (ab:∀(aa:Value)(A:Around)(outer:List Env)(s:Shared)(H:Hp)(vs:List V)(Q:VK)(E:XK),qW k (A.deeper (envOfC z (iD st) s.heap.objs.size f aa))->sp vs H Q E->
   ∃t,PSs (aay CX0 P w K mg base N z (iD st) f aa A outer s H E).nox (lX st) t/\t {nx:=λ_ H'=>Q .non H',rt:=Q} (start N vs) H):jK P w K mg base CX0 (k+1) f fd ps sp:=by
 obtain⟨oc,od,Td,kV,af,pm,an,aa,ct,ae,ot,its,nt,rfl,lk,ad,_⟩:=F.ex;refine akD lk ad S len λA outer s H vs Q E hr ac=>?_;obtain⟨t,h,q⟩:=ab aa A outer s H vs Q E hr ac;exact⟨t,h.nox,q⟩
def Fun.okv{x q:Str}{st:Stmt}{f:Addr}{fd:FuncData}{N ps:List Str}{k:Nat}{sp:Sp}(F:Fun K x q st f fd)(S:iJ N ps (iD st))
  (z:∀(cdv:Value)(A:Around)(outer:List Env)(s:Shared)(H:Hp)(vs:List V)(Q:VK)(E:XK),qW k (A.deeper (envOfC q (iD st) s.heap.objs.size f cdv))->sp vs H Q E->
   ∃t,PSs (aay CX0 P w K mg base N q (iD st) f cdv A outer s H E).nox (lX st) t/\t {nx:=λ_ H'=>Q .non H',rt:=Q} (start N vs) H) (len:∀vs H Q E,sp vs H Q E->vs.length=ps.length:=by walk_at "v"):jK P w K mg base CX0 (k+1) f fd ps sp:=F.ok S len z
def Zf.okv{x q:Str}{st:Stmt}{f:Addr}{fd:FuncData}{N ps:List Str}{k:Nat}{sp:Sp}{dvs:List V}(F:Zf K x q st f fd dvs)(S:iJ N ps (iD st))
  (z:∀(cdv:Value)(A:Around)(outer:List Env)(s:Shared)(H:Hp)(vs:List V)(Q:VK)(E:XK),qW k (A.deeper (envOfC q (iD st) s.heap.objs.size f cdv))->sp vs H Q E->
   ∃t,PSs (aay CX0 P w K mg base N q (iD st) f cdv A outer s H E).nox (lX st) t/\t {nx:=λ_ H'=>Q .non H',rt:=Q} (start N vs) H) (len:∀vs H Q E,sp vs H Q E->vs.length=ps.length:=by walk_at "v"):jK P w K mg base CX0 (k+1) f fd ps sp:=F.ok S len z
def Zf.binds{x q:Str}{st:Stmt}{f:Addr}{fd:FuncData}{ps:List Str}{dvs:List V}(F:Zf K x q st f fd dvs)(n:Nat)
  (h:∀(Td:Addr)(kV aa pm:Value)(an:Option Addr)(z ct:Value)(its us:List Value),its.length=dvs.length->(us++its.drop n).length=ps.length->
   ∃k,bindArgs (PySem.W.fnOf x q (nD st) (lX st) (iD st) (.ref Td) kV aa pm an z ct) ⟨us,[]⟩=(seqItems? (.ref Td)>>=k)/\k (some its.toArray)=pure (ps.zip (us++its.drop n))):∃ds,Binds K fd ps ds/\Vals (dvs.drop n) ds:=by
 obtain⟨oc,od,Td,kV,aa,pm,an,z,ct,ac,ot,its,nt,rfl,lk,ad,lt,ab,hv⟩:=F.ex;refine⟨its.drop n,λs us X hl=>?_,hv.drop n⟩;obtain⟨k,e1,e2⟩:=h Td kV aa pm an z ct its us hv.length.symm hl;exact PySem.W.binds_K X rfl lt ab e1 e2
def QX{x q:Str}{st:Stmt}{f Td:Addr}{oc:Value}{od an:Option Addr}{ab:Array (Option Value)}{kV aa pm z ct:Value}{dvs:List V}{ot:Obj}{its:List Value}{nt:Nat}(l:K.lookup f=some ⟨oc,od,.func (PySem.W.fnOf x q (nD st) (lX st) (iD st) (.ref Td) kV aa pm an z ct),ab⟩)
  (c:PySem.W.codeIn K z q=true) (k:PySem.W.keepIn K (.ref f)=true) (lt:K.lookup Td=some ot) (hd:ot.data=.seq its.toArray nt) (hv:Vals dvs its):Zf K x q st f (PySem.W.fnOf x q (nD st) (lX st) (iD st) (.ref Td) kV aa pm an z ct) dvs:=
 ⟨⟨oc,od,Td,kV,aa,pm,an,z,ct,ab,ot,its,nt,rfl,l,c,lt,hd,hv⟩,k⟩
end
structure ajp(K:Fg_)(C:Addr)(m:Str)(f:Addr):Prop where
 ga:PySem.W.specialIn K (.ref C) "__getattribute__" =some (some (.builtin "type.__getattribute__"))
 rd:PySem.W.readsIn K C (.type "type")=true
 fi:PySem.W.findCls K (.ref C) (.type "type") m=some (.val (.ref f))
section
variable{X:Cx}{CX:CXT}{k:Nat}{f C:Addr}{fd:FuncData}{ps ks:List Str}{sp:Sp}{dvs:List V}{ds:List Value}{E:XK}{x m:Str}{p pos apos:Pos}{e o:Expr}{es:List Expr}{ta:TE}{t tk:TA}{kws:List Keyword}
def oG{pl:Sem Bool}(Z:ajp X.K C m f)(F:jK X.prog X.w X.K X.mg X.base CX k f fd ps sp)(hr:qW k X.A)(hg:Gl X x)(hm:X.mg x=some (.ref C))(hk:PySem.W.keepIn X.K (.ref f)=true)(hb:Binds X.K fd ps ds)(hd:Vals dvs ds)(hx:Ah CX X E)
  (ha:PA X (e::es) t) (z:(x==("__debug__" :Str))=false:=by decide) (he:starEach (e::es) X.env=(false,eval e X.env)::starEach es X.env:=by rfl) (hpl:(backTo pos (starEach es X.env)).any (·.1)=false:=by rfl)
  (ht:eval (.Call (.Attribute (.Name x p) m apos) (e::es) [] pos) X.env=(do
   let ov<-eval (.Name x p) X.env
   standAt apos.atName
   let(f,first)<-holding [ov] (getMethod ov m pl)
   callWith pos f first (backTo pos (starEach (e::es) X.env)) (backToKw pos (keywordEach [] X.env))):=by rfl):
  PE X (.Call (.Attribute (.Name x p) m apos) (e::es) [] pos) (aao sp dvs E t):=by
 intro pins s σ H Q I h;refine zzp (pl:=pl) (JG I hg hm ?_ z) ht;refine PySem.W.method_cls I.kIn Z.ga (PySem.W.cls_value I.kIn Z.rd Z.fi rfl ?_);have I':Inv X pins σ H {s with toks:=s.toks+1}:=I.tok _;refine zzd (first:=[]) (h₀:=X.base) I.ok.mod.kin hk (thn (ha pos pins _ σ H _ I' h) λus s1 ⟨vs,H1,I1,r,q⟩=>⟨I1.kIn,?_⟩) he hpl;exact Tw F hr hb hd hx I1 r q
inductive XJ(X:Cx)(CX:CXT)(m:Str):List (Addr×Sp)->Prop
 |nil:XJ X CX m []
 |cons {C f:Addr} {fd:FuncData} {ps:List Str} {sp:Sp} {k:Nat} {r:List (Addr×Sp)} (c:Cls X.K C) (hm:Meth X.K C m f) (F:jK X.prog X.w X.K X.mg X.base CX k f fd ps sp) (hr:qW k X.A) (hb:Binds X.K fd ps []) (t:XJ X CX m r):XJ X CX m ((C,sp)::r)
def XJ.get{tab:List (Addr×Sp)}(T:XJ X CX m tab){C:Addr}{sp:Sp}(h:(C,sp)∈tab):∃f fd ps k,Cls X.K C/\Meth X.K C m f/\jK X.prog X.w X.K X.mg X.base CX k f fd ps sp/\qW k X.A/\Binds X.K fd ps []:=by
 induction T with
 |nil=>cases h
 |cons c hm F hr hb t ih=>
  rcases zv.mp h with z|z
  ·cases z
   exact⟨_,_,_,_,c,hm,F,hr,hb⟩
  ·exact ih z
noncomputable def Oc(tab:List (Addr×Sp))(m:Str)(E:XK)(ta:TE)(t:TA):TE:=λσ H Q=>ta σ H λx H1=>∃a C dx fs sp,x=.ref a/\H1 a=some (.ins C dx fs)/\(C,sp)∈tab/\fs.lookup m=none/\t σ H1 λvs H2=>sp (x::vs) H2 Q E
def ZR{pl:Sem Bool}{tab:List (Addr×Sp)}(he:PE X o ta)(T:XJ X CX m tab)(hx:Ah CX X E)(ha:PA X (e::es) t)
  (aa:starEach (e::es) X.env=(false,eval e X.env)::starEach es X.env:=by rfl) (hpl:(backTo pos (starEach es X.env)).any (·.1)=false:=by rfl)
  (ht:eval (.Call (.Attribute o m apos) (e::es) [] pos) X.env=(do
   let ov<-eval o X.env
   standAt apos.atName
   let(f,first)<-holding [ov] (getMethod ov m pl)
   callWith pos f first (backTo pos (starEach (e::es) X.env)) (backToKw pos (keywordEach [] X.env))):=by rfl):
  PE X (.Call (.Attribute o m apos) (e::es) [] pos) (Oc tab m E ta t):=by
 intro pins s σ H Q I h;refine zzp (pl:=pl) (thn (he pins s σ H _ I h) λu s1 ⟨y,H1,I1,rx,a,C,dx,fs,sp,ex,ea,z,l,q⟩=>?_) ht;subst ex;obtain rfl:u=Value.ref a:=rx;obtain⟨f,fd,ps,k,c,hm,F,hr,hb⟩:=T.get z;refine Lw I1 ea c hm l ?_;refine zzd (first:=[.ref a]) (h₀:=X.base) I.ok.mod.kin hm.kp (thn (ha pos pins s1 σ H1 _ I1 q) λus s2 ⟨vs,H2,I2,r,q2⟩=>⟨I2.kIn,?_⟩) aa hpl;exact Tw (us:=.ref a::us) (vs:=.ref a::vs) (dvs:=[]) (ds:=[]) F hr hb .nil hx I2 (.cons rfl r) (by rw[yn];exact q2)
def XQ{pl:Sem Bool}{tab:List (Addr×Sp)}(he:PE X o ta)(T:XJ X CX m tab)(hx:Ah CX X E)
  (ht:eval (.Call (.Attribute o m apos) [] [] pos) X.env=(do
   let ov<-eval o X.env
   standAt apos.atName
   let(f,first)<-holding [ov] (getMethod ov m pl)
   callWith pos f first (backTo pos (starEach [] X.env)) (backToKw pos (keywordEach [] X.env))):=by rfl):
  PE X (.Call (.Attribute o m apos) [] [] pos) (Oc tab m E ta Wx):=by
 intro pins s σ H Q I h;refine zzp (pl:=pl) (thn (he pins s σ H _ I h) λu s1 ⟨y,H1,I1,rx,a,C,dx,fs,sp,ex,ea,z,l,q⟩=>?_) ht;subst ex;obtain rfl:u=Value.ref a:=rx;obtain⟨f,fd,ps,k,c,hm,F,hr,hb⟩:=T.get z;refine Lw I1 ea c hm l ?_;exact PySem.W.callWith_K0 (first:=[.ref a]) I1.kIn hm.kp (Tw (us:=[.ref a]) (vs:=[.ref a]) (dvs:=[]) (ds:=[]) F hr hb .nil hx I1 (.cons rfl .nil) q)
variable{g:List Value->List Value->List Value}{gV:List V->List V->List V}
end
theorem xU(f:Str)(v:V):∀{fs:List (Str×V)},(fs.map (·.1)).contains f=false->Ez f v fs=fs++[(f,v)]
 |[],_=>rfl
 |(g,x)::r,h=>by
  rw[zi,List.contains_cons]at h;have h1:¬g=f:=λe=>by rw[e]at h;simp at h
  have h2:(r.map (·.1)).contains f=false:=(Bool.or_eq_false_iff.mp h).2;show(if g=f then(g,v)::r else(g,x)::Ez f v r)=_;rw[zc h1,xU f v h2];rfl
structure Oo(K:Fg_)(C:Addr):Prop where
 cl:Cls K C
 ha:PySem.W.findIn K (.ref C) "__class__" =some (some (.builtin "object.__class__"))
 hn:PySem.W.specialIn K (.builtin "object.__class__") "__get__" =some (some (.builtin "getset_descriptor.__get__"))
 htk:PySem.W.takesIn K (.builtin "object.__class__")=some true
 hm:PySem.W.mroIn K C (.type "object")=some true
def Oo.of{K:Fg_}{C a dx:Addr}{H:Hp}{fs:List (Str×V)}(z:Oo K C)(h:H a=some (.ins C dx fs)):Kd K H (.ref a) (.ref C):=.ins h z.cl z.ha z.hn z.htk z.hm
end L2
namespace L2
open PySem PySem.Spec PyProof.Rows
noncomputable def signs(x:Str):List V:=x.cps.toList.map λc=>V.str ⟨#[c]⟩
noncomputable def ajI(x:Str):It:=⟨λi _=>i<x.cps.size,λi H v H'=>H'=H/\(signs x)[i]? =some v,λi _=>x.cps.size<=i⟩
def aam{P:Program}{w:World}{K:Fg_}{tg:Expr}{ty:String}(ab:ty= "str_ascii_iterator" \/ty= "str_iterator") (it:Addr) (x:Str) (t:Tok):Turn P w K tg (ajI x) [it] it (λi h=>h.IsStrIter it ty x t i) where
 mem:=by simp
 obj:=λi h st b hb=>by
  have e:b=it:=by simpa using hb
  subst e;obtain⟨o,e,c,d⟩:=st;exact⟨o,e,λv z=>by rw[d]at z;cases z⟩
 keep:=λi h h' st k=>by
  obtain⟨o,e,r⟩:=st;exact⟨o,k it (by simp) o e,r⟩
 item:=by
  intro X hP hw hK hc i pins s σ H E I hf st hg;subst hP hw hK;have hi:i<x.cps.size:=hg;have hx:x.cps[i]? =some x.cps[i]:=y8 hi
  have hs:(signs x)[i]? =some (.str ⟨#[x.cps[i]]⟩):=by
   unfold signs;rw[zf,yG,hx];rfl
  rcases ab with rfl|rfl
  ·refine wpAny_pyNext_ascii_item st hx λh' aa sb=>?_
   obtain⟨o,e,c,d⟩:=id aa;exact⟨_,rfl,Uu (s:={s with heap:=h',toks:=s.toks+1}) e c d (by decide) ⟨.str ⟨#[x.cps[i]]⟩,H,I.turnedN hf λb o hb q=>(sb.2 b (by simpa using hb)).trans q,⟨_,rfl⟩,⟨rfl,hs⟩,aa,λb hb=>(hf b hb).1⟩⟩
  ·refine wpAny_pyNext_wide_item st hx λh' aa sb=>?_
   obtain⟨o,e,c,d⟩:=id aa;exact⟨_,rfl,Uu (s:={s with heap:=h',toks:=s.toks+1}) e c d (by decide) ⟨.str ⟨#[x.cps[i]]⟩,H,I.turnedN hf λb o hb q=>(sb.2 b (by simpa using hb)).trans q,⟨_,rfl⟩,⟨rfl,hs⟩,aa,λb hb=>(hf b hb).1⟩⟩
 done:=by
  intro X hP hw hK hc i pins s σ H E I hf st hg;subst hP hw hK;have hx:x.cps[i]? =none:=Array.getElem?_eq_none hg;rcases ab with rfl|rfl
  ·exact wpAny_pyNext_ascii_end (I.ok.hd hc) st hx λh' eb=>⟨rfl,I.turnedN (t':=s.toks) hf λb o hb q=>eb b o (by simpa using hb) q⟩
  ·exact wpAny_pyNext_wide_end (I.ok.hd hc) st hx λh' eb=>⟨rfl,I.turnedN (t':=s.toks) hf λb o hb q=>eb b o (by simpa using hb) q⟩
 self:=λ_ _ _ _ _ st h=>by
  rcases ab with rfl|rfl
  ·exact wpAny_pyIter_striter_ascii st h
  ·exact wpAny_pyIter_striter_wide st h
section
variable{X:Cx}{K:Fg_}{tg:Expr}
noncomputable def alW(tl:TE):TI:=λσ H R=>tl σ H λx H1=>∃z,x=.str z/\R (ajI z) H1
def akI{l:Expr}{tl:TE}(hl:PE X l tl):PI X tg l (alW tl):=by
 intro pins s σ H R I h;refine thn (hl pins s σ H _ I h) λv s1 ⟨x,H1,I1,r1,q1⟩=>?_;obtain⟨z,e,q⟩:=q1;subst e;obtain⟨t,rfl⟩:=r1
 have aa:∀(ty:String)(ab:ty= "str_ascii_iterator" \/ty= "str_iterator"),PIE X pins σ tg R (.ref s1.heap.objs.size) {s1 with heap:=s1.heap.push {cls:=.type ty,data:=.fields #[.str z t,.int 0 0]}}:=λty ab=>by
  refine⟨s1.heap.objs.size,[s1.heap.objs.size],_,_,H1,rfl,I1.kept (t':=s1.toks) λb o e=>zb _ e,aam ab _ z t,⟨_,zA _ rfl,rfl,rfl⟩,λb hb=>?_,q⟩;have e:b=s1.heap.objs.size:=by simpa using hb
  subst e;exact I1.fpOk (zm _) (I1.hok.fresh (zm _))
 cases ha:z.cps.all (·<128)
 ·exact wpAny_pyIter_wide ha (aa _ (.inr rfl))
 ·exact wpAny_pyIter_ascii ha (aa _ (.inl rfl))
variable{σ:St}{H:Hp}{R:It->Hp->Prop}{tl:TE}{cap:List (Option Nat)}{g:TG}{tt:TT}{te:TE}{Q:VK}{x:Str}
def ap_iStr:alW tl σ H R=tl σ H λx H1=>∃z,x=.str z/\R (ajI z) H1:=rfl
def lq.str(Sσ:St->Prop)(p:V->Bool)(F:V->V)(h0:Sσ (qi σ cap))(hz:x.cps.size<=sizeLine)
  (hs:∀y∈signs x,∀(σ:St)(H5:Hp)(R1:St->VK)(R2:St->Hp->Prop),Sσ σ->Same H H5->(p y=true->∀q H6,Sσ q->Same H5 H6->R1 q (F y) H6)->(p y=false->∀q H6,Sσ q->Same H5 H6->R2 q H6)->
   g y σ H5 λq H4=>tt q H4 λb H5=>if b=true then te q H5 (R1 q)else R2 q H5)
  (k:∀D H',H D=Option.none->Same H H'->H' D=some (.lst (((signs x).filter p).map F))->Q (.ref D) H'):lq cap (ajI x) g tt te σ H Q:=λD hD=>by
 have hl:(signs x).length=x.cps.size:=by simp[signs]
 refine DQ (xs:=signs x) (ajI x) Sσ p F hD h0 (by omega) (λi y H' hy sm=>?_) (λH' sm=>?_) hs λH' s e=>k D H' hD s e
 ·have hi:i<(signs x).length:=(zp.mp hy).1
  exact⟨by show i<x.cps.size;omega,λz H2 hz=>⟨zw (hz.2.symm.trans hy),hz.1⟩⟩
 ·show x.cps.size<=_
  omega
noncomputable def alJ:R2:=λx y H Q=>∃i j,x=.str i/\y=.str j/\Q (.bl (!decide (j.cps.toList<i.cps.toList))) H
def PB:OpR X (compareOp .LtE) alJ:=by
 intro pins s σ H x y v u Q I z ry h;obtain⟨i,j,rfl,rfl,q⟩:=h;obtain⟨t,rfl⟩:=z;obtain⟨t',rfl⟩:=ry;exact PySem.P.le_str ⟨.bl _,H,I,rfl,q⟩
noncomputable def Sg:List V->Hp->VK->Prop:=λxs H Q=>∃a kvs,xs=[.ref a]/\Rd H a (.dK kvs)/\∀p,H p=none->Q (.ref p) (upd H p (.dK kvs))
def Jp:nH X (.type "dict") Sg:=by
 intro pins s σ H xs us Q I r h;obtain⟨a,kvs,rfl,e,q⟩:=h;obtain⟨u,rfl,z⟩:=vals1 r;cases z;exact Zr I e λp s' hp I'=>⟨.ref p,_,I',rfl,q p hp⟩
def aip{o value:Expr}{f:Str}{ta tv:TE}{pos pos':Pos}(ha:PE X o ta)(hv:PE X value tv)(z:swapsWith value (some (.Attribute o f pos')) pos.line X.env=pure false)(q:X.K=K:=by rfl):PS X (.Assign [.Attribute o f pos'] value pos) (akz K ta tv f):=q▸ajC ha hv z
variable{ta tv ty td tx:TE}{f:Str}{D:Ends}{C:Addr}{tab:List (Addr×Sp)}{m:Str}{E:XK}{t tk:TA}{sp:Sp}{dvs:List V}{gV:List V->List V->List V}
def ap_fldK:akf K ta f σ H Q=ta σ H λx H1=>∃a C dx fs v,x=.ref a/\H1 a=some (.ins C dx fs)/\Cls K C/\iZ K C f/\fs.lookup f=some v/\Q v H1:=rfl
def ap_sFld:akz K ta tv f D σ H=tv σ H λy H1=>ta σ H1 λx H2=>∃a C dx fs,x=.ref a/\H2 a=some (.ins C dx fs)/\Cls K C/\iZ K C f/\fs.length<1000/\D.nx σ (upd H2 a (.ins C dx (Ez f y fs))):=rfl
def ap_methD:Oc tab m E ta t σ H Q=ta σ H λx H1=>∃a C dx fs sp,x=.ref a/\H1 a=some (.ins C dx fs)/\(C,sp)∈tab/\fs.lookup m=none/\t σ H1 λvs H2=>sp (x::vs) H2 Q E:=rfl
def ap_make:akb C sp dvs E t σ H Q=t σ H λvs H1=>∀x dx,H1 x=none->H1 dx=none->dx≠x->sp (.ref x::(vs++dvs)) (upd (upd H1 dx (.own x)) x (.ins C dx [])) (λv H2=>v=.non/\Q (.ref x) H2) E:=rfl
def ap_dget2:aim td ty tx σ H Q=td σ H λx H1=>∃a,x=.ref a/\IsD H1 a/\ty σ H1 λy H2=>tx σ H2 λz q=>∃o,Yt q a y o/\Q (o.getD z) q:=rfl
def ap_dget:ajH td ty σ H Q=td σ H λx H1=>ty σ H1 λy H2=>∃a v,x=.ref a/\Yt H2 a y (some v)/\Q v H2:=rfl
def ap_dput:ajL td ty tv D σ H=tv σ H λv H1=>td σ H1 λx H2=>ty σ H2 λy z=>∃a q,x=.ref a/\alc z a y v q/\D.nx σ q:=rfl
def ap_dnewK:aaI σ H Q=∀p,H p=none->Q (.ref p) (upd H p (.dK [])):=rfl
def ap_dictOf{p:Addr}:Sg [.ref p] H Q=∃kvs,Rd H p (.dK kvs)/\∀q,H q=none->Q (.ref q) (upd H q (.dK kvs)):=by simp[Sg]
def ap_leS{i j:Str}:alJ (.str i) (.str j) H Q=Q (.bl (!decide (j.cps.toList<i.cps.toList))) H:=propext ⟨fun⟨i',j',z,e2,q⟩=>by cases z;cases e2;exact q,λq=>⟨i,j,rfl,rfl,q⟩⟩
def ap_rIsC{y:V}:ajx K [y,.ref C] H Q=∃t k,Kd K H y t/\PySem.W.kitOne K t (.ref C)=some k/\Q (.bl k) H:=propext ⟨fun⟨q,C',t,k,e,r⟩=>by cases e;exact⟨t,k,r⟩,fun⟨t,k,r⟩=>⟨y,C,t,k,rfl,r⟩⟩
def ap_ixT{x y:V}:aif K x y H Q=∃p xs i v,x=.ref p/\y=.int i/\SqT K H p xs/\atI xs i=some v/\Q v H:=rfl
def ap_lenS{z:Str}:(fun(xs:List V)(H:Hp)(Q:VK)=>∃z,xs=[V.str z]/\z.length<=sizeLine/\Q (.int z.length) H) [.str z] H Q=(z.length<=sizeLine/\Q (.int z.length) H):=propext ⟨fun⟨q,e,r⟩=>by cases e;exact r,λr=>⟨z,rfl,r⟩⟩
end
end L2
namespace L2
open PySem PySem.W PySem.Spec PyProof.Rows
section
variable{α β:Type}{lt:Nat->Nat->Bool}{n:Nat}
noncomputable def Kok(lt:Nat->Nat->Bool)(n:Nat)(R:α->Prop):KasT α->Prop
 |.ret a=>R a
 |.ask i j k=>i<n/\j<n/\Kok lt n R (k (lt i j))
theorem Kok.bind{R:α->Prop}{S:β->Prop}{f:α->KasT β}:∀{t:KasT α},Kok lt n R t->(∀a,R a->Kok lt n S (f a))->Kok lt n S (t.bind f)
 |.ret a,h,k=>k a h
 |.ask i j q,h,k=>⟨h.1,h.2.1,Kok.bind (t:=q (lt i j)) h.2.2 k⟩
theorem Kok.wp{R:α->Prop}{z:Nat->Nat->(Bool->Shared->Prop)->Shared->Prop}{s:Shared}{Q:α->Shared->Prop}(hc:∀i j (C:Bool->Shared->Prop),i<n->j<n->C (lt i j) s->z i j C s):
  ∀{t:KasT α},Kok lt n R t->(∀a,R a->Q a s)->t.kasWp z Q s
 |.ret a,h,k=>k a h
 |.ask i j q,h,k=>hc i j _ h.1 h.2.1 (Kok.wp hc (t:=q (lt i j)) h.2.2 k)
noncomputable def Prm(n:Nat)(p:Array Nat):Prop:=p.toList.Perm (List.range n)
def Prm.ltn{p:Array Nat}(h:Prm n p)(hn:0<n)(i:Nat):p.getD i 0<n:=by
 by_cases hi:i<p.size
 ·have hm:p.getD i 0∈p.toList:=by simp[Array.getD,hi]
  exact yu.mp (h.mem_iff.mp hm)
 ·simp[Array.getD,hi,hn]
def Prm.rev{p:Array Nat}(h:Prm n p)(i j:Nat):Prm n (kas_rev p i j):=(zzJ.mp (mirror_perm p i j _)).trans h
def Prm.bub{p:Array Nat}(h:Prm n p)(k d:Nat):Prm n (bubble p k d):=(zzJ.mp (bubble_perm p k d)).trans h
theorem Rq{p:Array Nat}(h:Prm n p)(hn:0<n):∀f m,Kok lt n (λ_=>True) (kas_asc p f m)
 |0,_=>trivial
 |f+1,m=>⟨Prm.ltn h hn _,Prm.ltn h hn _,by
  dsimp only;by_cases q:lt (p.getD m 0) (p.getD (m - 1) 0)=true
  ·rw[zg q];trivial
  ·rw[zc q];exact Rq h hn f (m+1)⟩
theorem GZ(hn:0<n):∀f {p:Array Nat} m q,Prm n p->Kok lt n (λr:Array Nat×Nat×Nat=>Prm n r.1) (kas_desc f p m q)
 |0,_,_,_,h=>h
 |f+1,p,m,q,h=>⟨Prm.ltn h hn _,Prm.ltn h hn _,by
  dsimp only;by_cases hc:lt (p.getD m 0) (p.getD (m - 1) 0)=true
  ·rw[zg hc]
   by_cases z:q>0
   ·rw[zg z];exact GZ hn f _ _ (h.rev _ _)
   ·rw[zc z];exact GZ hn f _ _ h
  ·rw[zc hc]
   refine⟨Prm.ltn h hn _,Prm.ltn h hn _,?_⟩;dsimp only;by_cases hd:lt (p.getD (m - 1) 0) (p.getD m 0)=true
   ·rw[zg hd];exact h
   ·rw[zc hd];exact GZ hn f _ _ h⟩
def Ua{p:Array Nat}(h:Prm n p)(hn:0<n)(m r:Nat):Kok lt n (λr:Nat×Array Nat=>Prm n r.2) (kas_tail3 m r p):=
 Kok.bind (Rq (h.rev _ _) hn _ _) λ_ _=>h.rev 0 m
def Uc{p:Array Nat}(h:Prm n p)(hn:0<n)(m r:Nat):Kok lt n (λr:Nat×Array Nat=>Prm n r.2) (kas_descPart m r p):=
 Kok.bind (GZ hn _ _ _ h) λa ha=>by
  by_cases q:a.2.2>0
  ·rw[zg q];exact Ua (ha.rev _ _) hn _ _
  ·rw[zc q];exact Ua ha hn _ _
def WQ{p:Array Nat}(h:Prm n p)(hn:0<n)(r:Nat):Kok lt n (λr:Nat×Array Nat=>Prm n r.2) (kas_count r p):=
 Kok.bind (Rq h hn _ _) λm _=>by
  by_cases h1:(m==r)=true
  ·rw[zg h1];exact h
  ·rw[zc h1]
   by_cases h2:m>1
   ·rw[zg h2]
    refine⟨Prm.ltn h hn _,Prm.ltn h hn _,?_⟩;dsimp only;by_cases q:lt (p.getD 0 0) (p.getD (m - 1) 0)=true
    ·rw[zg q];exact h
    ·rw[zc q];exact Uc (h.rev _ _) hn _ _
   ·rw[zc h2];exact Uc h hn _ _
theorem Jw{p:Array Nat}(h:Prm n p)(hn:0<n)(k:Nat):∀f l r,Kok lt n (λ_=>True) (kas_place p k f l r)
 |0,_,_=>trivial
 |f+1,l,r=>by
  show Kok lt n _ (if l>=r then _ else _);by_cases h1:l>=r
  ·rw[zg h1];trivial
  ·rw[zc h1]
   refine⟨Prm.ltn h hn _,Prm.ltn h hn _,?_⟩;dsimp only;by_cases q:lt (p.getD k 0) (p.getD ((l+r)/2) 0)=true
   ·rw[zg q];exact Jw h hn k f _ _
   ·rw[zc q];exact Jw h hn k f _ _
theorem Xp(hn:0<n):∀f {p:Array Nat} k,Prm n p->Kok lt n (Prm n) (kas_bin f p k)
 |0,_,_,h=>h
 |f+1,p,k,h=>Kok.bind (Jw h hn k k 0 k) λl _=>Xp hn f _ (h.bub _ _)
def Zw(hn:0<n):Kok lt n (Prm n) (kas_sort n):=
 Kok.bind (WQ (p:=(List.range n).toArray) (by unfold Prm;simp) hn n) λa ha=>by
  by_cases h1:a.1<n
  ·rw[zg h1];exact Xp hn _ _ ha
  ·rw[zc h1];exact ha
end
section
variable{key:Nat->Int}{n:Nat}
noncomputable def Up(key:Nat->Int)(p:Array Nat)(m:Nat):Prop:=∀a b,a<b->b<m->key (p.getD a 0)<key (p.getD b 0)
noncomputable def Dn(key:Nat->Int)(p:Array Nat)(m:Nat):Prop:=∀a b,a<b->b<m->key (p.getD b 0)<key (p.getD a 0)
def uJ(p:Array Nat)(k:Nat):p.getD k 0=(p[k]?).getD 0:=by
 by_cases h:k<p.size
 ·simp[Array.getD,h]
 ·simp[Array.getD,h]
theorem Prm.size{p:Array Nat}(h:Prm n p):p.size=n:=by
 have:=h.length_eq
 simpa using this
def Prm.unlike{p:Array Nat}(h:Prm n p)(hk:∀i j,i<n->j<n->key i=key j->i=j){a b:Nat}(ha:a<n)(hb:b<n)(z:a≠b):key (p.getD a 0)≠key (p.getD b 0):=λe=>by
 have q:=h.size;have hn:0<n:=by omega
 have e1:=hk _ _ (h.ltn hn a) (h.ltn hn b) e;have aa:p.toList.Nodup:=h.nodup_iff.mpr List.nodup_range
 have e2:p.toList[a]'(by simpa [q] using ha)=p.toList[b]'(by simpa [q] using hb):=by
  have q1:p.getD a 0=p[a]'(by omega):=by simp[Array.getD,q,ha]
  have q2:p.getD b 0=p[b]'(by omega):=by simp[Array.getD,q,hb]
  rw[q1,q2]at e1
  simpa using e1
 exact z ((zzX aa).mp e2)
def Xm{p:Array Nat}{i j:Nat}(q:j<=p.size)(k:Nat):(kas_rev p i j).getD k 0=if i<=k/\k<j then p.getD (i+j - 1 - k) 0 else p.getD k 0:=by
 unfold kas_rev;rw[uJ,getElem?_mirror_all q];by_cases c:i<=k/\k<j
 ·rw[zg c,zg c,uJ]
 ·rw[zc c,zc c,uJ]
def Wn{p:Array Nat}{k l:Nat}(hk:k<p.size)(hl:l<=k)(a:Nat):(bubble p k (k - l)).getD a 0=if a=l then p.getD k 0 else if l<a/\a<=k then p.getD (a - 1) 0 else p.getD a 0:=by
 rw[uJ,getElem?_bubble hk (k - l) (by omega),show k - (k - l)=l by omega];by_cases z:a=l
 ·rw[zg z,zg z,uJ]
 ·rw[zc z,zc z]
  by_cases q:l<a/\a<=k
  ·rw[zg q,zg q,uJ]
  ·rw[zc q,zc q,uJ]
theorem Kok.mono{α:Type}{lt:Nat->Nat->Bool}{R S:α->Prop}(h:∀a,R a->S a):∀{t:KasT α},Kok lt n R t->Kok lt n S t
 |.ret a,q=>h a q
 |.ask i j k,q=>⟨q.1,q.2.1,Kok.mono h q.2.2⟩
def Up.snoc{p:Array Nat}{m:Nat}(h:Up key p m)(h1:1<=m)(z:key (p.getD (m - 1) 0)<key (p.getD m 0)):Up key p (m+1):=λa b q hb=>by
 by_cases e:b=m
 ·subst e
  by_cases e2:a=b - 1
  ·subst e2;exact z
  ·exact zz5 (h a (b - 1) (by omega) (by omega)) z
 ·exact h a b q (by omega)
def Dn.snoc{p:Array Nat}{m:Nat}(h:Dn key p m)(h1:1<=m)(z:key (p.getD m 0)<key (p.getD (m - 1) 0)):Dn key p (m+1):=λa b q hb=>by
 by_cases e:b=m
 ·subst e
  by_cases e2:a=b - 1
  ·subst e2;exact z
  ·exact zz5 z (h a (b - 1) (by omega) (by omega))
 ·exact h a b q (by omega)
theorem ajq(hk:∀i j,i<n->j<n->key i=key j->i=j){p:Array Nat}(h:Prm n p):∀f m,1<=m->m+f<=n->Up key p m->
  Kok (λi j=>decide (key i<key j)) n (λr=>m<=r/\r<=m+f/\Up key p r/\(r<m+f->key (p.getD r 0)<key (p.getD (r - 1) 0))) (kas_asc p f m)
 |0,m,h1,h2,hu=>⟨zm _,zm _,hu,λz=>absurd z (by omega)⟩
 |f+1,m,h1,h2,hu=>⟨Prm.ltn h (by omega) _,Prm.ltn h (by omega) _,by
  dsimp only;by_cases q:key (p.getD m 0)<key (p.getD (m - 1) 0)
  ·rw[zg (by simpa using q)]
   exact⟨zm _,by omega,hu,λ_=>q⟩
  ·rw[zc (by simpa using q)]
   have aa:=h.unlike hk (show m - 1<n by omega) (show m<n by omega) (by omega);refine Kok.mono (λr hr=>?_) (ajq hk h f (m+1) (by omega) (by omega) (hu.snoc h1 (by omega)));exact⟨by omega,by omega,hr.2.2.1,λz=>hr.2.2.2 (by omega)⟩⟩
theorem ail(hk:∀i j,i<n->j<n->key i=key j->i=j){p:Array Nat}(h:Prm n p):∀f m,1<=m->m+f<=n->Dn key p m->
  Kok (λi j=>decide (key i<key j)) n (λr:Array Nat×Nat×Nat=>r.1=p/\r.2.2=0/\m<=r.2.1/\r.2.1<=m+f/\Dn key p r.2.1) (kas_desc f p m 0)
 |0,m,h1,h2,hu=>⟨rfl,rfl,zm _,zm _,hu⟩
 |f+1,m,h1,h2,hu=>⟨Prm.ltn h (by omega) _,Prm.ltn h (by omega) _,by
  dsimp only;by_cases z:key (p.getD m 0)<key (p.getD (m - 1) 0)
  ·rw[zg (by simpa using z),zc (by omega)]
   refine Kok.mono (λr q=>?_) (ail hk h f (m+1) (by omega) (by omega) (hu.snoc h1 z));exact⟨q.1,q.2.1,by omega,by omega,q.2.2.2.2⟩
  ·rw[zc (by simpa using z)]
   have aa:=h.unlike hk (show m - 1<n by omega) (show m<n by omega) (by omega);refine⟨Prm.ltn h (by omega) _,Prm.ltn h (by omega) _,?_⟩;dsimp only;rw[zg (zD (by omega))];exact⟨rfl,rfl,zm _,by show m<=_;omega,hu⟩⟩
def akc(z:∀i j,i<n->j<n->key i=key j->i=j){p:Array Nat}(h:Prm n p){m:Nat}(h1:1<=m)(h2:m<=n)(hd:Dn key p m):
  Kok (λi j=>decide (key i<key j)) n (λr:Nat×Array Nat=>Prm n r.2/\1<=r.1/\r.1<=n/\Up key r.2 r.1) (kas_tail3 m n p):=by
 have hs:=h.size
 have hu:Up key (kas_rev p 0 m) m:=λa b aa hb=>by
  rw[Xm (by omega),Xm (by omega),zg (by omega),zg (by omega)];exact hd _ _ (by omega) (by omega)
 refine Kok.bind (ajq z (h.rev 0 m) (n - m) m h1 (by omega) hu) λr q=>?_;exact⟨h.rev 0 m,by show 1<=r;omega,by show r<=n;omega,q.2.2.1⟩
def ajU(hk:∀i j,i<n->j<n->key i=key j->i=j){p:Array Nat}(h:Prm n p){m:Nat}(h2:m+1<=n)(hd:Dn key p (m+1)):
  Kok (λi j=>decide (key i<key j)) n (λr:Nat×Array Nat=>Prm n r.2/\1<=r.1/\r.1<=n/\Up key r.2 r.1) (kas_descPart m n p):=by
 refine Kok.bind (ail hk h (n - (m+1)) (m+1) (by omega) (by omega) hd) λr hr=>?_;obtain⟨r1,r2,r3⟩:=r;obtain⟨e1,q,e3,e4,z⟩:=hr;dsimp only at e1 q e3 e4 z⊢;subst e1 q;rw[zc (by omega)];exact akc hk h (by omega) (by omega) z
def aja(hk:∀i j,i<n->j<n->key i=key j->i=j){p:Array Nat}(h:Prm n p)(hn:1<=n):
  Kok (λi j=>decide (key i<key j)) n (λr:Nat×Array Nat=>Prm n r.2/\1<=r.1/\r.1<=n/\Up key r.2 r.1) (kas_count n p):=by
 refine Kok.bind (ajq hk h (n - 1) 1 (by omega) (by omega) λa b h1 h2=>absurd h1 (by omega)) λm hm=>?_;obtain⟨z,m2,q,m4⟩:=hm;by_cases h1:(m==n)=true
 ·rw[zg h1]
  exact⟨h,z,by show m<=n;omega,q⟩
 ·rw[zc h1]
  have h1:m≠n:=by simpa using h1
  by_cases h2:m>1
  ·rw[zg h2]
   refine⟨Prm.ltn h (by omega) _,Prm.ltn h (by omega) _,?_⟩;dsimp only;have:=q 0 (m - 1) (by omega) (by omega);rw[zg (by simpa using this)];exact⟨h,z,by show m<=n;omega,q⟩
  ·rw[zc h2]
   have e:m=1:=by omega
   subst e
   exact ajU hk h (by omega) λa b aa hb=>by
    have:a=0:=by omega
    have:b=1:=by omega
    subst a b;exact m4 (by omega)
theorem Rw{p:Array Nat}(h:Prm n p){k:Nat}(q:k<n)(hu:Up key p k):∀f l r,l<=r->r<=k->r - l<=f->(∀a,a<l->key (p.getD a 0)<=key (p.getD k 0))->(∀a,r<=a->a<k->key (p.getD k 0)<key (p.getD a 0))->
  Kok (λi j=>decide (key i<key j)) n (λl'=>l'<=k/\(∀a,a<l'->key (p.getD a 0)<=key (p.getD k 0))/\(∀a,l'<=a->a<k->key (p.getD k 0)<key (p.getD a 0))) (kas_place p k f l r)
 |0,l,r,h1,h2,h3,ha,hb=>⟨by omega,ha,λa q1 z=>hb a (by omega) z⟩
 |f+1,l,r,h1,h2,h3,ha,hb=>by
  show Kok _ n _ (if l>=r then _ else _);by_cases hc:l>=r
  ·rw[zg hc]
   exact⟨by omega,ha,λa q1 z=>hb a (by omega) z⟩
  ·rw[zc hc]
   refine⟨Prm.ltn h (by omega) _,Prm.ltn h (by omega) _,?_⟩;dsimp only;by_cases hd:key (p.getD k 0)<key (p.getD ((l+r)/2) 0)
   ·rw[zg (by simpa using hd)]
    refine Rw h q hu f _ _ (by omega) (by omega) (by omega) ha λa q1 z=>?_;by_cases e:a=(l+r)/2
    ·rw[e];exact hd
    ·exact zz5 hd (hu _ _ (by omega) z)
   ·rw[zc (by simpa using hd)]
    refine Rw h q hu f _ _ (by omega) (by omega) (by omega) (λa q1=>?_) hb;by_cases e:a=(l+r)/2
    ·rw[e];omega
    ·have:=hu a ((l+r)/2) (by omega) (by omega)
     omega
theorem ajP(hk:∀i j,i<n->j<n->key i=key j->i=j):∀f {p:Array Nat} k,Prm n p->k+f=n->Up key p k->Kok (λi j=>decide (key i<key j)) n (λp'=>Prm n p'/\Up key p' n) (kas_bin f p k)
 |0,p,k,h,e,hu=>⟨h,by rwa [<-e]⟩
 |f+1,p,k,h,e,hu=>by
  refine Kok.bind (Rw h (by omega) hu k 0 k (by omega) (by omega) (by omega) (λa q=>absurd q (by omega)) (λa q1 q2=>absurd q2 (by omega))) λl hl=>?_;obtain⟨l1,l2,l3⟩:=hl;have hs:=h.size;refine ajP hk f (k+1) (h.bub _ _) (by omega) λa b aa hb=>?_
  have z:∀x,x<l->key (p.getD x 0)<key (p.getD k 0):=λx hx=>by
   have:=l2 x hx;have:=h.unlike hk (show x<n by omega) (show k<n by omega) (by omega);omega
  rw[Wn (by omega) l1,Wn (by omega) l1];by_cases c1:a=l
  ·rw[zg c1,zc (by omega),zg (by omega)]
   exact l3 _ (by omega) (by omega)
  ·rw[zc c1]
   by_cases c2:b=l
   ·rw[zc (by omega),zg c2]
    exact z _ (by omega)
   ·rw[zc c2]
    by_cases c3:l<a
    ·rw[zg (by omega),zg (by omega)]
     exact hu _ _ (by omega) (by omega)
    ·rw[zc (by omega)]
     by_cases c4:l<b
     ·rw[zg (by omega)]
      by_cases c5:b - 1=a
      ·omega
      ·exact hu _ _ (by omega) (by omega)
     ·rw[zc (by omega)]
      exact hu _ _ aa (by omega)
def ajQ(q:∀i j,i<n->j<n->key i=key j->i=j)(hn:1<=n):Kok (λi j=>decide (key i<key j)) n (λp=>Prm n p/\Up key p n) (kas_sort n):=
 Kok.bind (aja q (p:=(List.range n).toArray) (by unfold Prm;simp) hn) λa ha=>by
  obtain⟨a1,a2,a3,a4⟩:=ha;by_cases h1:a.1<n
  ·rw[zg h1,show max a.1 1=a.1 by omega]
   exact ajP q _ _ a1 (by omega) a4
  ·rw[zc h1]
   have e:a.1=n:=by omega
   exact⟨a1,by rwa [e]at a4⟩
end
section
variable{n:Nat}{lt:Nat->Nat->Bool}
theorem Tq{p q:Nat->Bool}:∀{l:List Nat}{i:Nat},i∈l->(∀x∈l,p x=true->q x=true)->p i=false->q i=true->l.countP p<l.countP q
 |[],_,h,_,_,_=>by cases h
 |a::l,i,h,hpq,hp,hq=>by
  rw[List.countP_cons,List.countP_cons];have hm:l.countP p<=l.countP q:=List.countP_mono_left λx hx=>hpq x (zt _ hx);rcases zv.mp h with rfl|h
  ·rw[hp,hq]
   simp;omega
  ·have ih:=Tq h (λx hx=>hpq x (zt _ hx)) hp hq
   have:=hpq a zk
   cases z:p a with
   |true=>rw[this z];simp;exact ih
   |false=>simp;split<;>omega
theorem Kok.congr{α:Type}{z:Nat->Nat->Bool}{R:α->Prop}(h:∀i j,i<n->j<n->lt i j=z i j):∀{t:KasT α},Kok lt n R t->Kok z n R t
 |.ret a,q=>q
 |.ask i j k,q=>⟨q.1,q.2.1,h i j q.1 q.2.1▸Kok.congr h q.2.2⟩
def aiZ(ae:∀i,i<n->lt i i=false)(tr:∀i j k,i<n->j<n->k<n->lt i j=true->lt j k=true->lt i k=true)(ab:∀i j,i<n->j<n->i≠j->lt i j=true\/lt j i=true)(hn:1<=n):
  Kok lt n (λp=>Prm n p/\∀a b,a<b->b<n->lt (p.getD a 0) (p.getD b 0)=true) (kas_sort n):=by
 obtain⟨key,aa⟩:∃key:Nat->Int,∀i,key i=(((List.range n).countP λx=>lt x i:Nat):Int):=⟨_,λ_=>rfl⟩
 have up:∀i j,i<n->j<n->lt i j=true->key i<key j:=λi j hi hj h=>by
  rw[aa,aa];have:=Tq (p:=λx=>lt x i) (q:=λx=>lt x j) (l:=List.range n) (i:=i) (yu.mpr hi) (λx hx ac=>tr x i j (yu.mp hx) hi hj ac h) (ae i hi) h;omega
 have eq:∀i j,i<n->j<n->lt i j=decide (key i<key j):=λi j hi hj=>by
  cases h:lt i j with
  |true=>exact(zD (up i j hi hj h)).symm
  |false=>
   refine(zF λz=>?_).symm;by_cases e:i=j
   ·rw[e]at z;omega
   ·rcases ab i j hi hj e with t|t
    ·rw[h]at t;cases t
    ·have:=up j i hj hi t
     omega
 have hk:∀i j,i<n->j<n->key i=key j->i=j:=λi j hi hj e=>by
  by_cases h:i=j
  ·exact h
  ·rcases ab i j hi hj h with t|t
   ·have:=up i j hi hj t;omega
   ·have:=up j i hj hi t;omega
 refine Kok.congr (lt:=λi j=>decide (key i<key j)) (λi j hi hj=>(eq i j hi hj).symm) (Kok.mono (λp hp=>⟨hp.1,λa b ad hb=>?_⟩) (ajQ hk hn));rw[eq _ _ (hp.1.ltn (by omega) _) (hp.1.ltn (by omega) _)];exact zD (hp.2 a b ad hb)
end
noncomputable def vQ:List Int->List Int->Bool->Bool
 |x::xs,y::ys,f=>if x=y then vQ xs ys f else decide (x<y)
 |[],_,f=>f
 |_::_,[],f=>f
theorem RJ:∀a:List Int,vQ a a false=false
 |[]=>rfl
 |x::a=>by rw[vQ,zg rfl,RJ a]
theorem aia:∀{a b c:List Int},a.length=b.length->b.length=c.length->vQ a b false=true->vQ b c false=true->vQ a c false=true
 |[],_,_,_,_,h,_=>by simp[vQ]at h
 |x::a,[],_,h,_,_,_=>by simp at h
 |x::a,y::b,[],_,h,_,_=>by simp at h
 |x::a,y::b,z::c,h1,h2,h,h'=>by
  rw[vQ]at h h'⊢;by_cases e1:x=y
  ·subst e1
   rw[zg rfl]at h;by_cases q:x=z
   ·subst q
    rw[zg rfl]at h'⊢;exact aia (by simpa using h1) (by simpa using h2) h h'
   ·rw[zc q]at h'⊢
    exact h'
  ·rw[zc e1]at h
   have h:=z8 h;by_cases q:y=z
   ·subst q
    rw[zc e1];exact zD h
   ·rw[zc q]at h'
    have h':=z8 h';rw[zc (by omega)];exact zD (by omega)
theorem WN:∀{a b:List Int},a.length=b.length->a≠b->vQ a b false=true\/vQ b a false=true
 |[],[],_,h=>(h rfl).elim
 |[],y::b,h,_=>by simp at h
 |x::a,[],h,_=>by simp at h
 |x::a,y::b,h,hne=>by
  rw[vQ,vQ];by_cases e:x=y
  ·subst e
   rw[zg rfl,zg rfl];exact WN (by simpa using h) λz=>hne (by rw[z])
  ·rw[zc e,zc (Ne.symm e)]
   rcases Int.lt_or_gt_of_ne e with q|q
   ·exact .inl (zD q)
   ·exact .inr (zD q)
section
variable{P:Program}{w:World}{A:Around}{E:Value->Shared->Prop}{s:Shared}
theorem Sw{b f:Bool}{Q:Bool->Shared->Prop}:∀{ms ns:List Int}{xs ys:List Value},Vals (ms.map V.int) xs->Vals (ns.map V.int) ys->∀i,Q (vQ ms ns f) s->KatLex P w A b f Q (xs.zip ys) i s
 |[],_,_,_,r,_,i,h=>by
  cases r;exact h
 |m::ms,[],_,_,r,r',i,h=>by
  cases r';rw[List.zip_nil_right];exact h
 |m::ms,n::ns,_,_,r,r',i,h=>by
  rw[zi]at r r'
  cases r with
  |cons a1 a2=>
  cases r' with
  |cons b1 b2=>
  obtain⟨t,rfl⟩:=a1;obtain⟨t',rfl⟩:=b1;rw[zze];refine kat_cons (zz2 ?_);by_cases e:m=n
  ·rw[show(m==n)=true by simp[e]]
   refine kat_yes (Sw a2 b2 (i+1) ?_)
   rwa [vQ,zg e]at h
  ·rw[show(m==n)=false by simp[e]]
   refine kat_no ?_;rw[vQ,zc e]at h
   cases q:(b && i==0)with
   |true=>exact oneLt_int h
   |false=>exact kat_one _ _ (lt_int h)
theorem Eb{h:Heap}:∀{us:List Value},(∀v∈us,∃b o xs m i t,v=.ref b/\h.get? b=some o/\o.cls=.type "tuple" /\o.data=.seq xs m/\xs[0]? =some (Value.int i t))->
  ∃fs,KatTups h us fs/\fs.length=us.length/\∀f∈fs,∃i t,f=Value.int i t
 |[],_=>⟨[],trivial,rfl,λ_ h=>by cases h⟩
 |v::us,hv=>by
  obtain⟨b,o,xs,m,i,t,rfl,h1,h2,h3,h4⟩:=hv v (.head _);obtain⟨fs,q,z,k3⟩:=Eb (us:=us) λv hm=>hv v (.tail _ hm);exact⟨_::fs,KatTups.cons h1 h2 h3 h4 q,by rw[zM,zM,z],λf hf=>(zv.mp hf).elim (λe=>⟨i,t,e⟩) (k3 f)⟩
end
section
variable{X:Cx}
theorem CV:∀{ys:List V}{us:List Value}{i:Nat},Vals ys us->i<ys.length->RelV (ys.getD i .non) (us.getD i Value.none)
 |_,_,_,.nil,h=>by simp at h
 |_,_,0,.cons r _,_=>r
 |_,_,i+1,.cons _ t,h=>by
  simp only[List.getD_cons_succ];exact CV t (by simpa using h)
theorem Je{ys:List V}{us:List Value}(r:Vals ys us):∀{l:List Nat},(∀i∈l,i<ys.length)->Vals (l.map λi=>ys.getD i .non) (l.map λi=>us.getD i Value.none)
 |[],_=> .nil
 |i::l,h=> .cons (CV r (h i (.head _))) (Je r λj q=>h j (.tail _ q))
def Ih(ys:List V):((List.range ys.length).map λi=>ys.getD i V.non)=ys:=by
 refine zzv (by simp) λi h1 h2=>?_;simp[h2]
noncomputable def Uk(ys:List V)(ts:V->List Int)(p:Array Nat):Prop:=∀m,(∀y∈ys,(ts y).length=m)->(ys.map ts).Nodup->∀a b,a<b->b<ys.length->vQ (ts (ys.getD (p.getD a 0) .non)) (ts (ys.getD (p.getD b 0) .non)) false=true
def Wt{ys:List V}{ts:V->List Int}(hn:1<=ys.length):Kok (λi j=>vQ (ts (ys.getD i .non)) (ts (ys.getD j .non)) (decide ((ts (ys.getD i .non)).length<(ts (ys.getD j .non)).length))) ys.length (λp=>Prm ys.length p/\Uk ys ts p) (kas_sort ys.length):=by
 by_cases h:∃m,(∀y∈ys,(ts y).length=m)/\(ys.map ts).Nodup
 ·obtain⟨m,h1,h2⟩:=h
  have hm:∀i,i<ys.length->(ts (ys.getD i .non)).length=m:=λi hi=>h1 _ (by simp[hi])
  have z:∀i j,i<ys.length->j<ys.length->decide ((ts (ys.getD i .non)).length<(ts (ys.getD j .non)).length)=false:=λi j hi q=>by
   rw[hm i hi,hm j q];simp
  refine Kok.mono (λp hp=>⟨hp.1,λ_ _ _ a b ab hb=>?_⟩) (aiZ (n:=ys.length) (lt:=λi j=>vQ (ts (ys.getD i .non)) (ts (ys.getD j .non)) (decide ((ts (ys.getD i .non)).length<(ts (ys.getD j .non)).length))) (λi hi=>?_) (λi j k hi q hk h h'=>?_) (λi j hi q aa=>?_) hn)
  ·rw[z i i hi hi];exact RJ _
  ·rw[z i j hi q]at h
   rw[z j k q hk]at h';rw[z i k hi hk];exact aia ((hm i hi).trans (hm j q).symm) ((hm j q).trans (hm k hk).symm) h h'
  ·rw[z i j hi q,z j i q hi]
   refine WN ((hm i hi).trans (hm j q).symm) λe=>aa ?_;refine(zzj (by rw[za];exact hi) h2).mp ?_;rw[zf,zf,zh hi,zh q];have q1:ys.getD i .non=ys[i]:=by simp[hi]
   have q2:ys.getD j .non=ys[j]:=by simp[q]
   rw[q1,q2]at e;exact congrArg some e
  ·have:=hp.2 a b ab hb
   rwa [z _ _ (hp.1.ltn (by omega) _) (hp.1.ltn (by omega) _)]at this
 ·exact Kok.mono (λp hp=>⟨hp,λm h1 h2=>absurd ⟨m,h1,h2⟩ h⟩) (Zw hn)
end
noncomputable def But(D:Addr)(H H':Hp):Prop:=∀b u,b≠D->H b=some u->H' b=some u
section
variable{K:Fg_}{a:Addr}{xs:List V}{g:TG}{te:TE}{σ:St}{H:Hp}{Q:VK}{cap:List (Option Nat)}
def lq.listE(Sσ:St->Prop)(F:Nat->V->Hp->Prop)(hS:SqL K H a xs)(h0:Sσ (qi σ cap))(hz:xs.length<=sizeLine)
  (hs:∀D i x,xs[i]? =some x->∀(σ:St)(H5:Hp)(R:St->VK),Sσ σ->Same H H5->H D=Option.none->(∃acc,H5 D=some (.lst acc))->(∀v z H6,Sσ z->Same H5 H6->(∀H',But D H6 H'->F i v H')->R z v H6)->
   g x σ H5 λz H4=>te z H4 (R z))
  (k:∀D H' acc,H D=Option.none->Same H H'->H' D=some (.lst acc)->acc.length=xs.length->(∀i v,acc[i]? =some v->F i v H')->Q (.ref D) H'):lq cap (Itl K a) g Mp te σ H Q:=by
 intro D hD;refine⟨λi m acc σ H2=>m=xs.length - i/\i<=xs.length/\Sσ σ/\Same H H2/\acc.length=i/\∀j v,acc[j]? =some v->∀H',But D H2 H'->F j v H',⟨xs.length,rfl,zJ _,h0,iH hD,rfl,λj v e=>by simp at e⟩,?_⟩;rintro i m acc σ1 H2 ⟨rfl,hi,hσ,sm,ac,hF⟩ hA;by_cases ab:i<xs.length
 ·have hx:xs[i]? =some xs[i]:=by simp[ab]
  refine .inr ⟨⟨xs,xs[i],sm.seq hS,hx⟩,λy H3 hy=>?_⟩;obtain rfl:H3=H2:=hy.1;obtain rfl:y=xs[i]:=zw ((hy.2 xs (sm.seq hS)).symm.trans hx);simp only[ap_noIf,if_true];refine hs D i _ hx σ1 H3 _ hσ sm hD ⟨_,hA⟩ λv z H6 ah s6 ad=>?_;have ae:=s6 _ _ hA;refine⟨acc,ae,by omega,xs.length - (i+1),by omega,rfl,ab,ah,(sm.trans s6).upd hD,by rw[zB,ac];rfl,λj u hj H' hb=>?_⟩;have aa:But D H6 H':=λb o q e=>hb b o q ((iQ q).trans e);by_cases af:j<acc.length
  ·rw[z9 af]at hj
   exact hF j u hj H' λb o q e=>aa b o q (s6 _ _ e)
  ·rw[z7 (by omega)]at hj
   have ag:j - acc.length=0:=by
    have:=(zp.mp hj).1;simp at this;omega
   rw[ag]at hj;cases hj;obtain rfl:j=i:=by omega
   exact ad H' aa
 ·obtain rfl:i=xs.length:=by omega
  exact .inl ⟨⟨xs,sm.seq hS,zm _⟩,k D H2 acc hD sm hA ac λj v e=>hF j v e H2 λb o _ e=>e⟩
end
end L2
namespace L2
open PySem PySem.Spec PyProof.Rows
structure Mk0(K:Fg_)(C:Addr):Prop where
 makes:PySem.W.makesIn K C=true
 init:PySem.W.findIn K (.ref C) "__init__" =some (some (.builtin "object.__init__"))
 kp:PySem.W.keepIn K (.ref C)=true
noncomputable def akd(C:Addr):TE:=λ_ H Q=>∀x dx,H x=none->H dx=none->dx≠x->Q (.ref x) (upd (upd H dx (.own x)) x (.ins C dx []))
def ap_new0{C:Addr}{σ:St}{H:Hp}{Q:VK}:akd C σ H Q=∀x dx,H x=none->H dx=none->dx≠x->Q (.ref x) (upd (upd H dx (.own x)) x (.ins C dx [])):=rfl
def Mu{X:Cx}{C:Addr}{x:Str}{p pos:Pos}(M:Mk0 X.K C)(hg:Gl X x)(hm:X.mg x=some (.ref C))(z:(x==("__debug__" :Str))=false:=by decide):PE X (.Call (.Name x p) [] [] pos) (akd C):=by
 intro pins s σ H Q I h;refine yh (JG I hg hm ?_ z);have q:=h (s.heap.objs.size+1) s.heap.objs.size (I.hok.fresh (yp _)) (I.hok.fresh (zm _)) (zE (zzs _));have I2:=Inv.made (C:=C) I;have Y:=zzY (M:=model X.prog X.w) I.kIn M.makes;refine PySem.W.callWith_K0 I.kIn M.kp (zz6 (WR I.kIn M.makes M.init (λself=>PySem.W.Looks.of_pure (PySem.W.oi_bind self)) ?_))
 have g1:((s.heap.push PySem.W.emptyDict).push (PySem.W.instObj C s.heap.objs.size)).get? (s.heap.objs.size+1)=some (PySem.W.instObj C s.heap.objs.size):=by
  have e:=zA (s.heap.push PySem.W.emptyDict) (o:=PySem.W.instObj C s.heap.objs.size) rfl;rw[size_push']at e;exact e
 have t1:PySem.W.Looks (model X.prog X.w) ((s.heap.push PySem.W.emptyDict).push (PySem.W.instObj C s.heap.objs.size)) (typeOf (.ref (s.heap.objs.size+1))) (.ref C):=(PySem.W.Looks.ld g1).andThen .now;have t2:PySem.W.Looks (model X.prog X.w) ((s.heap.push PySem.W.emptyDict).push (PySem.W.instObj C s.heap.objs.size)) (isInstance (.ref (s.heap.objs.size+1)) (.type "object")) true:=t1.andThen (Y.top.keeps λb o e=>zb _ (zb _ e));refine codeAny_call_builtin PySem.W.oi_plain PySem.W.entry_oi (@PySem.W.check_slot (model X.prog X.w) _ _ _ "object.__init__" "object" "__init__" (.ref (s.heap.objs.size+1)) [] [] _ PySem.W.oi_kind PySem.W.oi_split t2 (PySem.W.oi_args _) ?_);rw[PySem.W.oi_run];exact zC ⟨rfl,.ref (s.heap.objs.size+1),_,I2,rfl,q⟩
section
variable{K:Fg_}{a b:Addr}{xs ys:List V}{g:TG}{te:TE}{σ:St}{H:Hp}{Q:VK}{cap:List (Option Nat)}
def lq.zipE(Sσ:St->Prop)(F:Nat->V->Hp->Prop)(hS:SqL K H a xs)(ab:SqL K H b ys)(aa:xs.length=ys.length)(h0:Sσ (qi σ cap))(hz:xs.length<=sizeLine)
  (hs:∀D i x y,xs[i]? =some x->ys[i]? =some y->∀(σ:St)(H5:Hp)(p:Addr)(R:St->VK),Sσ σ->Same H H5->H D=Option.none->(∃acc,H5 D=some (.lst acc))->H5 p=Option.none->
   (∀v σ4 H6,Sσ σ4->Same (upd H5 p (.tup [x,y])) H6->(∀H',But D H6 H'->F i v H')->R σ4 v H6)->g (.ref p) σ (upd H5 p (.tup [x,y])) λσ4 H4=>te σ4 H4 (R σ4))
  (k:∀D H' acc,H D=Option.none->Same H H'->H' D=some (.lst acc)->acc.length=xs.length->(∀i v,acc[i]? =some v->F i v H')->Q (.ref D) H'):lq cap (Itz K a b) g Mp te σ H Q:=by
 intro D hD;refine⟨λi m acc σ H2=>m=xs.length - i/\i<=xs.length/\Sσ σ/\Same H H2/\acc.length=i/\∀j v,acc[j]? =some v->∀H',But D H2 H'->F j v H',⟨xs.length,rfl,zJ _,h0,iH hD,rfl,λj v e=>by simp at e⟩,?_⟩;rintro i m acc σ1 H2 ⟨rfl,hi,hσ,sm,ae,hF⟩ hA;by_cases q:i<xs.length
 ·have hx:xs[i]? =some xs[i]:=by simp[q]
  have hy:ys[i]? =some (ys[i]'(aa▸q)):=by simp[aa▸q]
  refine .inr ⟨⟨xs,ys,_,_,sm.seq hS,sm.seq ab,hx,hy⟩,λv H3 hv=>?_⟩;obtain⟨p,x,y,hp,rfl,rfl,e1,e2⟩:=hv;have e1:=e1 xs (sm.seq hS);have e2:=e2 ys (sm.seq ab);simp only[ap_noIf,if_true];refine hs D i x y e1 e2 σ1 H2 p _ hσ sm hD ⟨_,hA⟩ hp λv σ4 H6 aj s6 af=>?_;have ac:=(iH (o:=.tup [x,y]) hp).trans s6;have ag:=ac _ _ hA;refine⟨acc,ag,by omega,xs.length - (i+1),by omega,rfl,q,aj,(sm.trans ac).upd hD,by rw[zB,ae];rfl,λj u hj H' hb=>?_⟩;have ad:But D H6 H':=λb o z e=>hb b o z ((iQ z).trans e);by_cases ah:j<acc.length
  ·rw[z9 ah]at hj
   exact hF j u hj H' λb o z e=>ad b o z (ac _ _ e)
  ·rw[z7 (by omega)]at hj
   have ai:j - acc.length=0:=by
    have:=(zp.mp hj).1;simp at this;omega
   rw[ai]at hj;cases hj;obtain rfl:j=i:=by omega
   exact af H' ad
 ·obtain rfl:i=xs.length:=by omega
  exact .inl ⟨⟨xs,ys,sm.seq hS,sm.seq ab,.inl (zm _)⟩,k D H2 acc hD sm hA ae λj v e=>hF j v e H2 λb o _ e=>e⟩
end
end L2
namespace PySem
open PySem.Spec PyProof.Rows
def Ph:typeLookup (.type "list") "keys" =pure none:=by rw[typeLookup_type,builtinLookup_eq_fast];kernel_rfl
section
variable{prog:Program}{w:World}{A:Around}{E:Value->Shared->Prop}{a:Addr}{xs:Array Value}{k:Nat}{s:Shared}
def aiv{Q:Option Value->Shared->Prop}{sl:Array (Option Value)}(hx:s.heap.get? a=some {cls:=.type "list",dict:=none,data:=.seq xs k,slots:=sl}) (hA:A.handled=none)
  (hq:∀h' tk,(∀b u,s.heap.get? b=some u->h'.get? b=some u)->Q none {s with heap:=h',toks:=tk}):wpAny (model prog w) A (getAttr? (.ref a) "keys") Q E s:=by
 obtain⟨hp,g,d,tk,os⟩:=s;have hT:∀q,(⟨hp,g,d,q,os⟩:Shared).TypeIs (.ref a) "list" :=λ_=>⟨_,hx,rfl⟩;have f1:=sub_AttributeError;have f3:=F.slot_list_getattribute.lookup;have f4:=F.slot_list_getattribute.bind (.ref a);have f5:=am_list_getattr_none;unfold getAttr? getAttrBy? getAttrBy
 repeat (any_goals (first|assumption|exact hT _|((with_reducible show wpAny _ _ (call (Value.builtin "list.__getattribute__") _ _) _ _ _);refine zz7 F.slot_list_getattribute (hT _) am_entry_list_getattribute (F.args_list_getattribute_2 _ _) (meets_getattribute_miss_list a xs k sl "keys" _ Ph (by decide+kernel) (by rw[zq];decide+kernel)) ⟨hx,hA,λh' q e z=>?_⟩)|wp_step))
 obtain⟨t1,u1,hE⟩:=z.there;show wpAny _ _ (getattributeRaised _ _ _ _ _ _ _) _ _ _;unfold getattributeRaised
 repeat (any_goals (first|assumption|wp_step))
 exact hq _ _ z.keeps
end
end PySem
namespace L2
open PySem PySem.Spec PyProof.Rows
def Qf:entryFor table "dict.update.loop" =some Builtin.«dict.update.loop»:=entryFor_of_tree (by kernel_rfl)
section
variable{P:Program}{w:World}{A:Around}{E:Value->Shared->Prop}
abbrev aiQ(ps:List (Key×Value×Value)):List (Key×Value):=ps.foldl (λa p=>stored a p.1 p.2.2) []
def VR(kvs:List (Key×Value))(k:Key)(v:Value):(stored kvs k v).length<=kvs.length+1:=by
 unfold stored;split
 ·simp
 ·simp
def Te(ps:List (Key×Value×Value)):(aiQ ps).length<=ps.length:=by
 have:∀(ps:List (Key×Value×Value))(a:List (Key×Value)),(ps.foldl (λa p=>stored a p.1 p.2.2) a).length<=a.length+ps.length:=by
  intro ps
  induction ps with
  |nil=>intro a;exact zm _
  |cons p ps ih=>
   intro a;have h1:=ih (stored a p.1 p.2.2);have h2:=VR a p.1 p.2.2;rw[zza,zM];omega
 simpa using this ps []
def Vn{d it l:Addr}{its:List Value}{ps:List (Key×Value×Value)}{R:Result->Shared->Prop}{s₀:Shared}(hA:A.handled=none)(ah:ps.length=its.length)(hz:its.length<=1000)(aa:d≠it)(ad:d≠l)(ac:it≠l)
  (hl:s₀.heap.IsList l its.toArray) (hp:∀(i:Nat) p,ps[i]? =some p->∃b,its[i]? =some (.ref b)/\b≠d/\b≠it/\IsTup s₀.heap b #[p.2.1,p.2.2]/\(jF P w).is p.1 p.2.1=true)
  (hR:∀h' tk,(∀b u,b≠d->b≠it->s₀.heap.get? b=some u->h'.get? b=some u)->h'.DictOf (jF P w) d (aiQ ps)->R (.ok (.ret .none)) {s₀ with heap:=h',toks:=tk}):
  ∀(m j:Nat) (h:Heap) (tk:Nat) (t:Tok),j+m=its.length->(∀b u,b≠d->b≠it->s₀.heap.get? b=some u->h.get? b=some u)->h.IsListIter it l j->h.DictOf (jF P w) d (aiQ (ps.take j))->
   codeAny (model P w) A (.builtin "dict.update.loop" ⟨[.ref d,.ref it,.int j t,.none],[]⟩) R {s₀ with heap:=h,toks:=tk}:=by
 intro m
 induction m with
 |zero=>
  intro j h tk t hj hk hi hd;refine codeAny_builtin Qf ?_;unfold Builtin.«dict.update.loop»;dsimp only
  have z:h.IsList l its.toArray:=by
   obtain⟨ol,e1,e2⟩:=hl;exact⟨ol,hk l ol ad.symm ac.symm e1,e2⟩
  refine zd (wpAny_pyNext_list_end (by exact hA) hi z (by simp;omega) λh' eb=>?_);refine zd (m:=Builtin.Dict.addKeywords d []) ?_;unfold Builtin.Dict.addKeywords;refine zC (zC (hR h' tk (λb u n1 n2 e=>eb b u n2 (hk b u n1 n2 e)) ?_));obtain⟨od,es,ep,h1,h2⟩:=hd;rw[z3 (by omega)]at h2;exact⟨od,es,ep,eb d od aa h1,h2⟩
 |succ m ih=>
  intro j h tk t hj hk hi hd;refine codeAny_builtin Qf ?_;unfold Builtin.«dict.update.loop»;dsimp only
  have z:h.IsList l its.toArray:=by
   obtain⟨ol,e1,e2⟩:=hl;exact⟨ol,hk l ol ad.symm ac.symm e1,e2⟩
  have ab:ps[j]? =some (ps[j]'(by omega)):=by simp
  obtain⟨b,e1,n1,n2,ht,q⟩:=hp j _ ab;generalize ps[j]'(by omega)=p at ab ht q;refine zd (wpAny_pyNext_list_item hi z (x:=.ref b) (by simpa using e1) λh' af sb=>?_);obtain⟨ot,t1,t2,t3,t4⟩:=ht;have ht':h'.get? b=some ot:=(sb.2 b n2).trans (hk b ot n1 n2 t1);have hT:({s₀ with heap:=h',toks:=tk}:Shared).TypeIs (.ref b) "tuple" :=⟨_,ht',t2⟩;dsimp only;refine zd (ym (zd (y4 ?_)));unfold Builtin.Dict.pairItems;refine zd (wpAny_typeOf hT ?_);rw[zg (by decide)];unfold seqItems?;refine zd (zd (wpAny_load ht' ?_));rw[t4];refine zC (zC ?_);dsimp only[Option.getD_some];refine ym (wpAny_dictSet_pairs (kvs:=aiQ (ps.take j)) q ?_ (λh2 ag ae=>?_) ?_)
  ·obtain⟨od,es,ep,q1,q2⟩:=hd
   exact⟨od,es,ep,(sb.2 d aa).trans q1,q2⟩
  ·refine zC ⟨Code.quiet_builtin _ (by decide+kernel),?_⟩
   refine ih (j+1) h2 (tk+1) 0 (by omega) (λb u m1 m2 e=>(ae.2 b m1).trans ((sb.2 b m2).trans (hk b u m1 m2 e))) ?_ ?_
   ·obtain⟨oi,q1,q2⟩:=af
    exact⟨oi,(ae.2 it aa.symm).trans q1,q2⟩
   ·have e:ps.take (j+1)=ps.take j++[p]:=by rw[zS,ab];rfl
    rw[aiQ,e,List.foldl_append];exact ag
  ·have:=Te (ps.take j)
   rw[z0]at this;rw[zq];omega
end
section
variable{X:Cx}
theorem Qu{α β:Type}{Pr:α->β->Prop}:∀{ys:List α},(∀y∈ys,∃p,Pr y p)->∃ps,Paired Pr ys ps
 |[],_=>⟨[],.nil⟩
 |y::ys,h=>by
  obtain⟨p,hp⟩:=h y zk;obtain⟨ps,q⟩:=Qu (ys:=ys) λz hz=>h z (zt _ hz);exact⟨p::ps,.cons hp q⟩
theorem tX{α β:Type}{Pr:α->β->Prop}:∀{ys:List α}{ps:List β}{i:Nat}{p:β},Paired Pr ys ps->ps[i]? =some p->∃y,ys[i]? =some y/\Pr y p
 |_,_,_,_,.nil,h=>by simp at h
 |_,_,0,_,.cons r _,h=>by cases h;exact⟨_,rfl,r⟩
 |_,_,i+1,_,.cons _ t,h=>tX (i:=i) t h
noncomputable def Mf(kf:V->Key)(vf:V->V)(ys:List V):List (Key×V):=ys.foldl (λa y=>putK a (kf y) (vf y)) []
theorem Wf{kf:V->Key}{z:V->V}{Pr:V->Key×Value×Value->Prop}(q:∀y p,Pr y p->p.1=kf y/\RelV (z y) p.2.2):∀{ys:List V}{ps:List (Key×Value×Value)}{a:List (Key×V)}{b:List (Key×Value)},Paired Pr ys ps->KV a b->
  KV (ys.foldl (λa y=>putK a (kf y) (z y)) a) (ps.foldl (λa p=>stored a p.1 p.2.2) b)
 |_,_,_,_,.nil,h=>h
 |y::ys,p::ps,a,b,.cons r t,h=>by
  obtain⟨e1,e2⟩:=q y p r;rw[zza,zza,e1];exact Wf q t (h.put (kf y) e2)
noncomputable def xN(K:Fg_):List V->Hp->VK->Prop:=λxs H Q=>∃(a:Addr)(ys:List V)(kf:V->Key)(vf:V->V),xs=[.ref a]/\SqL K H a ys/\ys.length<=1000/\(∀y∈ys,∃b,y=.ref b/\SqT K H b [kV (kf y),vf y])/\
 ∀p,H p=none->Q (.ref p) (upd H p (.dK (Mf kf vf ys)))
def KY(hc:X.calm=true):nH X (.type "dict") (xN X.K):=by
 intro pins s σ H xs us Q I r h;obtain⟨l,ys,kf,vf,rfl,hq,ap,hP,q⟩:=h;obtain⟨u,rfl,rx⟩:=vals1 r;cases rx;obtain⟨its,rv,pl,hz⟩:=I.list hq;have aj:ys.length=its.length:=rv.length;have hl:=pl.isList
 obtain ⟨ps,ac⟩:=Qu (Pr:=fun(y:V)(p:Key×Value×Value)=>p.1=kf y/\RelV (vf y) p.2.2/\∃b,y=.ref b/\IsTup s.heap b #[p.2.1,p.2.2]/\(jF X.prog X.w).is p.1 p.2.1=true) (ys:=ys) λy hy=>by
  obtain⟨b,rfl,hb⟩:=hP y hy;obtain⟨tv,rt,it,aq⟩:=I.tuple hb
  cases rt with
  |cons r1 rt=>cases rt with
   |cons r2 rt=>
    cases rt;exact⟨(kf (.ref b),_,_),rfl,r2,b,rfl,it,Nb r1⟩
 have am:ps.length=its.length:=by rw[<-aj];exact(z4 ac).symm
 obtain⟨⟨oc,od,oo,ar⟩,nl,g1,g2,g3,g4⟩:=id pl;simp only at g2 g3 g4;subst g2 g3 g4;have ag:l<s.heap.objs.size:=zr g1;refine callType_codes (Q₁:=λob s1=>ob=.ref s.heap.objs.size/\s1={s with heap:=s.heap.push {cls:=.type "dict",data:=.dict #[]}}) F.kt_called_dict (F.kt_typeCall_dict_1 _) F.entry_dict_init (kt_code_dict_new _ ⟨rfl,rfl⟩) ?_;rintro ob s1 ⟨rfl,rfl⟩;have ae:(s.heap.push {cls:=.type "dict",data:=.dict #[]}).DictOf (jF X.prog X.w) s.heap.objs.size []:=Heap.DictOf.new s.heap;refine⟨ae.typeIs,F.args_dict_init_2 _ _,?_⟩;unfold Builtin.«dict.__init__» Builtin.Dict.selfAndRest;refine zd (zd (wpAny_notOrdered_dict ae.typeIs ?_));show wpAny _ _ (pure (s.heap.objs.size,[Value.ref l])) _ _ _;refine zC ?_;show wpAny _ _ (Builtin.Dict.updateFrom "dict.__init__" s.heap.objs.size (.ref l) [] .none) _ _ _;have ad:∀b o,s.heap.get? b=some o->(s.heap.push {cls:=.type "dict",data:=.dict #[]}).get? b=some o:=λb o e=>zb _ e;have hT:({s with heap:=s.heap.push {cls:=.type "dict",data:=.dict #[]}}:Shared).TypeIs (.ref l) "list" :=⟨_,ad _ _ g1,rfl⟩;unfold Builtin.Dict.updateFrom;refine zd (wpAny_typeOf hT ?_);rw[zg (by decide)];refine zd (aiv (ad _ _ g1) (by exact I.ok.hd hc) λh1 af ai=>?_);have z:∀b o,s.heap.get? b=some o->h1.get? b=some o:=λb o e=>ai b o (ad b o e);have ak:h1.IsList l its.toArray:=⟨_,z _ _ g1,rfl,_,rfl⟩;obtain⟨o0,al,ao,q1,q2⟩:=ae;have q1':=ai _ _ q1;have aa:s.heap.objs.size<h1.objs.size:=zr q1';rw[zg (show(none:Option Value).isNone=true from rfl)];refine zd (wpAny_rule (zd (yK ak (zC ⟨Code.quiet_builtin _ (by decide+kernel),?_⟩))));have ab:∀b o,h1.get? b=some o->(h1.push {cls:=.type "list_iterator",data:=.fields #[.ref l,.int 0 0]}).get? b=some o:=λb o e=>zb _ e
 refine Vn (A:=X.A.in1) (s₀:={s with heap:=h1.push {cls:=.type "list_iterator",data:=.fields #[.ref l,.int 0 0]},toks:=af}) (its:=its) (ps:=ps) (d:=s.heap.objs.size) (it:=h1.objs.size) (l:=l) (by exact I.ok.hd hc) am (by omega) (zE aa) (yC ag) (yC (zzF ag aa))
  ⟨_,ab _ _ (z _ _ g1),rfl,_,rfl⟩ (λi p hi=>?_) (λh' tk kp hD=>⟨rfl,?_⟩) its.length 0 _ af 0 (by omega) (λb o _ _ e=>e) ⟨_,zA _ rfl,rfl,rfl⟩ ⟨o0,al,ao,ab _ _ q1',q2⟩
 ·obtain⟨y,hy,e1,e2,b,rfl,ht,hk⟩:=tX ac hi
  obtain⟨ot,t1,t2⟩:=ht;obtain⟨v,hv,rr⟩:=rv.get hy;cases rr;have hb:b<s.heap.objs.size:=zr t1;exact⟨b,hv,zE hb,zE (zzF hb aa),⟨ot,ab _ _ (z _ _ t1),t2⟩,hk⟩
 ·have ah:KV (Mf kf vf ys) (aiQ ps):=Wf (λy p h=>⟨h.1,h.2.1⟩) ac .nil
  have an:(Mf kf vf ys).length<=sizeLine:=by
   have e1:(Mf kf vf ys).length=(aiQ ps).length:=z4 ah;have e2:=Te ps;rw[e1,zq];omega
  exact⟨.ref s.heap.objs.size,_,I.laid (a:=s.heap.objs.size) (o:=.dK (Mf kf vf ys)) (t':=tk) (λb o e=>kp b o (zE (zr e)) (zE (zzF (zr e) aa)) (ab _ _ (z b o e))) (zm _) (Lf an (beq_eq_false_iff_ne.mpr (Ne.symm (zE I.big))) ah hD),rfl,q _ (I.hok.fresh (zm _))⟩
end
end L2
namespace L2
open PySem PySem.Spec PyProof.Rows
noncomputable def Cv(v a:Addr):HO:=.ext λh=>h.IsValuesView v a
noncomputable def Itv(a:Addr)(o:Obj)(kvs:List (Key×V)):It:=⟨λi H=>H a=some (.frz o (.dK kvs))/\i<kvs.length,λi H x H'=>H'=H/\(kvs.map (·.2))[i]? =some x,λi H=>H a=some (.frz o (.dK kvs))/\kvs.length<=i⟩
def ZD:entryFor table "dict_valueiterator.__iter__" =some Builtin.«dict_keyiterator.__iter__»:=entryFor_alias (id':= "dict_keyiterator.__iter__") (by kernel_rfl) (by decide+kernel) (by decide+kernel) (by kernel_rfl)
def Xc{P:Program}{w:World}{A:Around}{E:Value->Shared->Prop}{s:Shared}{it d:Addr}{i n z:Nat}{Q:Value->Shared->Prop}(q:s.heap.IsValIter it d i n z)(h:Q (.ref it) s):wpAny (model P w) A (pyIter (.ref it)) Q E s:=by
 refine zzT q.typeIs F.slot_dict_valueiterator_iter (zzx F.slot_dict_valueiterator_iter q.typeIs ZD ?_ (F.args_dict_valueiterator_iter_1 _));show wpAny _ _ (ret (.ref it)) _ _ s;exact zC ⟨_,rfl, "dict_valueiterator",_,q.typeIs,F.slot_dict_valueiterator_next.lookup,h⟩
def Lh{X:Cx}{pins:List (Addr×Obj)}{σ:St}{H:Hp}{s:Shared}{a:Addr}{o:Obj}{kvs:List (Key×V)}{es:Array DictEntry}{ep:Nat}(I:Inv X pins σ H s)(e:H a=some (.frz o (.dK kvs)))(q:o.data=.dict es ep):
  ∃vs,KV kvs vs/\s.heap.DictAt (jF X.prog X.w) a vs ep:=by
 obtain⟨z,_,_,vs,rel,o',ab,aa,q1,q2,q3,q4⟩:=(show lW X.prog X.w H s.heap a (.frz o (.dK kvs))from I.hok a _ e);rw[z]at q1;cases q1;rw[q]at q3;cases q3;exact⟨vs,rel,o,es,z,q2,q,q4⟩
def WX{P:Program}{w:World}{K:Fg_}{tg:Expr}{a it:Addr}{o:Obj}{kvs:List (Key×V)}{es:Array DictEntry}{ep:Nat}(aa:o.data=.dict es ep):Turn P w K tg (Itv a o kvs) [it] it (λi h=>h.IsValIter it a i kvs.length ep) where
 mem:=by simp
 obj:=λi h st b hb=>by
  obtain rfl:b=it:=by simpa using hb
  obtain⟨oi,e,c,dd⟩:=st;exact⟨oi,e,λv z=>by rw[dd]at z;cases z⟩
 keep:=λi h h' st k=>let⟨oi,e,r⟩:=st;⟨oi,k it (by simp) oi e,r⟩
 item:=by
  intro X hP hw hK hc i pins s σ H E I hf st hg;subst hP hw hK;obtain⟨ab,ae⟩:=hg;obtain⟨vs,rel,ac⟩:=Lh I ab aa;have q:kvs.length=vs.length:=z4 rel;obtain⟨f0,f1,f2,f3,f4,f5⟩:=hf it (by simp);have hx:vs[i]? =some (vs[i]'(by omega)):=by simp
  obtain⟨p,hp,e1,e2⟩:=tX rel hx;rw[q]at st;refine wpAny_pyNext_values_item st ac (k:=(vs[i]'(by omega)).1) (v:=(vs[i]'(by omega)).2) hx λh' ad sb=>?_;have I1:Inv X pins σ H {s with heap:=h'}:=I.turned (t':=s.toks) (λb o hb e=>(sb.2 b hb).trans e) f0 f1 f3 f4 f5;obtain⟨oi,e,c,dd⟩:=id ad;rw[<-q]at ad;exact⟨_,rfl,Uu (s:={s with heap:=h'}) e c dd (by decide) ⟨p.2,H,I1,e2,⟨rfl,by rw[zf,hp];rfl⟩,ad,λb hb=>(hf b hb).1⟩⟩
 done:=by
  intro X hP hw hK hc i pins s σ H E I hf st hg;subst hP hw hK;obtain⟨ab,ae⟩:=hg;obtain⟨vs,rel,ac⟩:=Lh I ab aa;have q:kvs.length=vs.length:=z4 rel;obtain⟨f0,f1,f2,f3,f4,f5⟩:=hf it (by simp);rw[q]at st;exact wpAny_pyNext_values_end (I.ok.hd hc) st ac (by simp;omega) λh' eb=>⟨rfl,I.turned (t':=s.toks) (λb o hb e=>eb b o hb e) f0 f1 f3 f4 f5⟩
 self:=λ_ _ _ _ _ st h=>Xc st h
section
variable{X:Cx}{tg:Expr}
noncomputable def ajW(tl:TE):TI:=λσ H R=>tl σ H λx H1=>∃v a kvs,x=.ref v/\H1 v=some (Cv v a)/\H1 a=some (.dK kvs)/\∀o,R (Itv a o kvs) (upd H1 a (.frz o (.dK kvs)))
def aix{l:Expr}{tl:TE}(hl:PE X l tl):PI X tg l (ajW tl):=by
 intro pins s σ H R I h;refine thn (hl pins s σ H _ I h) λu s1 ⟨x,H1,I1,r1,v,a,kvs,ex,hv,ha,q⟩=>?_;subst ex;cases r1;obtain⟨aa,_,_⟩:=(show lW X.prog X.w H1 s1.heap v (Cv v a)from I1.hok v _ hv);obtain⟨z,ab,vs,rel,o,es,ep,q1,q2,q3,q4⟩:=(show lW X.prog X.w H1 s1.heap a (.dK kvs)from I1.hok a _ ha);have ad:kvs.length=vs.length:=z4 rel;have ac:s1.heap.DictAt (jF X.prog X.w) a vs ep:=⟨o,es,q1,q2,q3,q4⟩;refine wpAny_pyIter_values aa ac ?_;have I2:Inv X pins σ (upd H1 a (.frz o (.dK kvs))) s1:=I1.write (t':=s1.toks) (h':=s1.heap) (by rw[ha];exact True.intro) (.inl rfl) (λb u _ e=>e) ⟨o,q1⟩ (show lW X.prog X.w _ s1.heap a (.frz o (.dK kvs))from⟨q1,z,ab,vs,rel,o,es,ep,q1,q2,q3,q4⟩);refine⟨s1.heap.objs.size,[s1.heap.objs.size],_,_,_,rfl,I2.kept (t':=s1.toks) λb o e=>zb _ e,WX q3,⟨_,zA _ rfl,rfl,by rw[ad];rfl⟩,λb hb=>?_,q o⟩;obtain rfl:b=s1.heap.objs.size:=by simpa using hb
 exact I2.fpOk (zm _) (I2.hok.fresh (zm _))
noncomputable def aiX:V->List V->Hp->VK->Prop:=λx vs H Q=>∃a kvs,x=.ref a/\vs=[]/\H a=some (.dK kvs)/\∀v,H v=none->Q (.ref v) (upd H v (Cv v a))
def Xd:MtR X "dict.values" aiX:=by
 intro pins s σ H x vs v us Q I rx rv h;obtain⟨a,kvs,rfl,rfl,ha,q⟩:=h;cases rx;have ab:=rv.zero;subst ab;obtain⟨z,aa,ws,rel,dd⟩:=QZ I.hok ha;refine yL PySem.F.slot_dict_values dd.typeIs PySem.F.entry_dict_values (PySem.F.args_dict_values_1 _) (meets_dict_values (jF X.prog X.w) a aa) ⟨⟨ws,dd⟩,?_⟩;have hg:(s.heap.push {cls:=.type "dict_values",data:=.fields #[.ref a]}).IsValuesView s.heap.objs.size a:=⟨_,zA _ rfl,rfl,rfl⟩;exact⟨.ref s.heap.objs.size,_,I.laid (a:=s.heap.objs.size) (o:=Cv s.heap.objs.size a) (t':=s.toks) (λb o e=>zb _ e) (zm _) ⟨hg,⟨_,zA _ rfl⟩,λh1 h2 ⟨ov,e1,e2⟩ k=>⟨ov,k ov e1,e2⟩⟩,rfl,q _ (I.hok.fresh (zm _))⟩
end
end L2
namespace L2
open PySem PySem.Spec PyProof.Rows
section
variable{X:Cx}{K:Fg_}{σ:St}{H:Hp}{Q:VK}{R:It->Hp->Prop}{tl td ty:TE}{g:TG}{tt:TT}{te:TE}{cap:List (Option Nat)}{a:Addr}{o:Obj}{kvs:List (Key×V)}
def qm(z:X.calm=true)(q:X.K=K:=by rfl):nH X (.type "dict") (xN K):=q▸KY z
def ap_dictPairs:xN K [.ref a] H Q=∃(ys:List V)(kf:V->Key)(vf:V->V),SqL K H a ys/\ys.length<=1000/\(∀y∈ys,∃b,y=.ref b/\SqT K H b [kV (kf y),vf y])/\∀p,H p=none->Q (.ref p) (upd H p (.dK (Mf kf vf ys))):=by simp[xN]
def ap_iVals:ajW tl σ H R=tl σ H λx H1=>∃v a kvs,x=.ref v/\H1 v=some (Cv v a)/\H1 a=some (.dK kvs)/\∀o,R (Itv a o kvs) (upd H1 a (.frz o (.dK kvs))):=rfl
def ap_rVals:aiX (.ref a) [] H Q=∃kvs,H a=some (.dK kvs)/\∀v,H v=none->Q (.ref v) (upd H v (Cv v a)):=by simp[aiX]
def ap_dget1:aib td ty σ H Q=td σ H λx H1=>∃a,x=.ref a/\IsD H1 a/\ty σ H1 λy H2=>∃o,Yt H2 a y o/\Q (o.getD .non) H2:=rfl
def lq.vals(Sσ:St->Prop)(p:V->Bool)(F:V->V)(hH:H a=some (.frz o (.dK kvs)))(h0:Sσ (qi σ cap))(hz:kvs.length<=sizeLine)
  (hs:∀x∈kvs.map (·.2),∀(σ:St)(z:Hp)(R1:St->VK)(R2:St->Hp->Prop),Sσ σ->Same H z->(p x=true->∀q H6,Sσ q->Same z H6->R1 q (F x) H6)->(p x=false->∀q H6,Sσ q->Same z H6->R2 q H6)->
   g x σ z λq H4=>tt q H4 λb z=>if b=true then te q z (R1 q)else R2 q z)
  (k:∀D H',H D=Option.none->Same H H'->H' D=some (.lst (((kvs.map (·.2)).filter p).map F))->Q (.ref D) H'):lq cap (Itv a o kvs) g tt te σ H Q:=
 λD hD=>DQ (xs:=kvs.map (·.2)) (Itv a o kvs) Sσ p F hD h0 (by rw[za];exact hz) (λi x z hx sm=>⟨⟨sm _ _ hH,by simpa using (zp.mp hx).1⟩,λy H' hy=>⟨zw (hy.2.symm.trans hx),hy.1⟩⟩) (λz sm=>⟨sm _ _ hH,by simp⟩) hs λH' s e=>k D H' hD s e
end
end L2
namespace L2
open PySem PySem.W PySem.Spec PyProof.Rows
section
variable{X:Cx}{pins:List (Addr×Obj)}{σ:St}{H:Hp}{s:Shared}{h':Heap}
def Inv.adopt{t' c:Nat}{D:Addr}{zs:List V}{its:List Value}(I:Inv X pins σ H s)(hf:RP X pins H D)(k:∀b o,b≠D->s.heap.get? b=some o->h'.get? b=some o)
  (hD:h'.get? D=some {cls:=.type "list",data:=.seq its.toArray c}) (hv:Vals zs its) (hz:zs.length<=sizeLine):Inv X pins σ (upd H D (.lst zs)) {s with heap:=h',toks:=t'}:=by
 obtain⟨hn,hL,ab,h1,h2,h3⟩:=hf;have aa:∀b u,H b=some u->b≠D:=λb u e z=>by rw[z,hn]at e;cases e
 refine I.step (g':=s.gens) (d':=s.drawn) (ch:=[D]) (λb hb=>?_) (λb o _ _ hc e _=>k b o (λz=>hc (by simp[z])) e) (λb o _ _ hc e _=>⟨o.slots,k b o (λz=>hc (by simp[z])) e⟩) (λb o hc e n=>(iQ λz=>hc (by simp[z])).trans n)
  (λb o hc e=>⟨o,k b o (λz=>hc (by simp[z])) e⟩) (λb xs e=>(iQ (aa b _ e)).trans e) (λb o u e=>(iQ (aa b _ e)).trans e) (λb ps e=>⟨#[],by rw[iQ (aa b _ e),e];simp⟩) (λm hm=>?_) (λb u e=>?_) I.bare
 ·have e:b=D:=by simpa using hb
  subst e;exact⟨h1,hL,h2,h3⟩
 ·obtain⟨o,es,ep,ho,r⟩:=hm
  exact⟨o,es,ep,k _ o (Ne.symm hL) ho,r⟩
 ·by_cases z:b=D
  ·subst z
   rw[iC]at e;cases e;exact⟨hz,its,c,hv,hD⟩
  ·rw[iQ z]at e
   refine(I.hok b u e).stay (λc v hc q=>k c v ?_ q) (λc q=>?_) λc v q=>?_
   ·rcases hc with y|y
    ·rw[y];exact aa b u e
    ·exact aa c _ y
   ·exact(iQ (aa c _ q)).trans q
   ·exact(iQ (aa c _ q)).trans q
end
section
variable{X:Cx}{pins:List (Addr×Obj)}{σ:St}{H:Hp}{s:Shared}{k:Nat}{f:Addr}{fd:FuncData}{ps:List Str}{sp:Sp}
def aji{Q:VK}{v:V}{u:Value}(F:jK X.prog X.w X.K X.mg X.base CX0 k f fd ps sp)(hr:qW (k+2) X.A)(hb:Binds X.K fd ps [])(I:Inv X pins σ H s)(r:RelV v u)(h:sp [v] H Q E0):
  wpAny (model X.prog X.w) X.A.in1.in1 (call (.ref f) [u]) (EP X pins σ Q) (λ_ _=>False) s:=by
 have z:Vals [v] [u]:=.cons r .nil
 have hl:([u]++([]:List Value)).length=ps.length:=by
  have:=F.len _ _ _ _ h;rw[<-this];rfl
 refine zz6 (codeAny_mono (F.run X.A.in1.in1 X.stack s H ⟨[u],[]⟩ [u] [v] Q E0 hr.in1.in1 I.env0.in1.in1 (hb s [u] I.kIn hl) z h) λr s' q=>?_)
 cases r with
 |error e=>exact q.elim
 |ok fl=>
  cases fl with
  |ret u=>exact I.after q
  |next=>exact False.elim q
  |brk=>exact False.elim q
  |cont=>exact False.elim q
theorem Paired.imp{α β:Type}{P P':α->β->Prop}(h:∀a b,P a b->P' a b):∀{xs:List α}{ys:List β},Paired P xs ys->Paired P' xs ys
 |_,_,.nil=> .nil
 |_,_,.cons a t=> .cons (h _ _ a) (Paired.imp h t)
noncomputable def VP(kf:V->List Int)(H:Hp)(y v:V):Prop:=∃t,v=.ref t/\H t=some (.tup ((kf y).map V.int))
def VP.same{kf:V->List Int}{H H':Hp}{y v:V}(h:VP kf H y v)(e:∀t xs,H t=some (.tup xs)->H' t=some (.tup xs)):VP kf H' y v:=let⟨t,a,b⟩:=h;⟨t,a,e _ _ b⟩
noncomputable def aje(sp:Sp)(kf:V->List Int)(H:Hp)(y:V):Prop:=∀H1,Same H H1->∀R:VK,(∀t H2,Same H1 H2->H2 t=some (.tup ((kf y).map V.int))->R (.ref t) H2)->sp [y] H1 R E0
theorem Su{E:Value->Shared->Prop}{kf:V->List Int}{H0:Hp}{kS:Addr}{Q':Shared->Prop}{ad:Value->PUnit->Sem (ForInStep PUnit)}(F:jK X.prog X.w X.K X.mg X.base CX0 k f fd ps sp)(hr:qW (k+2) X.A)(hb:Binds X.K fd ps [])
  (ac:∀x s (D':Shared->Prop),wpAny (model X.prog X.w) X.A.in1.in1 (call (.ref f) [x]) (λk s'=>∃its n,s'.heap.get? kS=some {cls:=.type "list",data:=.seq its n}/\its.size<64/\D' {s' with heap:=s'.heap.update kS (Obj.mapSeq (·.push k))}) (λ_ _=>False) s->
   wpAny (model X.prog X.w) X.A.in1.in1 (ad x ⟨⟩) (λr s'=>r=.yield ⟨⟩/\D' s') E s) (hS0:H0 kS=none):
  ∀(ys:List V) (us:List Value) (ys0 kvs:List V) (H1:Hp) (s1:Shared),Vals ys us->ys0.length+ys.length<64->Inv X pins σ H1 s1->H1 kS=some (.lst kvs)->Same H0 H1->(∀y∈ys,aje sp kf H0 y)->Paired (VP kf H1) ys0 kvs->
   (∀aa H2 s2,Inv X pins σ H2 s2->H2 kS=some (.lst aa)->Same H0 H2->Paired (VP kf H2) (ys0++ys) aa->Q' s2)->wpAny (model X.prog X.w) X.A.in1.in1 (forIn us PUnit.unit ad) (λ_ s2=>Q' s2) E s1
 |_,_,ys0,kvs,H1,s1,.nil,hl,I,hH,sm,hk,hp,fin=>by
  rw[List.forIn_nil];rw[yn]at fin;exact zC (fin kvs H1 s1 I hH sm hp)
 |y::ys,u::us,ys0,kvs,H1,s1,.cons ru rus,hl,I,hH,sm,hk,hp,fin=>by
  rw[List.forIn_cons];rw[zM]at hl;have an:ys0.length=kvs.length:=z4 hp;have h1:=aji F hr hb I ru (hk y zk H1 sm (λv H2=>∃t,v=.ref t/\Same H1 H2/\H2 t=some (.tup ((kf y).map V.int))) λt H2 s2 ht=>⟨t,rfl,s2,ht⟩);refine zd (ye (ac u s1 (λs2=>∃ab H3,Inv X pins σ H3 s2/\H3 kS=some (.lst ab)/\Same H0 H3/\Paired (VP kf H3) (ys0++[y]) ab) (ye h1 (λkv s2 hq=>?_) λ_ _ x=>x)) (λr s2 hq=>?_) λ_ _ x=>x)
  ·obtain⟨v,H2,I2,rv,t,rfl,ae,ht⟩:=hq
   have af:=ae _ _ hH;obtain⟨z,its,n,r,am,e⟩:=I2.lstM af;refine⟨its.toArray,n,e,by rw[zl];omega,kvs++[.ref t],_,I2.lset (t':=s2.toks) (its':=its++[kv]) af e (by simp) (r.append (.cons rv .nil)) (by rw[zB,yV,zq];omega),iC,?_,?_⟩
   ·exact(sm.trans ae).upd hS0
   ·have up:∀b xs,H2 b=some (.tup xs)->(upd H2 kS (.lst (kvs++[V.ref t]))) b=some (.tup xs):=λb xs q=>(iQ λz=>by rw[z,af]at q;cases q).trans q
    exact Paired.snoc (Paired.imp (λa b q=>q.same λt xs h=>up _ _ (ae _ _ h)) hp) ⟨t,rfl,up _ _ ht⟩
  ·obtain⟨rfl,ab,H3,I3,aj,ah,ai⟩:=hq
   refine Su F hr hb ac hS0 ys us (ys0++[y]) ab H3 s2 rus (by rw[zB,yV];omega) I3 aj ah (λz hz=>hk z (zt _ hz)) ai λaa H4 s4 I4 ag ak al=>fin aa H4 s4 I4 ag ak ?_
   rwa [zzk]at al
end
section
variable{P:Program}{w:World}{A:Around}{E:Value->Shared->Prop}{s:Shared}
def Xa{G:Array Nat->Prop}{ks us:List Value}{a kS:Addr}{e1 nk:Nat}{R:PySem.Fin->Shared->Prop}(fs:Nat->List Int)(ac:ks.length=us.length)(ad:us.length<64)(hk:s.heap.get? kS=some (seqObj "list" ks.toArray nk)) (ho:s.heap.get? a=some (seqObj "list" #[] e1)) (ai:a≠kS)
  (hT:∀i,i<us.length->fs i≠[]/\∃b o xs m,ks.getD i Value.none=.ref b/\s.heap.get? b=some o/\o.cls=.type "tuple" /\o.data=.seq xs m/\Vals ((fs i).map V.int) xs.toList)
  (hG:0<us.length->Kok (λi j=>vQ (fs i) (fs j) (decide ((fs i).length<(fs j).length))) us.length G (kas_sort us.length)) (ao:us.length<2->G (List.range us.length).toArray) (al:∀p,G p->Prm us.length p)
  (am:∀p:Array Nat,G p->R (.done (.ret .none)) {s with heap:=(s.heap.update kS (Obj.mapSeq λ_=> #[])).update a (Obj.mapSeq λ_=>List.toArray (p.toList.map λi=>us.getD i Value.none))}):
  wpAny (model P w) A (ksk_end a false us.toArray e1 (.ref kS) ks.toArray) R E s:=by
 have aj:us.toArray.size=us.length:=by simp
 have aa:∀q (p:Array Nat),arrOf q=p.map (kas_item (ks.toArray.zip us.toArray))->failedOf q=none->G p->wpAny (model P w) A (ksk_tail a false e1 (.ref kS) q) R E s:=λq p ab hf hp=>by
  have ap:(p.toList.map λi=>us.getD i Value.none).length=us.length:=by rw[za,(al p hp).length_eq];simp
  have af:(s.heap.update kS (Obj.mapSeq λ_=> #[])).get? a=some (seqObj "list" #[] e1):=(yc _ _ _ _ ai).trans ho;unfold ksk_tail
  try dsimp only
  rw[kat_snds ac ab];refine zd (listUpdate_at hk rfl ?_ (by rw[zl,zq];omega) (zJ _));refine zd (zzU ?_);refine zd (seqEpoch_at af rfl ?_);refine zd (listUpdate_at af rfl ?_ (zJ _) (by simp only[yA,if_false];rw[zl,ap,zq];omega));rw[hf];simp only[bne_self_eq_false,yA,if_false];exact zC (am p hp)
 unfold ksk_end
 try dsimp only
 rw[zc (by decide)];by_cases h2:us.toArray.size<2
 ·rw[zg h2,zg h2]
  refine zd (zC ?_);rw[StateT.run_pure];refine zd (zC ?_);dsimp only;refine aa _ (List.range us.length).toArray ?_ rfl (ao (by rw[<-aj];exact h2));have e:=kas_range (ks.toArray.zip us.toArray);rw[show(ks.toArray.zip us.toArray).size=us.length by simp[ac]]at e;exact e.symm
 ·rw[zc h2,zc h2]
  have hn:0<us.length:=by omega
  obtain ⟨ff,k1,k2,k3⟩:=Eb (h:=s.heap) (us:=ks) (by
   intro v hv;obtain⟨i,hi,e⟩:=zZ hv;obtain⟨g0,b,o,xs,m,g1,g3,g4,g5,g6⟩:=hT i (by omega);have e2:ks.getD i Value.none=v:=by rw[<-e];simp[hi]
   cases hq:fs i with
   |nil=>exact(g0 hq).elim
   |cons z zs=>
    rw[hq,zi]at g6
    cases hx:xs.toList with
    |nil=>rw[hx]at g6;cases g6
    |cons u ur=>
     rw[hx]at g6
     cases g6 with
     |cons r1 r2=>
     obtain⟨t,rfl⟩:=r1;refine⟨b,o,xs,m,z,t,e2.symm.trans g1,g3,g4,g5,?_⟩;rw[<-yG,hx];rfl)
  refine zd (kat_kind k1 (by omega) (λv hv=>?_) (T:=.type "int") rfl ?_)
  ·obtain⟨i,t,rfl⟩:=k3 v hv
   exact Looks.of_pure rfl
  refine zd (ye (kat_run (ks:=ks) (vs:=us) (Q:=λq s'=>∃p:Array Nat,arrOf q=p.map (kas_item (ks.toArray.zip us.toArray))/\failedOf q=none/\G p/\s'=s)
   (G:=λp s'=>G p/\s'=s) ac (by omega) ad (λp q s' a1 a2 a3 a4=>⟨p,a2,a3,a4.1,a4.2⟩)
   (Kok.wp (lt:=λi j=>vQ (fs i) (fs j) (decide ((fs i).length<(fs j).length))) (λi j C hi hj hC=>?_) (hG hn) λp hp=>⟨hp,rfl⟩)) ?_ λ_ _ e=>e)
  ·obtain⟨_,b,o,xs,m,g1,g3,g4,g5,g6⟩:=hT i hi
   obtain⟨_,b',o',ah,m',ag,ak,aq,an,ae⟩:=hT j hj;show wpAny _ _ (keyLt' _ (ks.getD i Value.none) (ks.getD j Value.none)) _ _ _;rw[g1,ag];refine kat_lt g3 g5 ak an (Sw g6 ae 0 ?_);have z1:(fs i).length=xs.size:=by simpa using g6.length
   have z2:(fs j).length=ah.size:=by simpa using ae.length
   rw[<-z1,<-z2];exact hC
  ·rintro⟨⟨⟩,q⟩ s'⟨p,ab,hf,hp,rfl⟩
   dsimp only;exact aa q p ab hf hp
end
def aiC(a v:Value):argsOk "list.sort" ⟨[a],[(Str.ofString "key",v)]⟩:=by unfold argsOk;kernel_rfl
section
variable{X:Cx}{pins:List (Addr×Obj)}{σ:St}{H:Hp}{s:Shared}{k:Nat}{f:Addr}{fd:FuncData}{ps:List Str}{sp:Sp}
noncomputable def Qc(K:Fg_)(sp:Sp):V->Hp->VK->Prop:=λx H Q=>∃(a:Addr)(ys:List V)(kf:V->List Int),x=.ref a/\SqL K H a ys/\ys.length<64/\(∀y∈ys,kf y≠[]/\aje sp kf H y)/\
 ∀p zs H',Same H H'->H p=none->H' p=some (.lst zs)->zs.Perm ys->(∀m,(∀y∈ys,(kf y).length=m)->(ys.map kf).Nodup->zs.Pairwise λy z=>vQ (kf y) (kf z) false=true)->Q (.ref p) H'
theorem Ib{α β:Type}{Pr:α->β->Prop}{d1:α}{d2:β}:∀{xs:List α}{ys:List β}{i:Nat},Paired Pr xs ys->i<xs.length->Pr (xs.getD i d1) (ys.getD i d2)
 |_,_,_,.nil,h=>by simp at h
 |_,_,0,.cons r _,_=>r
 |_,_,i+1,.cons _ t,h=>by
  simp only[List.getD_cons_succ];exact Ib t (by simpa using h)
def VB{Q:VK}{x:V}{u:Value}(F:jK X.prog X.w X.K X.mg X.base CX0 k f fd ps sp)(hr:qW (k+2) X.A)(hb:Binds X.K fd ps [])(I:Inv X pins σ H s)(rx:RelV x u)(h:Qc X.K sp x H Q):
  wpAny (model X.prog X.w) X.A (call (.builtin "sorted") [u] [(Str.ofString "key",.ref f)]) (EP X pins σ Q) X.xe s:=by
 obtain⟨a,ys,kf,rfl,hq,bc,hK,q⟩:=h;cases rx;obtain⟨its,rv,pl,hz⟩:=I.list hq;have ad:ys.length=its.length:=rv.length;have hl:=pl.isList;refine call_function_entry_kw kind_sorted plain_sorted entry_sorted (ksk_s1 _ _) ?_;unfold Builtin.«sorted»;refine zd (m:=checkCount "sorted" 1 1 _) (zC ?_);refine zd (collect_list hl ?_ (by omega));refine zd (zzy ?_ (by omega));have hsz:((s.heap.push (seqObj "list" #[] 0)).update s.heap.objs.size (Obj.mapSeq (·++its.toArray))).objs.size=s.heap.objs.size+1:=by rw[zz0,size_push']
 have aa:(((s.heap.push (seqObj "list" #[] 0)).update s.heap.objs.size (Obj.mapSeq (·++its.toArray))).push (seqObj "list" its.toArray 0)).get? (s.heap.objs.size+1)=some (seqObj "list" its.toArray 0):=by rw[<-hsz];exact zA _ rfl
 have keep:∀b o,s.heap.get? b=some o->(((s.heap.push (seqObj "list" #[] 0)).update s.heap.objs.size (Obj.mapSeq (·++its.toArray))).push (seqObj "list" its.toArray 0)).get? b=some o:=λb o e=>
  zb _ ((yc _ _ _ _ (zE (zr e))).trans (zb _ e))
 have ag:(((s.heap.push (seqObj "list" #[] 0)).update s.heap.objs.size (Obj.mapSeq (·++its.toArray))).push (seqObj "list" its.toArray 0)).objs.size=s.heap.objs.size+2:=by rw[size_push',hsz]
 show wpAny _ _ _ _ _ {s with heap:=((s.heap.push (seqObj "list" #[] 0)).update s.heap.objs.size (Obj.mapSeq (·++its.toArray))).push (seqObj "list" its.toArray 0)};rw[hsz];generalize((s.heap.push (seqObj "list" #[] 0)).update s.heap.objs.size (Obj.mapSeq (·++its.toArray))).push (seqObj "list" its.toArray 0)=h2 at aa keep ag;obtain⟨D,ay⟩:∃D:Nat,s.heap.objs.size+1=D:=⟨_,rfl⟩;rw[ay]at aa⊢;refine zd (ym (wpAny_call_entry_kw slot_list_sort ⟨_,aa,rfl⟩ entry_list_sort ?body (aiC _ _)))
 case body=>
  show wpAny (model X.prog X.w) X.A.in1.in1 (Builtin.«list.sort» ⟨[.ref D],[(Str.ofString "key",.ref f)]⟩) _ _ _;rw[ksk_t1];unfold ksk_tree;refine zd (listItems_at aa rfl ?_);refine zd (listUpdate_at aa rfl ?_ (by rw[zl,zq];omega) (zJ _));obtain⟨e1,af⟩:∃e1,(h2.update D (Obj.mapSeq λ_=> #[])).get? D=some (seqObj "list" #[] e1):=⟨_,get?_update_seq aa (λ_=> #[])⟩;refine zd (seqEpoch_at af rfl ?_);refine zd (wpAny_newTuple ?_ (by show its.length<=_;rw[zq];omega));refine zd (zzy ?_ (zJ _));refine ym ?_;have ap:((h2.update D (Obj.mapSeq λ_=> #[])).push (seqObj "tuple" its.toArray 0)).objs.size=s.heap.objs.size+3:=by rw[size_push',zz0,ag]
  have ab:∀b o,s.heap.get? b=some o->(((h2.update D (Obj.mapSeq λ_=> #[])).push (seqObj "tuple" its.toArray 0)).push (seqObj "list" #[] 0)).get? b=some o:=λb o e=>by
   have h9:b<s.heap.objs.size:=zr e;have hb:b≠D:=zE (zzF h9 (by omega));exact zb _ (zb _ ((yc _ _ _ _ hb).trans (keep b o e)))
  have aq:(((h2.update D (Obj.mapSeq λ_=> #[])).push (seqObj "tuple" its.toArray 0)).push (seqObj "list" #[] 0)).get? D=some (seqObj "list" #[] e1):=zb _ (zb _ af);have ah:(((h2.update D (Obj.mapSeq λ_=> #[])).push (seqObj "tuple" its.toArray 0)).push (seqObj "list" #[] 0)).get? (s.heap.objs.size+3)=some (seqObj "list" #[] 0):=by rw[<-ap];exact zA _ rfl
  show wpAny _ _ _ _ _ {s with heap:=((h2.update D (Obj.mapSeq λ_=> #[])).push (seqObj "tuple" its.toArray 0)).push (seqObj "list" #[] 0)};dsimp only;rw[ap];generalize((h2.update D (Obj.mapSeq λ_=> #[])).push (seqObj "tuple" its.toArray 0)).push (seqObj "list" #[] 0)=h4 at ab aq ah;obtain⟨kS,am⟩:∃kS:Nat,s.heap.objs.size+3=kS:=⟨_,rfl⟩;rw[am]at ah⊢;have ae:D≠kS:=zE (by omega);have ai:H D=none:=I.hok.fresh (by omega);have aj:H kS=none:=I.hok.fresh (by omega);have I4:Inv X pins σ (upd H kS (.lst [])) {s with heap:=h4,toks:=s.toks}:=I.laid (t':=s.toks) ab (by omega) ⟨zJ _,[],0,.nil,ah⟩;have ac:RP X pins (upd H kS (.lst [])) D:=I.fpOk (by omega) ((iQ ae).trans ai)
  have I5:Inv X (pins++[(D,seqObj "list" #[] e1)]) σ (upd H kS (.lst [])) {s with heap:=h4,toks:=s.toks}:=I4.pins_of λp hp=>by
   rcases zI.mp hp with hp|hp
   ·exact I4.pin p (zG _ hp)
   ·obtain rfl:=zy.mp hp
    exact⟨aq,ac.1,ac.2.1,ac.2.2.1,λv z=>by cases z⟩
  unfold ksk_rest;refine zd (wpAny_rule ?_)
  first|rw[List.forIn_toArray]|rw[<-Array.forIn_toList]
  refine zd (Su (kf:=kf) (H0:=H) (kS:=kS) F hr hb (λx s' D' hx=>?_) aj ys its [] [] _ _ rv (by rw[yT];omega) I5 iC (iH aj) (λy hy=>(hK y hy).2) .nil λkvs H2 s2 I2 ar sm2 ao=>?_)
  ·refine zd (wpAny_attempt (ye hx (λkv be hk=>?_) λ_ _ hF=>hF.elim))
   obtain⟨its',n',e',bf,bb⟩:=hk
   try dsimp only
   refine zd (listUpdate_at e' rfl ?_ (by rw[zq];omega) (zV (zz4 (Array.size_push ..)) (by rw[zq];omega)));exact zC ⟨rfl,bb⟩
  ·obtain⟨z,ks,n,rk,bd,e⟩:=I2.lstM ar
   have bh:ys.length=kvs.length:=z4 ao
   try dsimp only
   refine zd (listItems_at e rfl ?_);have al:=I2.pin (D,seqObj "list" #[] e1) (zG _ (zG _ (zy.mpr rfl)));refine Xa (G:=λp=>Prm its.length p/\Uk ys kf p) (λi=>kf (ys.getD i .non)) (by omega) (by omega) e al.1 ae (λi hi=>?_) (λhn=>ad▸Wt (by omega)) (λh2=>⟨List.Perm.refl _,λm _ _ a b ba hb=>absurd ba (by omega)⟩) (λp hp=>hp.1) λp au=>⟨_,rfl,zC ⟨_,rfl,?_⟩⟩
   ·have hm:ys.getD i .non∈ys:=by
     have:i<ys.length:=by omega
     simp[this]
    obtain⟨t,e2,e3⟩:=Ib (d1:=V.non) (d2:=V.non) ao (i:=i) (by rw[zzb];omega);rw[zzb]at e3;obtain⟨tv,rt,it,bg⟩:=I2.tuple (jG e3);obtain⟨o,ho,hc,m,hd⟩:=it;refine⟨(hK _ hm).1,t,o,tv.toArray,m,?_,ho,hc,hd,rt⟩;have:=CV rk (i:=i) (by omega);rw[e2]at this;exact this
   ·obtain⟨hp,as⟩:=au
    have aw:∀i∈p.toList,i<ys.length:=λi hi=>by
     have:=yu.mp (hp.mem_iff.mp hi);omega
    have ak:p.toList.length=its.length:=by rw[hp.length_eq];simp
    have ax:(p.toList.map λi=>ys.getD i V.non).Perm ys:=by
     have:=hp.map λi=>ys.getD i V.non;rw[<-ad,Ih]at this;exact this
    have I3:=(I2.lset (t':=s2.toks) (its':=[]) (f:=λ_=> #[]) ar e rfl .nil (zJ _)).unpinned;have an:RP X pins (upd H2 kS (.lst [])) D:=⟨(iQ ae).trans al.2.1,ac.2⟩;have av:(s2.heap.update kS (Obj.mapSeq λ_=> #[])).get? D=some (seqObj "list" #[] e1):=(yc _ _ _ _ ae).trans al.1;obtain⟨c,hc⟩:∃c,((s2.heap.update kS (Obj.mapSeq λ_=> #[])).update D (Obj.mapSeq λ_=>List.toArray (p.toList.map λi=>its.getD i Value.none))).get? D=some (seqObj "list" (List.toArray (p.toList.map λi=>its.getD i Value.none)) c):=⟨_,get?_update_seq av _⟩;refine⟨.ref D,_,I3.adopt (t':=s2.toks) (zs:=p.toList.map λi=>ys.getD i V.non) an (λb o hb e=>(yc _ _ _ _ hb).trans e) hc (Je rv aw) (by rw[za,ak,zq];omega),rfl,q _ _ _ ?_ ai iC ax λm h1 h2=>?_⟩
    ·exact((sm2.upd aj).upd ai)
    ·refine yv.mpr λi j hi hj az=>?_
     rw[za,ak,<-ad]at hj;have h3:=as m h1 h2 i j az hj;have hs:p.size=ys.length:=by rw[<-yb,ak,ad]
     have e1:p.getD i 0=p.toList[i]'(by rw[yb];omega):=by simp[Array.getD,show i<p.size by omega]
     have e2:p.getD j 0=p.toList[j]'(by rw[yb];omega):=by simp[Array.getD,show j<p.size by omega]
     rw[e1,e2]at h3;rw[yF,yF];exact h3
noncomputable def TY(K:Fg_)(sp:Sp)(t:TA):TE:=λσ H Q=>t σ H λvs H1=>∃x,vs=[x]/\Qc K sp x H1 Q
def Lr{e:Expr}{t:TA}{g:Str}{p kp kpos pos:Pos}(F:jK X.prog X.w X.K X.mg X.base CX0 k f fd ps sp)(hr:qW (k+2) X.A)(hb:Binds X.K fd ps [])(ad:Gl X "sorted") (aa:X.mg "sorted" =none) (z:bootBuiltins "sorted" =some (.builtin "sorted"))
  (hg:Gl X g) (hm:X.mg g=some (.ref f)) (ha:PA X [e] t) (ac:(g==("__debug__" :Str))=false:=by decide)
  (he:backTo pos (starEach [e] X.env)=(false,eval e X.env)::backTo pos (starEach [] X.env):=by rfl) (hpl:(backTo pos (starEach [e] X.env)).any (·.1)=false:=by rfl):
  PE X (.Call (.Name "sorted" p) [e] [⟨some "key",.Name g kp,kpos⟩] pos) (TY X.K sp t):=by
 intro pins s σ H Q I h;refine yh (Bc I ad aa z ?_);refine callWith_kw (thn (ha pos pins s σ H _ I h) λus s1 ⟨vs,H1,I1,r,x,ex,q⟩=>?_) he hpl;subst ex;obtain⟨u,rfl,rx⟩:=vals1 r;have hk:PK X [⟨some "key",.Name g kp,kpos⟩] (EY (tC (.ref f)) Wx):=Yq (lV hg hm rfl ac) aaO;refine thn (hk pos pins s1 σ H1 (λzs H2=>zs=[.ref f]/\H2=H1) I1 ⟨rfl,rfl⟩) λws s2 ⟨zs,H2,I2,rz,e1,e2⟩=>?_;subst e1 e2;obtain⟨w1,rfl,ab⟩:=vals1 rz;cases ab;exact VB F hr hb I2 rx q
def Iu{K:Fg_}{e:Expr}{t:TA}{g:Str}{p kp kpos pos:Pos}(q:X.K=K)(h:PE X (.Call (.Name "sorted" p) [e] [⟨some "key",.Name g kp,kpos⟩] pos) (TY X.K sp t)):PE X (.Call (.Name "sorted" p) [e] [⟨some "key",.Name g kp,kpos⟩] pos) (TY K sp t):=q▸h
def ap_tSortK{K:Fg_}{sp:Sp}{t:TA}{σ:St}{H:Hp}{Q:VK}:TY K sp t σ H Q=t σ H λvs H1=>∃x,vs=[x]/\Qc K sp x H1 Q:=rfl
def ap_rSortK{K:Fg_}{sp:Sp}{a:Addr}{H:Hp}{Q:VK}:Qc K sp (.ref a) H Q=∃(ys:List V)(kf:V->List Int),SqL K H a ys/\ys.length<64/\(∀y∈ys,kf y≠[]/\aje sp kf H y)/\
  ∀p zs H',Same H H'->H p=none->H' p=some (.lst zs)->zs.Perm ys->(∀m,(∀y∈ys,(kf y).length=m)->(ys.map kf).Nodup->zs.Pairwise λy z=>vQ (kf y) (kf z) false=true)->Q (.ref p) H':=by simp[Qc]
end
section
variable{X:Cx}
noncomputable def ajd:V->List V->Hp->VK->Prop:=λx vs H Q=>∃(l:Addr)(xs:List V)(i:Int)(y:V),x=.ref l/\vs=[.int i,y]/\H l=some (.lst xs)/\0<=i/\i<=xs.length/\i<1000000/\xs.length+1<=sizeLine/\Q .non (upd H l (.lst (xs.take i.toNat++y::xs.drop i.toNat)))
def Xx:MtM X "list.insert" ajd:=by
 intro pins s σ H x vs v us Q I rx rv h;obtain⟨l,xs,i,y,rfl,rfl,hH,ab,hk,ac,hz,q⟩:=h;cases rx;obtain⟨iv,u,rfl,r1,ru⟩:=rv.two;obtain⟨t,rfl⟩:=r1;obtain⟨z,its,n,r,hl,e⟩:=I.lstM hH
 have aa:¬(!Builtin.List.listFitsIndex i)=true:=by
  rw[fitsIndex_both (Int.le_trans (by decide) ab) (zz5 ac (by decide))];exact zN
 have hsz:its.toArray.size<=sizeLine:=by rw[zl,<-hl];exact z
 refine zz7 F.slot_list_insert ⟨_,e,rfl⟩ F.entry_list_insert (F.args_list_insert_3 _ _ _) (PySem.AutoSeq1.list_insert_list_int_val_1 l its.toArray n i t u aa hsz) ⟨e,?_⟩;refine⟨.non,_,I.lset (its':=its.take i.toNat++u::its.drop i.toNat) hH e ?_ ((r.take i.toNat).append (.cons ru (r.drop i.toNat))) ?_,rfl,q⟩
 ·have hm:(if i<0 then(i+(its.toArray.size:Int)).toNat else min i.toNat its.toArray.size)=i.toNat:=by
   rw[zc (by omega),zl];omega
  show(its.toArray.extract 0 (if i<0 then(i+(its.toArray.size:Int)).toNat else min i.toNat its.toArray.size)).push u++its.toArray.extract (if i<0 then(i+(its.toArray.size:Int)).toNat else min i.toNat its.toArray.size)=_;rw[hm];apply Array.toList_inj.mp;simp;exact z3 (by rw[yD];omega)
 ·rw[zB,zM,z0,yD]
  omega
end
end L2
namespace L2
open PySem PySem.Spec PyProof.Rows
def Zy{xs:List V}{us:List Value}(h:Vals xs us):Vals xs.reverse us.reverse:=by
 induction h with
 |nil=>exact .nil
 |cons r _ ih=>
  rw[List.reverse_cons,List.reverse_cons];exact ih.append (.cons r .nil)
section
variable{K:Fg_}{a:Addr}{xs:List V}{g:TG}{tt:TT}{te:TE}{σ:St}{H:Hp}{Q:VK}{cap:List (Option Nat)}
def lq.enumI(Sσ:St->Prop)(p:Nat->Bool)(hS:SqL K H a xs)(h0:Sσ (qi σ cap))(hz:xs.length<=sizeLine)
  (hs:∀(i:Nat) x,xs[i]? =some x->∀(σ:St)(H5:Hp)(q:Addr)(R1:St->VK)(R2:St->Hp->Prop),Sσ σ->Same H H5->H5 q=some (.tup [.int i,x])->(p i=true->∀z H6,Sσ z->Same H5 H6->R1 z (.int i) H6)->(p i=false->∀z H6,Sσ z->Same H5 H6->R2 z H6)->
   g (.ref q) σ H5 λz H4=>tt z H4 λb H5=>if b=true then te z H5 (R1 z)else R2 z H5)
  (k:∀D H',H D=Option.none->Same H H'->H' D=some (.lst (((List.range xs.length).filter p).map λi:Nat=>V.int i))->Q (.ref D) H'):lq cap (Ite K a) g tt te σ H Q:=by
 intro D hD;refine⟨λi m acc σ H2=>m=xs.length - i/\i<=xs.length/\Sσ σ/\Same H H2/\acc=((List.range i).filter p).map λi:Nat=>V.int i,⟨xs.length,rfl,zJ _,h0,iH hD,rfl⟩,?_⟩;rintro i m acc σ1 H2 ⟨rfl,hi,hσ,sm,rfl⟩ hA
 have ad:(((List.range i).filter p).map λi:Nat=>V.int i).length<=i:=by
  rw[za];exact zV (yk _ _) (by simp)
 by_cases ab:i<xs.length
 ·refine .inr ⟨⟨xs,xs[i],sm.seq hS,by simp[ab]⟩,λv H3 hy=>?_⟩
  obtain⟨q,x,hq,rfl,rfl,e1⟩:=hy;have hx:=e1 xs (sm.seq hS);have s3:=iH (o:=.tup [V.int i,x]) hq;refine hs i x hx σ1 _ q _ _ hσ (sm.trans s3) iC (λhp z H6 ac s6=>?_) λhp z H6 ac s6=>?_
  ·have aa:=(s3.trans s6) _ _ hA
   refine⟨_,aa,by omega,xs.length - (i+1),by omega,rfl,ab,ac,(sm.trans (s3.trans s6)).upd hD,?_⟩;rw[List.range_succ,yo,yq (by simpa using hp),zu];rfl
  ·have aa:=(s3.trans s6) _ _ hA
   refine⟨xs.length - (i+1),by omega,_,aa,rfl,ab,ac,sm.trans (s3.trans s6),?_⟩;rw[List.range_succ,yo,yr (by simpa using hp),zu];simp
 ·obtain rfl:i=xs.length:=by omega
  exact .inl ⟨⟨xs,sm.seq hS,zm _⟩,k D H2 hD sm hA⟩
end
end L2
namespace L2
open PySem PySem.W PySem.Spec PySem.Calls PyProof.Rows
noncomputable def UW(Pt:Addr)(H H':Hp):Prop:=∀b o,b≠Pt->H b=some o->H' b=some o
def UW.of{q:Addr}{H H':Hp}(h:Same H H'):UW q H H':=λb o _ e=>h b o e
def UW.trans{q:Addr}{H H1 H2:Hp}(h:UW q H H1)(k:UW q H1 H2):UW q H H2:=λb o n e=>k b o n (h b o n e)
end L2
namespace L2
open PySem PySem.W PySem.Spec PySem.Calls PyProof.Rows
structure alZ(z TI TO i1 i2 i3 l1 l2 l3:Addr):Prop where
 zz:TI≠z/\TO≠z/\i1≠z/\i2≠z/\i3≠z/\l1≠z/\l2≠z/\l3≠z
 to:TI≠TO/\i1≠TO/\i2≠TO/\i3≠TO/\l1≠TO/\l2≠TO/\l3≠TO
 ii:i1≠i2/\i1≠i3/\i2≠i3
 j1:TI≠i1/\l1≠i1/\l2≠i1/\l3≠i1
 j2:TI≠i2/\l1≠i2/\l2≠i2/\l3≠i2
 j3:TI≠i3/\l1≠i3/\l2≠i3/\l3≠i3
end L2
namespace L2
open PySem PySem.W PySem.Spec PySem.Calls PyProof.Rows
def aiL:typeLookup (.type "list_reverseiterator") "__len__" =pure none:=by rw[typeLookup_type,builtinLookup_eq_fast];kernel_rfl
def aav:typeLookup (.type "list_reverseiterator") "__length_hint__" =pure (some (.builtin "list_reverseiterator.__length_hint__")):=by rw[typeLookup_type,builtinLookup_eq_fast];kernel_rfl
def Zq:isSubtype (.type "list_reverseiterator") (.type "list_reverseiterator")=pure true:=by rw[isSubtype_type];kernel_rfl
section
variable{prog:Program}{w:World}{A:Around}{s:Shared}{R:Result->Shared->Prop}
def Vg{it l S:Addr}{items:Array Value}{c₀:Nat}{res:Value}(hh:A.in1.handled=none)(z:s.heap.IsRevIter it l ((items.size:Int) - 1))(hl:s.heap.IsList l items)(ad:l≠it)(aa:S≠it)(af:S≠l)(hn:items.size<=sizeLine)
  (hS:s.heap.get? S=some {cls:=.type "list",data:=.seq #[] c₀})
  (hR:∀s' q c',Moved [S,it] (λa b=>b=a) s s'->s'.heap.get? S=some {cls:=.type "list",dict:=none,data:=.seq q c',slots:= #[]}->ItemsOf (λi v=>items[items.size - 1 - i]? =some v) q items.size->R (.ok (.ret res)) s'):
  wpAny (model prog w) A.in1 (Builtin.List.listExtendWith (.ref S) (.ref it) res) (λac s'=>match ac with|.done f=>R (.ok f) s'|.again c'=>c'.quiet=true/\codeAny (model prog w) A c' R s') (λe s'=>R (.error e) s') s:=by
 have W:=Walks.listRev (prog:=prog) (w:=w) hh it l ad items;have hT:=z.typeIs;unfold Builtin.List.listExtendWith;refine zd (wpAny_typeOf hT ?_);have h1:Builtin.List.listSameRef (.ref S) (.ref it)=false:=by simp[Builtin.List.listSameRef,aa]
 have h2:(Value.type "list_reverseiterator" ==Value.type "list")=false:=by decide
 have h3:(Value.type "list_reverseiterator" ==Value.type "tuple")=false:=by decide
 simp only[h1,h2,h3,Bool.or_false,yA,if_false];refine zd (wpAny_pyIter_revIter z (zd (ym ?_)));unfold Builtin.List.listLengthHint;refine zd (zz9 hT aiL ?_);show wpAny _ A.in1 (specialOf (Value.ref it) (Str.ofString "__length_hint__")>>=_) _ _ _
 refine zd (zz9 hT aav ?_);dsimp only;rw[show splitId "list_reverseiterator.__length_hint__" =some ("list_reverseiterator", "__length_hint__")from by kernel_rfl];dsimp only;refine zd (wpAny_isInstance (T:= "list_reverseiterator") (b:=true) hT Zq ?_);rw[zc (by decide),zg (by kernel_rfl),zc (by decide)];refine zC ?_;rw[zc (by decide+kernel)];refine zC ⟨plainId_quiet F.plain_extend_loop _,codeAny_extend_loopS W.toS hn S (by simp[aa,af]) res items.size 0 _ #[] c₀ rfl (zJ _) ⟨zJ _,?_,hl⟩ hS (ItemsOf.nil _) λs' q c' hm ae ab=>hR s' q c' hm ae ab⟩;rw[show((items.size:Int) - 1 - ((0:Nat):Int))=(items.size:Int) - 1 by omega];exact z
end
section
variable{prog:Program}{w:World}{A:Around}{E:Value->Shared->Prop}{s:Shared}
def Mv{it l:Addr}{items:Array Value}{Q:Value->Shared->Prop}(hh:A.in1.in1.handled=none)(ab:s.heap.IsRevIter it l ((items.size:Int) - 1))(hl:s.heap.IsList l items)(af:l≠it)(hn:items.size<=sizeLine)
  (hQ:∀s' q c',(∀b o,b≠it->s.heap.get? b=some o->s'.heap.get? b=some o)->s'.gens=s.gens->s'.drawn=s.drawn->s'.os=s.os->
   s'.heap.get? s.heap.objs.size=some {cls:=.type "list",dict:=none,data:=.seq q c',slots:= #[]}->ItemsOf (λi v=>items[items.size - 1 - i]? =some v) q items.size->Q (.ref s.heap.objs.size) s'):
  wpAny (model prog w) A (call (.type "list") [.ref it]) Q E s:=by
 have ac:it<s.heap.objs.size:=by obtain⟨o,e,_⟩:=ab;exact zr e
 have aa:l<s.heap.objs.size:=by obtain⟨o,e,_⟩:=hl;exact zr e
 refine callType_codes (Q₁:=λobj s₁=>obj=.ref s.heap.objs.size/\s₁={s with heap:=s.heap.push {cls:=.type "list",data:=.seq #[]}}) F.called_list (F.typeCall_list_1 _) F.entry_list_init (code_list_new _ ⟨rfl,rfl⟩) λobj s₁ h₁=>?_;obtain⟨rfl,rfl⟩:=h₁;have hS:(s.heap.push {cls:=.type "list",data:=.seq #[]}).get? s.heap.objs.size=some {cls:=.type "list",data:=.seq #[]}:=zA _ rfl;have ae:=zzn (Obj.mapSeq (λ_=>(#[]:Array Value))) hS rfl
 have z:∀b o,b<s.heap.objs.size->s.heap.get? b=some o->((s.heap.push {cls:=.type "list",data:=.seq #[]}).update s.heap.objs.size (Obj.mapSeq (λ_=>(#[]:Array Value)))).get? b=some o:=λb o hb e=>
  (yt _ _ (yC hb)).trans (zb _ e)
 refine⟨⟨_,hS,rfl⟩,F.args_list_init_2 _ _,?_⟩;show wpAny _ A.in1.in1 (do let old<-Builtin.List.listItems (.ref s.heap.objs.size);Builtin.List.listUpdate (.ref s.heap.objs.size) (λ_=> #[]);letGo old.toList.reverse;Builtin.List.listExtendWith (.ref s.heap.objs.size) (.ref it) .none) _ _ _;refine zd ?_;unfold Builtin.List.listItems;refine zd (zzM hS rfl (zC ?_));show wpAny _ A.in1.in1 (updateSeq s.heap.objs.size (λ_=> #[])>>=λ_=>letGo (#[]:Array Value).toList.reverse>>=λ_=>Builtin.List.listExtendWith (.ref s.heap.objs.size) (.ref it) .none) _ _ _;refine zd (yya hS rfl (zd (zzU ?_)));refine Vg (l:=l) (items:=items) hh (ab.at λo e=>z _ o ac e) (hl.at λo e=>z _ o aa e) af (yC ac) (yC aa) hn ae λs' q c' hm ag ad=>?_;refine⟨rfl,hQ s' q c' (λb o hb e=>hm.heap b o (by simp[hb,zE (zr e)]) (z b o (zr e) e)) hm.gens hm.drawn hm.os ag ad⟩
end
section
variable{X:Cx}
noncomputable def GX(K:Fg_)(t:TA):TE:=λσ H Q=>t σ H λvs H1=>∃a ys,vs=[.ref a]/\SqL K H1 a ys/\∀l,H1 l=none->Q (.ref l) (upd H1 l (.lst ys.reverse))
def Vd{e:Expr}{t:TA}{p p2 pos aa:Pos}(hc:X.calm=true)(ai:Gl X "list") (ah:X.mg "list" =none) (af:Gl X "reversed") (ae:X.mg "reversed" =none) (ha:PA X [e] t)
  (hs:starEach [.Call (.Name "reversed" p2) [e] [] aa] X.env=[(false,eval (.Call (.Name "reversed" p2) [e] [] aa) X.env)]:=by rfl) (he:starEach [e] X.env=[(false,eval e X.env)]:=by rfl):
  PE X (.Call (.Name "list" p) [.Call (.Name "reversed" p2) [e] [] aa] [] pos) (GX X.K t):=by
 intro pins s σ H Q I h;refine yh (Bc I ai ah (show bootBuiltins "list" =some (.type "list")from by decide+kernel) ?_);refine PyProof.Rows.callWith_type1 (T:= "list") ?_ (by rw[hs];rfl) rfl;rw[hs];show wpAny _ _ (spliced ((false,eval (.Call (.Name "reversed" p2) [e] [] aa) X.env)::backTo pos [])) _ _ s;refine Calls.spliced_cons (yh (Bc I af ae (show bootBuiltins "reversed" =some (.type "reversed")from by decide+kernel) (PyProof.Rows.callWith_type1 (T:= "reversed") (thn (ha aa pins s σ H _ I h) λus s1 ⟨vs,H1,I1,r1,a,ys,ev,hq,q⟩=>?_) (by rw[he];rfl) rfl)));subst ev;obtain⟨u,rfl,ru⟩:=vals1 r1;cases ru;obtain⟨its,rv,pl,hz⟩:=I1.list hq;have hl:=pl.isList;have ag:a<s1.heap.objs.size:=by obtain⟨o,e,_⟩:=hl;exact zr e
 refine call_reversed_list hl (Calls.spliced_nil ?_);have I2:Inv X pins σ H1 {s1 with heap:=s1.heap.push (revObj a ((its.toArray.size:Int) - 1))}:=I1.kept (t':=s1.toks) λb o e=>zb _ e;have aj:(s1.heap.push (revObj a ((its.toArray.size:Int) - 1))).IsRevIter s1.heap.objs.size a ((its.toArray.size:Int) - 1):=⟨_,zA _ rfl,rfl,rfl⟩;have hf:RP X pins H1 s1.heap.objs.size:=I1.fpOk (zm _) (I1.hok.fresh (zm _));have hsz:its.toArray.size<=sizeLine:=by rw[zl,<-rv.length];exact hz
 refine Mv (s:={s1 with heap:=s1.heap.push (revObj a ((its.toArray.size:Int) - 1))}) (I.ok.hd hc) aj (hl.at λo e=>zb _ e) (zE ag) hsz λs' acc c k1 k2 k3 k4 hS ab=>?_;obtain⟨h',g,d,tk,os⟩:=s';obtain rfl:g=s1.gens:=k2;obtain rfl:d=s1.drawn:=k3;obtain rfl:os=s1.os:=k4;have e1:(s1.heap.push (revObj a ((its.toArray.size:Int) - 1))).objs.size=s1.heap.objs.size+1:=zzh ..;rw[show(({s1 with heap:=s1.heap.push (revObj a ((its.toArray.size:Int) - 1))}:Shared).heap.objs.size)=s1.heap.objs.size+1 from e1]at hS⊢
 have ac:acc.toList=its.reverse:=by
  refine zzl λi=>?_;by_cases hi:i<its.length
  ·have ad:i<acc.size:=by rw[ab.1,zl];exact hi
   have h2:its.toArray[its.toArray.size - 1 - i]? =some acc[i]:=ab.2 i acc[i] (y8 ad);rw[yG,y8 ad,List.getElem?_reverse hi];rw[zzq,zl]at h2;exact h2.symm
  ·rw[z5 (by rw[yb,ab.1,zl];omega),z5 (by rw[List.length_reverse];omega)]
 refine⟨.ref (s1.heap.objs.size+1),_,I2.turnedT (t':=tk) (fp:=[s1.heap.objs.size]) (T:=s1.heap.objs.size+1) (o:=.lst ys.reverse) (λb hb=>by rw[zy.mp hb];exact hf) (zz4 e1) (λb o hb e=>k1 b o (λz=>hb (by simp[z])) e) ?_,rfl,q _ (I1.hok.fresh (yp _))⟩;refine⟨by rw[List.length_reverse];exact hz,its.reverse,c,Zy rv,?_⟩;rw[<-ac,Array.toArray_toList];exact hS
def RT{K:Fg_}{t:TA}{e:Expr}(q:X.K=K)(h:PE X e (GX X.K t)):PE X e (GX K t):=q▸h
def ap_tListRev{K:Fg_}{t:TA}{σ:St}{H:Hp}{Q:VK}:GX K t σ H Q=t σ H λvs H1=>∃a ys,vs=[.ref a]/\SqL K H1 a ys/\∀l,H1 l=none->Q (.ref l) (upd H1 l (.lst ys.reverse)):=rfl
end
end L2
namespace L2
open PySem PySem.W PySem.Spec PySem.Calls PyProof.Rows
section
variable{prog:Program}{w:World}{A:Around}{R:Result->Shared->Prop}{I:Addr}{fp wr:List Addr}{G:Array GenState->Array GenState->Prop}{n:Nat}{P:Nat->Value->Prop}{St:Nat->Shared->Prop}
def YD(W:WalksS prog w A.in1 I fp wr G n P St)(bt:Nat->Nat->Bool)(ab:CmpOf prog w A.in1 .Lt P bt)(hb:∀j,0<j->j<n->bt j 0=false)(S:Addr)(ak:S∉fp)(dv v0:Value)(ah:P 0 v0):
  ∀(k j:Nat)(s:Shared)(c:Nat),n - (j+1)=k->j+1<=n->St (j+1) s->s.heap.get? S=some {cls:=.type "list",dict:=none,data:=.seq #[v0,v0] c,slots:= #[]}->
  (∀s',Moved (S::wr) G s s'->R (.ok (.ret v0)) s')->codeAny (model prog w) A (.builtin "min.loop" ⟨[.ref I,.none,.ref S],[("default",dv)]⟩) R s:=by
 have af:S∉wr:=λh=>ak (W.sub _ h);have q:∀b∈wr,b∈S::wr:=λb hb=>zt _ hb
 have aj:(toString "min" ++toString ".loop" :String)= "min.loop" :=by decide
 have ae:∀{b:Addr},b∉S::wr->S≠b:=λhb h=>hb (h▸zk);intro k
 induction k with
 |zero=>
  intro j s c hk hj z hS hR;have ai:j+1=n:=by omega
  refine codeAny_builtin F.entry_min_loop ?_;rw[Around.under_plainId F.plain_min_loop _];show wpAny _ A.in1 (seqItems? (.ref S)>>=_) _ _ s
  refine zd (zzM hS rfl ?_);show wpAny _ A.in1 (tryCatch (pyNext (.ref I)) _>>=_) _ _ s
  refine zd (y4 (W.done s _ _ (ai▸z) λs' hm=>?_));have hS':=hm.heap S _ af hS;show wpAny _ A.in1 (updateSeq S (λ_=> #[])>>=_) _ _ _
  refine zd (yya hS' rfl (zd (zzU (zC (hR _ ((hm.mono q).then_heap (tk:=s'.toks) (zm _) λb o hb e=>(yt _ _ (ae hb)).trans e))))))
 |succ k ih=>
  intro j s c hk hj z hS hR;have aa:j+1<n:=by omega
  refine codeAny_builtin F.entry_min_loop ?_;rw[Around.under_plainId F.plain_min_loop _];show wpAny _ A.in1 (seqItems? (.ref S)>>=_) _ _ s
  refine zd (zzM hS rfl ?_);show wpAny _ A.in1 (tryCatch (pyNext (.ref I)) _>>=_) _ _ s
  refine zd (y4 (W.item (j+1) s _ _ aa z λv s' hP ac hm=>?_));have hS':=hm.heap S _ af hS;show wpAny _ A.in1 (tryCatch (holding [v,v] (richCompare .Lt v v0>>=_)) _>>=_) _ _ _
  refine zd (y4 (ym (zd (ab (j+1) 0 v v0 _ _ _ hP ah (zd (ym (yf (zd (zzU (zC ?_))))))))));rw[hb (j+1) (Nat.succ_pos _) aa];simp only[yA,if_false];refine zd (zzU ?_);rw[aj];exact zC ⟨plainId_quiet F.plain_min_loop _,ih (j+1) _ c (by omega) aa ac hS' λag ad=>hR ag (Moved.trans W.gtrans (hm.mono q) ad)⟩
def UT(W:WalksS prog w A.in1 I fp wr G n P St)(bt:Nat->Nat->Bool)(ae:CmpOf prog w A.in1 .Lt P bt)(z:∀j,0<j->j<n->bt j 0=false)(S:Addr)(aa:S∉fp)(dv:Value){s:Shared}{c:Nat}(ad:St 0 s)(hS:s.heap.get? S=some {cls:=.type "list",dict:=none,data:=.seq #[] c,slots:= #[]})
  (hR:∀v s',(n=0->v=dv)->(0<n->P 0 v)->Moved (S::wr) G s s'->R (.ok (.ret v)) s'):codeAny (model prog w) A (.builtin "min.loop" ⟨[.ref I,.none,.ref S],[("default",dv)]⟩) R s:=by
 have ah:S∉wr:=λh=>aa (W.sub _ h);have q:∀b∈wr,b∈S::wr:=λb z=>zt _ z
 have aj:(toString "min" ++toString ".loop" :String)= "min.loop" :=by decide
 have ac:∀{b:Addr},b∉S::wr->S≠b:=λz h=>z (h▸zk);refine codeAny_builtin F.entry_min_loop ?_;rw[Around.under_plainId F.plain_min_loop _];show wpAny _ A.in1 (seqItems? (.ref S)>>=_) _ _ s
 refine zd (zzM hS rfl ?_);show wpAny _ A.in1 (tryCatch (pyNext (.ref I)) _>>=_) _ _ s
 by_cases hn:n=0
 ·refine zd (y4 (W.done s _ _ (hn▸ad) λs' hm=>?_))
  show wpAny _ A.in1 (rule _>>=_) _ _ _;exact zd (wpAny_rule (zC (hR dv _ (λ_=>rfl) (λh=>absurd h (by omega)) (hm.mono q))))
 ·have hp:0<n:=by omega
  refine zd (y4 (W.item 0 s _ _ hp ad λv s' hP af hm=>?_));have hS':=hm.heap S _ ah hS;show wpAny _ A.in1 (updateSeq S (λ_=> #[v,v])>>=_) _ _ _
  refine zd (yya hS' rfl ?_);rw[aj];refine zC ⟨plainId_quiet F.plain_min_loop _,YD W bt ae z S aa dv v hP _ 0 _ _ rfl hp (W.frame _ s' _ s'.toks af (zm _) λb ai o e=>(yt _ _ (λh:S=b=>aa (by rw[h];exact ai))).trans e) (zzn _ hS' rfl) λag ab=>?_⟩;exact hR v ag (λh=>absurd h hn) (λ_=>hP) (Moved.trans W.gtrans ((hm.mono q).then_heap (by first|exact zm _|exact yp _|omega) λb o z e=>(yt _ _ (ac z)).trans e) ab)
end
def ami(a v:Value):argsOk "min" ⟨[a],[(Str.ofString "default",v)]⟩:=by unfold argsOk;kernel_rfl
section
variable{prog:Program}{w:World}{A:Around}{E:Value->Shared->Prop}{s:Shared}
def Mq{l:Addr}{its:List Value}{ns:List Int}{dv:Value}{Q:Value->Shared->Prop}(hh:A.in1.handled=none)(hl:s.heap.IsList l its.toArray)(hi:IntsAre its ns)(ag:ns.Pairwise (·<·))
  (hQ:∀v h' tk,(ns=[]->v=dv)->(∀n r,ns=n::r->∃t,v=.int n t)->(∀b o,s.heap.get? b=some o->h'.get? b=some o)->Q v {s with heap:=h',toks:=tk}):
  wpAny (model prog w) A (call (.builtin "min") [.ref l] [(Str.ofString "default",dv)]) Q E s:=by
 have ah:(toString "min" ++toString ".loop" :String)= "min.loop" :=by decide
 have ad:l<s.heap.objs.size:=by obtain⟨o,e,_⟩:=hl;exact zr e
 have aa:wpAny (model prog w) A.in1 (Builtin.«min» ⟨[.ref l],[(Str.ofString "default",dv)]⟩) (λai s'=>match ai with
   |.done f=>(match(Except.ok f:Result)with|.ok (.ret v)=>Q v s'|.ok _=>False|.error e=>E e s')
   |.again c'=>c'.quiet=true/\codeAny (model prog w) A c' (λr s'=>match r with|.ok (.ret v)=>Q v s'|.ok _=>False|.error e=>E e s') s') E s:=by
  show wpAny _ A.in1 (Builtin.Builtins.bindParams "min" ["key", "default"] 0 ⟨[],[(Str.ofString "default",dv)]⟩>>=_) _ _ s;refine zd (wpAny_of_eq (show Builtin.Builtins.bindParams "min" ["key", "default"] 0 ⟨[],[(Str.ofString "default",dv)]⟩=pure [none,some dv]from rfl) (zd (zC (zd (yK hl ?_)))))
  have ia:∀(i:Nat) v,its.toArray[i]? =some v->∃t,v=.int (ns.getD i 0) t:=λi v e=>by
   rw[zzq]at e;have rv:=vV hi;have aj:i<its.length:=(zp.mp e).1;have ab:i<ns.length:=by have:=rv.length;rw[za]at this;omega
   obtain⟨u,hu,ru⟩:=rv.get (show(ns.map V.int)[i]? =some (.int ns[i]) by rw[zf,zh ab];rfl);rw[e]at hu;obtain rfl:=zw hu;obtain⟨t,rfl⟩:=ru;exact⟨t,by simp[ab]⟩
  have q:its.length=ns.length:=by have:=(vV hi).length;rw[za]at this;exact this.symm
  refine zd (zzy ?_ (zJ _));rw[ah];have W:=(Walks.list (prog:=prog) (w:=w) (A:=A.in1) hh s.heap.objs.size l (zE ad) its.toArray).toS;have e1:(s.heap.push {cls:=.type "list_iterator",data:=.fields #[.ref l,.int 0 0]}).objs.size=s.heap.objs.size+1:=zzh ..;refine zC ⟨plainId_quiet F.plain_min_loop _,UT W _ (CmpOf.ints_lt (λi=>ns.getD i 0) ia) (λj h0 hj=>?_) _ ?_ dv ?_ (zA _ rfl) λv s' h1 h2 hm=>?_⟩
  ·rw[zl,q]at hj
   have af:0<ns.length:=by omega
   have:=yv.mp ag 0 j af hj h0;have ej:ns.getD j 0=ns[j]:=by simp[hj]
   have e0:ns.getD 0 0=ns[0]:=by simp[af]
   rw[ej,e0];exact zF (by omega)
  ·show(s.heap.push _).objs.size∉[s.heap.objs.size,l]
   rw[e1];simp only[zv,zo,or_false,not_or];exact⟨Nat.succ_ne_self _,λz=>absurd ad (Nat.not_lt.mpr (z▸yp _))⟩
  ·exact⟨⟨_,zb _ (zA _ rfl),rfl,rfl⟩,hl.at λo e=>zb _ (zb _ e)⟩
  ·obtain⟨h',g,d,tk,os⟩:=s'
   obtain rfl:g=s.gens:=hm.gens;obtain rfl:d=s.drawn:=hm.drawn;obtain rfl:os=s.os:=hm.os;refine hQ v h' tk (λe=>h1 (by rw[zl,q,e];rfl)) (λn r e=>?_) λb o e=>hm.heap b o ?_ (zb _ (zb _ e))
   ·obtain⟨t,rfl⟩:=ia 0 v (h2 (by rw[zl,q,e];exact Nat.succ_pos _))
    exact⟨t,by rw[e];rfl⟩
   ·have ac:=zr e
    have e2:({s with heap:=s.heap.push {cls:=.type "list_iterator",data:=.fields #[.ref l,.int 0 0]}}:Shared).heap.objs.size=s.heap.objs.size+1:=e1;rw[e2];simp only[zv,zo,or_false,not_or];exact⟨λz=>absurd ac (Nat.not_lt.mpr (z▸yp _)),zE ac⟩
 refine zz6 (codeAny_call_builtin F.plain_min F.entry_min ?_);simp only[checkBuiltinCall,F.kind_min]
 cases ae:Manifest.signature? "min" with
 |none=>exact zC aa
 |some sig=>
  have ha':Bind.checkArgs "min" sig ⟨[.ref l],[(Str.ofString "default",dv)]⟩=pure ():=by simpa only[argsOk,ae] using ami (.ref l) dv
  simp only[ha'];exact zC aa
end
section
variable{X:Cx}
noncomputable def Zj(K:Fg_)(t:TA)(td:TE):TE:=λσ H Q=>t σ H λvs H1=>td σ H1 λy H2=>∃(a:Addr)(ns:List Int)(i:Int),vs=[.ref a]/\[y]=[.int i]/\SqL K H2 a (ns.map V.int)/\ns.Pairwise (·<·)/\Q (.int (ns.headD i)) H2
def aiB{e d:Expr}{t:TA}{td:TE}{p kpos pos:Pos}(hc:X.calm=true)(hg:Gl X "min") (hm:X.mg "min" =none) (ha:PA X [e] t) (hd:PE X d td)
  (he:backTo pos (starEach [e] X.env)=(false,eval e X.env)::backTo pos (starEach [] X.env):=by rfl) (hpl:(backTo pos (starEach [e] X.env)).any (·.1)=false:=by rfl):
  PE X (.Call (.Name "min" p) [e] [⟨some "default",d,kpos⟩] pos) (Zj X.K t td):=by
 intro pins s σ H Q I h;refine yh (Bc I hg hm (show bootBuiltins "min" =some (.builtin "min")from by decide+kernel) ?_);refine callWith_kw (thn (ha pos pins s σ H _ I h) λus s1 ⟨vs,H1,I1,r,q1⟩=>?_) he hpl;have hk:PK X [⟨some "default",d,kpos⟩] (EY td Wx):=Yq hd aaO;refine thn (hk pos pins s1 σ H1 (λzs H2=>∃(a:Addr)(ns:List Int)(i:Int),vs=[.ref a]/\zs=[.int i]/\SqL X.K H2 a (ns.map V.int)/\ns.Pairwise (·<·)/\Q (.int (ns.headD i)) H2) I1 q1) λws s2 ⟨zs,H2,I2,rz,a,ns,i,ev,ey,hS,z,q⟩=>?_;subst ev ey;obtain⟨u,rfl,ru⟩:=vals1 r;cases ru;obtain⟨v1,rfl,aa⟩:=vals1 rz;obtain⟨ab,rfl⟩:=aa;obtain⟨its,rv,pl,hz⟩:=I2.list hS;refine Mq (ns:=ns) (I.ok.hd hc) pl.isList (intsAre_of rv) z λv h' tk h1 h2 k=>⟨.int (ns.headD i),H2,I2.kept (t':=tk) k,?_,q⟩
 cases ns with
 |nil=>rw[h1 rfl];exact⟨_,rfl⟩
 |cons n r=>obtain⟨t,rfl⟩:=h2 n r rfl;exact⟨_,rfl⟩
def ap_tMinD{K:Fg_}{t:TA}{td:TE}{σ:St}{H:Hp}{Q:VK}:Zj K t td σ H Q=t σ H λvs H1=>td σ H1 λy H2=>∃(a:Addr)(ns:List Int)(i:Int),vs=[.ref a]/\[y]=[.int i]/\SqL K H2 a (ns.map V.int)/\ns.Pairwise (·<·)/\Q (.int (ns.headD i)) H2:=rfl
def aah{K:Fg_}{t:TA}{td:TE}{e:Expr}(q:X.K=K)(h:PE X e (Zj X.K t td)):PE X e (Zj K t td):=q▸h
end
end L2
namespace L2
open PySem PySem.W PySem.Spec PyProof.Rows
section
variable{P:Program}{w:World}{A:Around}{E:Value->Shared->Prop}{s:Shared}
theorem Uq{b f:Bool}{Q:Bool->Shared->Prop}:∀(xs:List Value)(i:Nat),Q f s->KatLex P w A b f Q (xs.zip xs) i s
 |[],i,h=>h
 |x::xs,i,h=>kat_cons (SeqAt.EqAt.same x P w _ _ (kat_yes (Uq xs (i+1) h)))
end
def ap_break{D:Ends}{σ:St}{H:Hp}:aaT D σ H=D.bk σ H:=rfl
section
variable{X:Cx}
def aiK{ys:List V}{ts:V->List Int}{m:Nat}(h1:∀y∈ys,(ts y).length=m)(h2:(ys.map ts).Nodup)(hn:1<=ys.length):
  Kok (λi j=>vQ (ts (ys.getD i .non)) (ts (ys.getD j .non)) false) ys.length (λp=>Prm ys.length p/\Uk ys ts p) (kas_sort ys.length):=by
 have hm:∀i,i<ys.length->(ts (ys.getD i .non)).length=m:=λi hi=>h1 _ (by simp[hi]);refine Kok.congr (λi j hi q=>?_) (Wt (ts:=ts) hn);rw[hm i hi,hm j q,zF (ya _)]
end
end L2
namespace L2
open PySem PySem.W PySem.Spec PySem.Calls PyProof.Rows
section
variable{X:Cx}
noncomputable def TF(K:Fg_):List V->Hp->VK->Prop:=λxs H Q=>∃(a:Addr)(ns:List Int),xs=[.ref a]/\SqL K H a (ns.map V.int)/\ns.length<64/\
 ∀p (ms:List Int),H p=none->ms.Perm ns->(ms.Pairwise λx y=>x<=y)->Q (.ref p) (upd H p (.lst (ms.map V.int)))
def Uy:nH X (.builtin "sorted") (TF X.K):=by
 intro pins s σ H xs us Q I r h;obtain⟨a,ns,rfl,hq,z,q⟩:=h;obtain⟨u,rfl,rx⟩:=vals1 r;cases rx;obtain⟨its,rv,pl,hz⟩:=I.list hq;have hi:IntsAre its ns:=intsAre_of rv;have aa:its.length=ns.length:=by rw[<-rv.length,za]
 refine sorted_ints pl.isList hi (by omega) λout ms h1 h2 h3=>?_;obtain⟨c,hc⟩:=sortedAll_at s.heap its out;refine⟨.ref (s.heap.objs.size+1),_,I.laid (t':=s.toks) (o:=.lst (ms.map V.int)) (λb o e=>sortedAll_old e) (yp _) ?_,rfl,q _ _ (I.hok.fresh (yp _)) h2 h3⟩;refine⟨by rw[za,h2.length_eq,zq];omega,out.toList,c,vV h1,?_⟩;rw[hc,Array.toArray_toList]
def Rb{K:Fg_}(q:X.K=K:=by rfl):nH X (.builtin "sorted") (TF K):=q▸Uy
def ap_rSortI{K:Fg_}{a:Addr}{H:Hp}{Q:VK}:TF K [.ref a] H Q=∃(ns:List Int),SqL K H a (ns.map V.int)/\ns.length<64/\
 ∀p (ms:List Int),H p=none->ms.Perm ns->(ms.Pairwise λx y=>x<=y)->Q (.ref p) (upd H p (.lst (ms.map V.int))):=by simp[TF]
end
end L2
namespace L2
open PySem PySem.W PySem.Spec PySem.Calls PyProof.Rows
noncomputable def Gy(v a:Addr):HO:=.ext λh=>h.IsItemsView v a
noncomputable def Iti(a:Addr)(o:Obj)(kvs:List (Key×V)):It:=⟨λi H=>H a=some (.frz o (.dK kvs))/\i<kvs.length,λi H x H'=>∃p k v,H p=none/\x=.ref p/\H'=upd H p (.tup [kV k,v])/\kvs[i]? =some (k,v),λi H=>H a=some (.frz o (.dK kvs))/\kvs.length<=i⟩
def aax:entryFor table "dict_itemiterator.__iter__" =some Builtin.«dict_keyiterator.__iter__»:=entryFor_alias (id':= "dict_keyiterator.__iter__") (by kernel_rfl) (by decide+kernel) (by decide+kernel) (by kernel_rfl)
def Rm{P:Program}{w:World}{A:Around}{E:Value->Shared->Prop}{s:Shared}{it d:Addr}{i n ep:Nat}{ok ov:Value}{Q:Value->Shared->Prop}(z:IsItemIter s.heap it d i n ep ok ov)(h:Q (.ref it) s):wpAny (model P w) A (pyIter (.ref it)) Q E s:=by
 have q:s.TypeIs (.ref it) "dict_itemiterator" :=⟨_,z,rfl⟩;refine zzT q F.slot_dict_itemiterator_iter (zzx F.slot_dict_itemiterator_iter q aax ?_ (F.args_dict_itemiterator_iter_1 _));show wpAny _ _ (ret (.ref it)) _ _ s;exact zC ⟨_,rfl, "dict_itemiterator",_,q,F.slot_dict_itemiterator_next.lookup,h⟩
def aaY{P:Program}{w:World}{k:Key}{u:Value}(h:(jF P w).is k u=true):RelV (kV k) u:=by
 rcases lG h with⟨i,t,rfl,rfl⟩|⟨x,t,rfl,rfl⟩
 ·exact⟨t,rfl⟩
 ·exact⟨t,rfl⟩
def VH{P:Program}{w:World}{K:Fg_}{elts:List Expr}{x1:Nat}{pos:Pos}{a it:Addr}{o:Obj}{kvs:List (Key×V)}{es:Array DictEntry}{ep:Nat}(ad:o.data=.dict es ep):Turn P w K (.Tuple elts x1 pos) (Iti a o kvs) [it] it (λi h=>∃ok ov,IsItemIter h it a i kvs.length ep ok ov) where
 mem:=by simp
 obj:=λi h st b hb=>by
  obtain rfl:b=it:=by simpa using hb
  obtain⟨ok,ov,e⟩:=st;exact⟨_,e,λv z=>by cases z⟩
 keep:=λi h h' st k=>let⟨ok,ov,e⟩:=st;⟨ok,ov,k it (by simp) _ e⟩
 item:=by
  intro X hP hw hK hc i pins s σ H E I hf st hg;subst hP hw hK;obtain⟨af,am⟩:=hg;obtain⟨vs,rel,ag⟩:=Lh I af ad;have ac:kvs.length=vs.length:=z4 rel;obtain⟨⟨k0,v0⟩,hx⟩:∃q,vs[i]? =some q:=⟨_,zh (by omega)⟩;obtain⟨p,hp,e1,e2⟩:=tX rel hx;obtain⟨ok,ov,aa⟩:=st;rw[ac]at aa;refine wpAny_pyNext_items_item aa ag (k:=k0) (v:=v0) hx λkey h' ak ai ah hsz ae=>?_;refine⟨_,rfl,wpAny_letOwnedTupleGo_items (s:={s with heap:=h'}) ai λaj ab sb=>?_⟩;have an:s.heap.objs.size≠it:=yC (zr aa)
  have k:∀c o,c∉[it]->s.heap.get? c=some o->aj.get? c=some o:=λc o hc e=>by
   have hc':c≠it:=by simpa using hc
   exact(sb.2 c hc').trans (ae c o hc' e)
  have al:aj.get? s.heap.objs.size=some {cls:=.type "tuple",data:=.seq #[key,v0]}:=(sb.2 _ an).trans ah;rw[<-ac]at ab
  refine ⟨.ref s.heap.objs.size,upd H s.heap.objs.size (.tup [kV p.1,p.2]),I.turnedT (t':=s.toks) hf (zm _) k ⟨by rw[zq];simp,[key,v0],.cons (aaY (by rw[show p.1=k0 from e1];exact ak)) (.cons e2 .nil),_,al,rfl,_,rfl⟩,rfl,
   ⟨_,p.1,p.2,I.hok.fresh (zm _),rfl,rfl,hp⟩,⟨_,_,ab⟩,λc hb=>?_⟩
  obtain rfl:c=it:=by simpa using hb
  rw[iQ (zE (zr aa))];exact(hf c hb).1
 done:=by
  intro X hP hw hK hc i pins s σ H E I hf st hg;subst hP hw hK;obtain⟨af,am⟩:=hg;obtain⟨vs,rel,ag⟩:=Lh I af ad;have ac:kvs.length=vs.length:=z4 rel;obtain⟨ok,ov,aa⟩:=st;rw[ac]at aa;obtain⟨f0,f1,f2,f3,f4,f5⟩:=hf it (by simp);exact wpAny_pyNext_items_end (I.ok.hd hc) aa ag (by simp;omega) λh' eb=>⟨rfl,I.turned (t':=s.toks) (λb o hb e=>eb b o hb e) f0 f1 f3 f4 f5⟩
 self:=λ_ _ _ _ _ ⟨_,_,st⟩ h=>Rm st h
section
variable{X:Cx}{elts:List Expr}{x1:Nat}{tpos:Pos}
noncomputable def aaP(tl:TE):TI:=λσ H R=>tl σ H λx H1=>∃v a kvs,x=.ref v/\H1 v=some (Gy v a)/\H1 a=some (.dK kvs)/\∀o,R (Iti a o kvs) (upd H1 a (.frz o (.dK kvs)))
def Th{l:Expr}{tl:TE}(hl:PE X l tl):PI X (.Tuple elts x1 tpos) l (aaP tl):=by
 intro pins s σ H R I h;refine thn (hl pins s σ H _ I h) λu s1 ⟨x,H1,I1,r1,v,a,kvs,ex,hv,ha,q⟩=>?_;subst ex;cases r1;obtain⟨aa,_,_⟩:=(show lW X.prog X.w H1 s1.heap v (Gy v a)from I1.hok v _ hv);obtain⟨z,ab,vs,rel,o,es,ep,q1,q2,q3,q4⟩:=(show lW X.prog X.w H1 s1.heap a (.dK kvs)from I1.hok a _ ha);have ad:kvs.length=vs.length:=z4 rel;have ac:s1.heap.DictAt (jF X.prog X.w) a vs ep:=⟨o,es,q1,q2,q3,q4⟩;refine wpAny_pyIter_items aa ac ?_;have I2:Inv X pins σ (upd H1 a (.frz o (.dK kvs))) s1:=I1.write (t':=s1.toks) (h':=s1.heap) (by rw[ha];exact True.intro) (.inl rfl) (λb u _ e=>e) ⟨o,q1⟩ (show lW X.prog X.w _ s1.heap a (.frz o (.dK kvs))from⟨q1,z,ab,vs,rel,o,es,ep,q1,q2,q3,q4⟩);refine⟨s1.heap.objs.size,[s1.heap.objs.size],_,_,_,rfl,I2.kept (t':=s1.toks) λb o e=>zb _ e,VH q3,⟨.none,.none,by rw[ad];exact zA _ rfl⟩,λb hb=>?_,q o⟩;obtain rfl:b=s1.heap.objs.size:=by simpa using hb
 exact I2.fpOk (zm _) (I2.hok.fresh (zm _))
noncomputable def Xn:V->List V->Hp->VK->Prop:=λx vs H Q=>∃a kvs,x=.ref a/\vs=[]/\H a=some (.dK kvs)/\∀v,H v=none->Q (.ref v) (upd H v (Gy v a))
def Uj:MtR X "dict.items" Xn:=by
 intro pins s σ H x vs v us Q I rx rv h;obtain⟨a,kvs,rfl,rfl,ha,q⟩:=h;cases rx;have ab:=rv.zero;subst ab;obtain⟨z,aa,ws,rel,dd⟩:=QZ I.hok ha;refine yL zzf dd.typeIs PySem.F.entry_dict_items (PySem.F.args_dict_items_1 _) (meets_dict_items (jF X.prog X.w) a aa) ⟨⟨ws,dd⟩,?_⟩;have hg:(s.heap.push {cls:=.type "dict_items",data:=.fields #[.ref a]}).IsItemsView s.heap.objs.size a:=⟨_,zA _ rfl,rfl,rfl⟩;exact⟨.ref s.heap.objs.size,_,I.laid (a:=s.heap.objs.size) (o:=Gy s.heap.objs.size a) (t':=s.toks) (λb o e=>zb _ e) (zm _) ⟨hg,⟨_,zA _ rfl⟩,λh1 h2 ⟨ov,e1,e2⟩ k=>⟨ov,k ov e1,e2⟩⟩,rfl,q _ (I.hok.fresh (zm _))⟩
end
section
variable{K:Fg_}{σ:St}{H:Hp}{Q:VK}{R:It->Hp->Prop}{tl:TE}{g:TG}{tt:TT}{te:TE}{cap:List (Option Nat)}{a:Addr}{o:Obj}{kvs:List (Key×V)}
def ap_iItems:aaP tl σ H R=tl σ H λx H1=>∃v a kvs,x=.ref v/\H1 v=some (Gy v a)/\H1 a=some (.dK kvs)/\∀o,R (Iti a o kvs) (upd H1 a (.frz o (.dK kvs))):=rfl
def ap_rItems:Xn (.ref a) [] H Q=∃kvs,H a=some (.dK kvs)/\∀v,H v=none->Q (.ref v) (upd H v (Gy v a)):=by simp[Xn]
def lq.itemsF(Sσ:St->Prop)(q:Key×V->Bool)(F:Key×V->V->Hp->Prop)(hH:H a=some (.frz o (.dK kvs)))(h0:Sσ (qi σ cap))(hz:kvs.length<=sizeLine)
  (hs:∀(D:Addr)(i:Nat)(z:Key×V),kvs[i]? =some z->∀(σ:St)(H5:Hp)(p:Addr)(R1:St->VK)(R2:St->Hp->Prop),Sσ σ->Same H H5->H D=Option.none->(∃acc,H5 D=some (.lst acc))->H5 p=Option.none->
   (q z=true->∀v σ4 H6,Sσ σ4->Same (upd H5 p (.tup [kV z.1,z.2])) H6->(∀H',But D H6 H'->F z v H')->R1 σ4 v H6)->(q z=false->∀σ4 H6,Sσ σ4->Same (upd H5 p (.tup [kV z.1,z.2])) H6->R2 σ4 H6)->
   g (.ref p) σ (upd H5 p (.tup [kV z.1,z.2])) λσ4 H4=>tt σ4 H4 λb H5=>if b=true then te σ4 H5 (R1 σ4)else R2 σ4 H5)
  (k:∀D H' acc,H D=Option.none->Same H H'->H' D=some (.lst acc)->acc.length=(kvs.filter q).length->(∀(i:Nat) v,acc[i]? =some v->∃z,(kvs.filter q)[i]? =some z/\F z v H')->Q (.ref D) H'):lq cap (Iti a o kvs) g tt te σ H Q:=by
 intro D hD;refine⟨λi m acc σ H2=>m=kvs.length - i/\i<=kvs.length/\Sσ σ/\Same H H2/\acc.length=((kvs.take i).filter q).length/\∀(j:Nat) v,acc[j]? =some v->∃z,((kvs.take i).filter q)[j]? =some z/\∀H',But D H2 H'->F z v H',⟨kvs.length,rfl,zJ _,h0,iH hD,rfl,λj v e=>by simp at e⟩,?_⟩;rintro i m acc σ1 H2 ⟨rfl,hi,hσ,sm,ad,hF⟩ hA;by_cases ae:i<kvs.length
 ·refine .inr ⟨⟨sm _ _ hH,ae⟩,λy H3 hy=>?_⟩
  obtain⟨p,k0,v0,hp,rfl,rfl,ag⟩:=hy;have htk:kvs.take (i+1)=kvs.take i++[(k0,v0)]:=by rw[zS,ag];rfl
  have al:((kvs.take i).filter q).length<=i:=zV (yk _ _) (by rw[z0];omega);have sn:=iH (o:=.tup [kV k0,v0]) hp;refine hs D i (k0,v0) ag σ1 H2 p _ _ hσ sm hD ⟨_,hA⟩ hp (λhf v σ4 H6 af s6 ah=>?_) λhf σ4 H6 af s6=>?_
  ·have ab:=sn.trans s6
   have ai:=ab _ _ hA;have ac:(kvs.take (i+1)).filter q=(kvs.take i).filter q++[(k0,v0)]:=by rw[htk,yo,yq hf];rfl
   refine⟨acc,ai,by omega,kvs.length - (i+1),by omega,rfl,ae,af,(sm.trans ab).upd hD,by rw[zB,ad,ac,zB];rfl,λj u hj=>?_⟩;rw[ac];by_cases aj:j<acc.length
   ·rw[z9 aj]at hj
    obtain⟨z,h1,h2⟩:=hF j u hj;refine⟨z,?_,λH' hb=>h2 H' λb o aa e=>hb b o aa ((iQ aa).trans (ab _ _ e))⟩;rw[z9 (by omega)];exact h1
   ·rw[z7 (by omega)]at hj
    have ak:j - acc.length=0:=by
     have:=(zp.mp hj).1;simp at this;omega
    rw[ak]at hj;cases hj;refine⟨(k0,v0),?_,λH' hb=>ah H' λb o aa e=>hb b o aa ((iQ aa).trans e)⟩;rw[z7 (by omega),show j - ((kvs.take i).filter q).length=0 by omega];rfl
  ·have ab:=sn.trans s6
   have ac:(kvs.take (i+1)).filter q=(kvs.take i).filter q:=by rw[htk,yo,yr (by rw[hf];decide)];simp
   refine⟨kvs.length - (i+1),by omega,acc,ab _ _ hA,rfl,ae,af,sm.trans ab,by rw[ac,ad],λj u hj=>?_⟩;rw[ac];obtain⟨z,h1,h2⟩:=hF j u hj;exact⟨z,h1,λH' hb=>h2 H' λb o aa e=>hb b o aa (ab _ _ e)⟩
 ·obtain rfl:i=kvs.length:=by omega
  rw[zU]at ad hF;refine .inl ⟨⟨sm _ _ hH,zm _⟩,k D H2 acc hD sm hA ad λj v e=>?_⟩;obtain⟨z,h1,h2⟩:=hF j v e;exact⟨z,h1,h2 H2 λb o _ e=>e⟩
end
end L2
namespace L2
open PySem PySem.W PySem.Spec PySem.Calls PyProof.Rows
noncomputable def Alike(ka kb:List (Key×V)):Prop:=ka.length=kb.length/\∀kv∈ka,∃i:Int,kv.2=.int i/\pF kb kv.1=some (.int i)
def XX{A:Around}{s:Shared}{kb:List (Key×V)}{vb:List (Key×Value)}(rb:KV kb vb):∀{ka:List (Key×V)}{va:List (Key×Value)},KV ka va->(∀kv∈ka,∃i:Int,kv.2=.int i/\pF kb kv.1=some (.int i))->PySem.W.KeqHits A s vb va true:=by
 intro ka va r
 induction r with
 |nil=>intro _;exact .nil
 | @cons p q ps qs h t ih=>
  intro z;obtain⟨i,e1,e2⟩:=z p zk;obtain⟨h1,h2⟩:=h;rw[e1]at h2;obtain⟨t1,e3⟩:=(show∃t,q.2=Value.int i t from h2);obtain⟨y,hy,ry⟩:=KH.some_of (v:=.int i) (o:=valueAt vb p.1) (by rw[<-e2];exact rb.val p.1);obtain⟨t2,e4⟩:=(show∃t,y=Value.int i t from ry);subst e4;have hh:PySem.W.KeqHits A s vb ((q.1,q.2)::qs) ((i==i) && true):=.hit (by rw[<-h1];exact hy) (by rw[e3];exact SeqAt.EqAt.int_int i t1 i t2) (ih λkv aa=>z kv (zt _ aa))
  simpa using hh
section
variable{X:Cx}
noncomputable def alm:R2:=λx y H Q=>∃(a b:Addr)(ka kb:List (Key×V)),x=.ref a/\y=.ref b/\Rd H a (.dK ka)/\Rd H b (.dK kb)/\Alike ka kb/\Q (.bl true) H
noncomputable def aln:R2:=λx y H Q=>∃(a b:Addr)(ka kb:List (Key×V)),x=.ref a/\y=.ref b/\Rd H a (.dK ka)/\Rd H b (.dK kb)/\Alike ka kb/\Q (.bl false) H
def akS{k:Nat}(hr:qW k X.A):OpR X (compareOp .Eq) alm:=by
 intro pins s σ H x y v u Q I rx ry h;obtain⟨a,b,ka,kb,rfl,rfl,h1,h2,⟨hl,z⟩,q⟩:=h;have hr':=hr.units;cases rx;cases ry;obtain⟨_,s1,va,ra,da⟩:=HF I.hok h1;obtain⟨_,s2,vb,rb,db⟩:=HF I.hok h2;refine PySem.W.keq_eq s1 s2 da db (by omega) (λ_=>XX rb ra z) ⟨.bl true,H,I,?_,q⟩;rw[<-ra.length,<-rb.length,hl];simp;rfl
def akR{k:Nat}(hr:qW k X.A):OpR X (compareOp .NotEq) aln:=by
 intro pins s σ H x y v u Q I rx ry h;obtain⟨a,b,ka,kb,rfl,rfl,h1,h2,⟨hl,z⟩,q⟩:=h;have hr':=hr.units;cases rx;cases ry;obtain⟨_,s1,va,ra,da⟩:=HF I.hok h1;obtain⟨_,s2,vb,rb,db⟩:=HF I.hok h2;refine PySem.W.keq_ne s1 s2 da db (by omega) (λ_=>XX rb ra z) ⟨.bl false,H,I,?_,q⟩;rw[<-ra.length,<-rb.length,hl];simp;rfl
def ap_eqM{a b:Addr}{H:Hp}{Q:VK}:alm (.ref a) (.ref b) H Q=∃(ka kb:List (Key×V)),Rd H a (.dK ka)/\Rd H b (.dK kb)/\Alike ka kb/\Q (.bl true) H:=by simp[alm]
def ap_neM{a b:Addr}{H:Hp}{Q:VK}:aln (.ref a) (.ref b) H Q=∃(ka kb:List (Key×V)),Rd H a (.dK ka)/\Rd H b (.dK kb)/\Alike ka kb/\Q (.bl false) H:=by simp[aln]
end
end L2
namespace L2
open PySem PySem.W PySem.Spec PySem.Calls PyProof.Rows
noncomputable def Itk(a:Addr)(o:Obj)(kvs:List (Key×V)):It:=⟨λi H=>H a=some (.frz o (.dK kvs))/\i<kvs.length,λi H x H'=>H'=H/\∃kv,kvs[i]? =some kv/\x=kV kv.1,λi H=>H a=some (.frz o (.dK kvs))/\kvs.length<=i⟩
def Ym{P:Program}{w:World}{A:Around}{E:Value->Shared->Prop}{s:Shared}{it d:Addr}{i n z:Nat}{Q:Value->Shared->Prop}(q:s.heap.IsKeyIter it d i n z)(h:Q (.ref it) s):wpAny (model P w) A (pyIter (.ref it)) Q E s:=by
 refine zzT q.typeIs F.slot_dict_keyiterator_iter (zzx F.slot_dict_keyiterator_iter q.typeIs F.entry_dict_keyiterator_iter ?_ (F.args_dict_keyiterator_iter_1 _));show wpAny _ _ (ret (.ref it)) _ _ s;exact zC ⟨_,rfl, "dict_keyiterator",_,q.typeIs,F.slot_dict_keyiterator_next.lookup,h⟩
def Yo{P:Program}{w:World}{K:Fg_}{tg:Expr}{a it:Addr}{o:Obj}{kvs:List (Key×V)}{es:Array DictEntry}{ep:Nat}(ab:o.data=.dict es ep):Turn P w K tg (Itk a o kvs) [it] it (λi h=>h.IsKeyIter it a i kvs.length ep) where
 mem:=by simp
 obj:=λi h st b hb=>by
  obtain rfl:b=it:=by simpa using hb
  obtain⟨oi,e,c,dd⟩:=st;exact⟨oi,e,λv z=>by rw[dd]at z;cases z⟩
 keep:=λi h h' st k=>let⟨oi,e,r⟩:=st;⟨oi,k it (by simp) oi e,r⟩
 item:=by
  intro X hP hw hK hc i pins s σ H E I hf st hg;subst hP hw hK;obtain⟨ac,ag⟩:=hg;obtain⟨vs,rel,ad⟩:=Lh I ac ab;have aa:kvs.length=vs.length:=z4 rel;obtain⟨f0,f1,f2,f3,f4,f5⟩:=hf it (by simp);obtain⟨⟨k0,v0⟩,hx⟩:∃q,vs[i]? =some q:=⟨_,zh (by omega)⟩;obtain⟨p,hp,e1,e2⟩:=tX rel hx;rw[aa]at st;refine wpAny_pyNext_dict_item st ad (k:=k0) (v:=v0) hx λkey h' af ae sb=>?_;have I1:Inv X pins σ H {s with heap:=h'}:=I.turned (t':=s.toks) (λb o hb e=>(sb.2 b hb).trans e) f0 f1 f3 f4 f5;obtain⟨oi,e,c,dd⟩:=id ae;rw[<-aa]at ae;exact⟨_,rfl,Uu (s:={s with heap:=h'}) e c dd (by decide) ⟨kV p.1,H,I1,aaY (by rw[show p.1=k0 from e1];exact af),⟨rfl,p,hp,rfl⟩,ae,λb hb=>(hf b hb).1⟩⟩
 done:=by
  intro X hP hw hK hc i pins s σ H E I hf st hg;subst hP hw hK;obtain⟨ac,ag⟩:=hg;obtain⟨vs,rel,ad⟩:=Lh I ac ab;have aa:kvs.length=vs.length:=z4 rel;obtain⟨f0,f1,f2,f3,f4,f5⟩:=hf it (by simp);rw[aa]at st;exact wpAny_pyNext_dict_end (I.ok.hd hc) st ad (by simp;omega) λh' eb=>⟨rfl,I.turned (t':=s.toks) (λb o hb e=>eb b o hb e) f0 f1 f3 f4 f5⟩
 self:=λ_ _ _ _ _ st h=>Ym st h
section
variable{X:Cx}{tg:Expr}
noncomputable def akr(tl:TE):TI:=λσ H R=>tl σ H λx H1=>∃a kvs,x=.ref a/\H1 a=some (.dK kvs)/\∀o,R (Itk a o kvs) (upd H1 a (.frz o (.dK kvs)))
def ajs{l:Expr}{tl:TE}(hl:PE X l tl):PI X tg l (akr tl):=by
 intro pins s σ H R I h;refine thn (hl pins s σ H _ I h) λu s1 ⟨x,H1,I1,r1,a,kvs,ex,ha,q⟩=>?_;subst ex;cases r1;obtain⟨z,aa,vs,rel,o,es,ep,q1,q2,q3,q4⟩:=(show lW X.prog X.w H1 s1.heap a (.dK kvs)from I1.hok a _ ha);have ac:kvs.length=vs.length:=z4 rel;have ab:s1.heap.DictAt (jF X.prog X.w) a vs ep:=⟨o,es,q1,q2,q3,q4⟩;refine wpAny_pyIter_dict aa ab ?_;have I2:Inv X pins σ (upd H1 a (.frz o (.dK kvs))) s1:=I1.write (t':=s1.toks) (h':=s1.heap) (by rw[ha];exact True.intro) (.inl rfl) (λb u _ e=>e) ⟨o,q1⟩ (show lW X.prog X.w _ s1.heap a (.frz o (.dK kvs))from⟨q1,z,aa,vs,rel,o,es,ep,q1,q2,q3,q4⟩);refine⟨s1.heap.objs.size,[s1.heap.objs.size],_,_,_,rfl,I2.kept (t':=s1.toks) λb o e=>zb _ e,Yo q3,⟨_,zA _ rfl,rfl,by rw[ac];rfl⟩,λb hb=>?_,q o⟩;obtain rfl:b=s1.heap.objs.size:=by simpa using hb
 exact I2.fpOk (zm _) (I2.hok.fresh (zm _))
end
section
variable{K:Fg_}{σ:St}{H:Hp}{R:It->Hp->Prop}{tl:TE}{g:TG}{tb:TS}{D:Ends}{a:Addr}{o:Obj}{kvs:List (Key×V)}
def ap_iKeys:akr tl σ H R=tl σ H λx H1=>∃a kvs,x=.ref a/\H1 a=some (.dK kvs)/\∀o,R (Itk a o kvs) (upd H1 a (.frz o (.dK kvs))):=rfl
end
end L2
namespace L2
open PySem PySem.W PySem.Spec PySem.Calls PyProof.Rows
section
variable{X:Cx}
def Inv.thaw{pins:List (Addr×Obj)}{σ:St}{H:Hp}{s:Shared}{a:Addr}{o:Obj}{kvs:List (Key×V)}(I:Inv X pins σ H s)(hH:H a=some (.frz o (.dK kvs)))(hn:∀o u,X.H₀ a≠some (.frz o u)):Inv X pins σ (upd H a (.dK kvs)) s:=by
 have ne:∀b,H b=none->b≠a:=λb n z=>by rw[z,hH]at n;cases n
 have nt:∀b xs,H b=some (.tup xs)->b≠a:=λb xs n z=>by rw[z,hH]at n;cases n
 have nw:∀b y,H b=some (.own y)->b≠a:=λb y n z=>by rw[z,hH]at n;cases n
 have aa:∀b ps,H b=some (.tbl ps)->b≠a:=λb y n z=>by rw[z,hH]at n;cases n
 refine⟨I.ok,I.os,I.bare,⟨I.base.keep,I.base.slot,λb ob q n hx=>?_,I.base.there,λb xs q=>?_,λb ob u q=>?_,λb ps q=>?_⟩,I.loc,I.cell,?_,λx c e=>?_,λp hp=>?_,λb u e=>?_,I.len⟩
 ·have h:=I.base.free b ob q n hx;rw[iQ (ne b h)];exact h
 ·have h:=I.base.tups b xs q;rw[iQ (nt b xs h)];exact h
 ·have h:=I.base.frzs b ob u q;rw[iQ (λz:b=a=>hn ob u (by rw[<-z];exact q))];exact h
 ·obtain⟨m,h⟩:=I.base.tbls b ps q;exact⟨m,by rw[iQ (aa b _ h)];exact h⟩
 ·rw[iQ (ne _ I.free)];exact I.free
 ·rw[iQ (ne _ (I.freeC x c e))];exact I.freeC x c e
 ·obtain⟨p1,p2,p3⟩:=I.pin p hp;exact⟨p1,by rw[iQ (ne _ p2)];exact p2,p3⟩
 ·by_cases hb:b=a
  ·subst hb
   rw[iC]at e;cases e;obtain⟨_,q⟩:=(show lW X.prog X.w H s.heap b (.frz o (.dK kvs))from I.hok b _ hH);exact lW.stay q (λ_ _ _ q=>q) (λc q=>by rw[iQ (nw c _ q)];exact q) λc xs q=>by rw[iQ (nt c xs q)];exact q
  ·rw[iQ hb]at e
   exact(I.hok b u e).stay (λ_ _ _ q=>q) (λc q=>by rw[iQ (nw c _ q)];exact q) λc xs q=>by rw[iQ (nt c xs q)];exact q
end
end L2
namespace L2
open PySem PySem.Spec PyProof.Rows
section
variable{prog:Program}{w:World}{A:Around}{E:Value->Shared->Prop}{h:Heap}{g:Array GenState}{d:Drawn}{t:Nat}{os:OsState}{a:Addr}{o:Obj}
 {nm q:Str} {C N:Addr} {bs bm bmB:List Value} {hdct:Bool} {sn:List Str} {sub:List Value} {ab:Bool} {col:Option Bool} {dd:Option Addr} {k0 k1 k2 k3 k5:Option Value} {B newId initId:String} {K:Fg_}
end
end L2
namespace L2
open PySem PySem.Spec PyProof.Rows
structure amg(K:Fg_)(C fI:Addr):Prop where
 ex:∃(nm qn:Str)(N:Addr)(bs bm:List Value)(sn:List Str)(sub:List Value)(ab:Bool)(col:Option Bool)(dd:Option Addr)(k0 k1 k2 k3 k5:Option Value),K.lookup C=some (excClassObj nm qn C N bs bm true sn sub ab col dd k0 k1 k2 k3 k5 "ValueError.__new__")/\PySem.W.tailIn K [.type "ValueError",.type "Exception",.type "BaseException",.type "object"] bm=true
 ini:PySem.W.findIn K (.ref C) "__init__" =some (some (.ref fI))
 fn:PySem.W.isFn K (.ref fI)=true
 sa:PySem.W.findIn K (.ref C) "__setattr__" =some (some (.builtin "object.__setattr__"))
 kp:PySem.W.keepIn K (.ref C)=true
section
variable{X:Cx}{CX:CXT}{k:Nat}{f C:Addr}{fd:FuncData}{ps ks:List Str}{sp:Sp}{dvs:List V}{ds:List Value}{E:XK}{x m fn:Str}{p np cpos pos apos:Pos}{e o:Expr}{es:List Expr}{ta tv:TE}{t tk:TA}
structure aml(K:Fg_)(B:Addr):Prop where
 ga:PySem.W.specialIn K (.ref B) "__getattribute__" =some (some (.builtin "type.__getattribute__"))
 rd:PySem.W.readsIn K B (.type "type")=true
 fi:PySem.W.findCls K (.ref B) (.type "type") "__init__" =some (.val (.builtin "ValueError.__init__"))
end
end L2
namespace L2
open PySem PySem.W PySem.Spec PyProof.Rows
section
variable{X:Cx}{K:Fg_}{a:Addr}{kvs:List (Key×V)}{pins:List (Addr×Obj)}{σ:St}{H:Hp}{s:Shared}
def Vj{t:TS}{z aa:List Stmt}{x:Option Expr}{n:Option Str}{ab pos:Pos}(h:PSs X.nox z t):PS X.nox (.Try z [.ExceptHandler x n aa ab] [] [] pos) t:=by
 intro pins s σ H D I hw;refine wpAny_Try_except (ye (h pins s σ H D I hw) (λf s1 q=>?_) λev s' hx=>hx.elim)
 cases f with
 |next=>exact zzB q
 |brk=>exact q
 |cont=>exact q
 |ret u=>exact q
variable{td ty:TE}{Q:VK}{w:World}
end
end L2
namespace HT
open PySem PyProof.Rows
noncomputable def lexLe:List Int->List Int->Bool
 |[],_=>true
 |_::_,[]=>false
 |x::xs,y::ys=>if x=y then lexLe xs ys else decide (x<=y)
def aae(A:Around)(s:Shared)(a:Int)(t:Tok)(c:Int)(u:Tok)(prog:Program)(w:World)(E:Value->Shared->Prop)(Q:Value->Shared->Prop)(h:Q (.bool (decide (a<=c))) s):
  wpAny (model prog w) A (richCompare .LtE (.int a t) (.int c u)) Q E s:=
 (PyProof.Rows.le_int h:wpAny (model prog w) A (compareOp .LtE (.int a t) (.int c u)) Q E s)
section
open PySem.SeqAt
open PySem.AutoSeq1 (wpAny_loadPart')
open PySem.MeetsSeq PySem.MeetsSeq2 PySem.MeetsSeq3
def Mi(l b:Addr)(xa xb:Array Value)(na nb:Nat)(da db:Option Addr)(sa sb:Array (Option Value))(ns ms:List Int)(hi:IntsAre xa.toList ns)(hj:IntsAre xb.toList ms):
  Meets (Builtin.«tuple.__le__» ⟨[.ref l,.ref b],[]⟩)
   (λ_ R s=>s.heap.get? l=some {cls:=.type "tuple",dict:=da,data:=.seq xa na,slots:=sa}/\s.heap.get? b=some {cls:=.type "tuple",dict:=db,data:=.seq xb nb,slots:=sb}/\
    R (.ok (.ret (.bool (lexLe ns ms)))) s):=
 .of_wp λprog w A R s h=>by
  obtain⟨hp,g,d,tk,os⟩:=s;obtain⟨hl,hb,h⟩:=h;have f2:=AutoSeq1.sub_tuple_tuple;have z1:xa.size=ns.length:=by rw[<-hi.length];simp
  have z2:xb.size=ms.length:=by rw[<-hj.length];simp
  wp_walk using wpAny_loadPart' hl,wpAny_loadPart' hb,wpAny_forIn_list _ (λrest b s'=>b.1=none/\s'=⟨hp,g,d,tk,os⟩/\∃(vs ws:List Value)(np mp:List Int),rest=vs.zip ws/\
   IntsAre vs np/\IntsAre ws mp/\np.length+xb.size=mp.length+xa.size/\R (.ok (.ret (.bool (lexLe np mp)))) ⟨hp,g,d,tk,os⟩) _
  case turn=>
   rintro⟨y,x⟩ rest b s'⟨ad,rfl,vs,ws,np,mp,hz,ab,ac,z,hR⟩
   cases ab with
   |nil=>rw[List.zip_nil_left]at hz;cases hz
   |cons a t hvi'=>cases ac with
    |nil=>rw[List.zip_nil_right]at hz;cases hz
    |cons c u hwi'=>
     rw[zze]at hz;injection hz with hyx hrest
     injection hyx with hy hx
     subst hy hx;unfold lexLe at hR;simp only[zM]at z;obtain⟨e,he,aa⟩:=Zu A.in1 ⟨hp,g,d,tk,os⟩ a t c u;refine zd (he prog w _ _ ?_)
     cases e with
     |true=>
      rw[zg (aa.mp rfl)]at hR
      wp_walk
      exact⟨rfl,rfl,_,_,_,_,hrest,hvi',hwi',by omega,hR⟩
     |false=>
      rw[zc (λq=>absurd (aa.mpr q) zN)]at hR;have ae:=aae A.in1 ⟨hp,g,d,tk,os⟩ a t c u prog w
      wp_walk using ae
      exact⟨_,rfl,by simpa using hR⟩
  case fin=>
   rintro⟨b1,b2⟩ s'⟨ad,rfl,vs,ws,np,mp,hz,ab,ac,z,hR⟩;simp only at ad;subst ad
   have hv:lexLe np mp=decide (xa.size<=xb.size):=by
    cases ab with
    |nil=>
     simp only[yT]at z;unfold lexLe;exact(zD (by omega)).symm
    |cons a t hv=>cases ac with
     |nil=>
      simp only[yT,zM]at z;unfold lexLe;exact(zF (by omega)).symm
     |cons c u hw=>rw[zze]at hz;cases hz
   rw[hv]at hR
   wp_walk
   exact⟨_,rfl,by simpa [Builtin.Tuple.tupleCompareSizes] using hR⟩
  case h=>exact⟨rfl,rfl,xa.toList,xb.toList,ns,ms,rfl,hi,hj,by omega,h⟩
end
section
variable{prog:Program}{w:World}{A:Around}{E:Value->Shared->Prop}{s:Shared}
def le_tupInts{l b:Addr}{xa xb:Array Value}{ns ms:List Int}{Q:Value->Shared->Prop}(hl:IsTup s.heap l xa)(hb:IsTup s.heap b xb)(hi:IntsAre xa.toList ns)(hj:IntsAre xb.toList ms)(hu:A.units<cLine)
  (h:Q (.bool (lexLe ns ms)) s):wpAny (model prog w) A (compareOp .LtE (.ref l) (.ref b)) Q E s:=by
 obtain⟨⟨cls,dd,data,sl⟩,ho,hc,n,hd⟩:=id hl;obtain⟨⟨ae,ab,ad,ac⟩,q,aa,n2,z⟩:=id hb;simp only at hc hd aa z;subst hc hd aa z
 exact richCompare_meets_room (op:=.LtE) ⟨_,ho,rfl⟩ ⟨_,q,rfl⟩ PySem.F.slot_tuple_le PySem.F.entry_tuple_le (PySem.F.args_tuple_le_2 _ _) (Mi l b xa xb n n2 dd ab sl ac ns ms hi hj)
  ⟨ho,q,show Value.bool (lexLe ns ms)≠Value.notImplemented/\Q (.bool (lexLe ns ms)) s from⟨(λx=>nomatch x),h⟩⟩ hu
end
end HT
namespace L2
open PySem PySem.W PySem.Spec PySem.Calls PyProof.Rows
section
variable{X:Cx}
noncomputable def amj(K:Fg_):R2:=λx y H Q=>∃a b ns ms,x=.ref a/\y=.ref b/\SqT K H a (ns.map V.int)/\SqT K H b (ms.map V.int)/\Q (.bl (HT.lexLe ns ms)) H
def ajo{K:Fg_}{k:Nat}(hr:qW k X.A)(hK:X.K=K:=by rfl):OpR X (compareOp .LtE) (amj K):=by
 subst hK;intro pins s σ H x y v u Q I rx ry h;obtain⟨a,b,ns,ms,rfl,rfl,ha,hb,q⟩:=h;cases rx;cases ry;obtain⟨its,r1,p1,_⟩:=I.tuple ha;obtain⟨z,r2,p2,_⟩:=I.tuple hb;exact HT.le_tupInts p1 p2 (show IntsAre its.toArray.toList ns from intsAre_of r1) (show IntsAre z.toArray.toList ms from intsAre_of r2) hr.units0 ⟨.bl (HT.lexLe ns ms),H,I,rfl,q⟩
noncomputable def aij(H0:Hp)(t:TE):TE:=λσ H Q=>t σ H λv H1=>∃a o kvs,H1 a=some (.frz o (.dK kvs))/\(∀o u,H0 a≠some (.frz o u))/\Q v (upd H1 a (.dK kvs))
def Xy{e:Expr}{t:TE}(h:PE X e t):PE X e (aij X.H₀ t):=by
 intro pins s σ H Q I q;exact thn (h pins s σ H _ I q) λv s1 ⟨x,H1,z,r1,a,o,kvs,h1,h2,h3⟩=>⟨x,_,z.thaw h1 h2,r1,h3⟩
def ap_thawV{H0:Hp}{t:TE}{σ:St}{H:Hp}{Q:VK}:aij H0 t σ H Q=t σ H λv H1=>∃a o kvs,H1 a=some (.frz o (.dK kvs))/\(∀o u,H0 a≠some (.frz o u))/\Q v (upd H1 a (.dK kvs)):=rfl
end
end L2
namespace L2
open PySem PySem.W PySem.Spec PySem.Calls PyProof.Rows
section
variable{X:Cx}
theorem TJ(f:Nat->Int):∀k:Nat,argBest (λi j=>decide (f i>f j)) k<=k/\∀i,i<=k->f i<=f (argBest (λi j=>decide (f i>f j)) k)
 |0=>⟨by simp[argBest],λi hi=>by cases Nat.le_zero.mp hi;simp[argBest]⟩
 |k+1=>by
  obtain⟨h1,h2⟩:=TJ f k;rw[argBest];by_cases h:f (k+1)>f (argBest (λi j=>decide (f i>f j)) k)
  ·rw[zg (zD h)]
   refine⟨zm _,λi hi=>?_⟩;rcases Nat.lt_or_ge i (k+1)with q|q
   ·have:=h2 i (by omega);omega
   ·have:i=k+1:=by omega
    subst this;exact zzQ _
  ·rw[zc (by simpa using h)]
   refine⟨by omega,λi hi=>?_⟩;rcases Nat.lt_or_ge i (k+1)with q|q
   ·exact h2 i (by omega)
   ·have:i=k+1:=by omega
    subst this;omega
noncomputable def ZS(K:Fg_):List V->Hp->VK->Prop:=λxs H Q=>∃(a:Addr)(ns:List Int),xs=[.ref a]/\SqL K H a (ns.map V.int)/\ns≠[]/\∀m,m∈ns->(∀x∈ns,x<=m)->Q (.int m) H
def Wr(hc:X.calm=true):nH X (.builtin "max") (ZS X.K):=by
 intro pins s σ H xs us Q I r h;obtain⟨a,ns,rfl,hq,ad,q⟩:=h;obtain⟨u,rfl,rx⟩:=vals1 r;cases rx;obtain⟨its,rv,pl,hz⟩:=I.list hq;have af:its.length=ns.length:=by rw[<-rv.length,za]
 have hl:=pl.isList;have ab:a<s.heap.objs.size:=by obtain⟨o,e,_⟩:=hl;exact zr e
 have ae:0<ns.length:=yj.mpr ad
 have ia:∀(i:Nat) v,its.toArray[i]? =some v->∃t,v=.int (ns.getD i 0) t:=λi v e=>by
  rw[zzq]at e;have hi:i<its.length:=(zp.mp e).1;have aa:i<ns.length:=by omega
  obtain⟨u,hu,ru⟩:=rv.get (show(ns.map V.int)[i]? =some (.int ns[i]) by rw[zf,zh aa];rfl);rw[e]at hu;obtain rfl:=zw hu;obtain⟨t,rfl⟩:=ru;exact⟨t,by simp[aa]⟩
 refine call_max_walk (yK hl ?_);refine⟨_,_,_,_,_,_,_,rfl,Walks.list (prog:=X.prog) (w:=X.w) (A:=X.A.in1) (I.ok.hd hc) s.heap.objs.size a (zE ab) its.toArray,?_,?_,by rw[zl];omega,CmpOf.ints_gt (λi=>ns.getD i 0) ia,λv h' tk hP hk=>?_⟩
 ·exact⟨⟨_,zA _ rfl,rfl,rfl⟩,hl.at λo e=>zb _ e⟩
 ·intro b hb
  rw[zzh];simp only[zv,zo,or_false]at hb;rcases hb with rfl|rfl
  ·exact zzs _
  ·exact zzR ab
 ·obtain⟨t,rfl⟩:=ia _ v hP
  have hb:=TJ (λi=>ns.getD i 0) (its.toArray.size - 1);rw[zl]at hb;have ac:argBest (λi j=>decide (ns.getD i 0>ns.getD j 0)) (its.length - 1)<ns.length:=by have:=hb.1;omega
  refine⟨.int _,H,I.kept (t':=tk) (λb o e=>hk b o (λz=>?_) (zb _ e)),⟨_,rfl⟩,q _ ?_ λx hx=>?_⟩
  ·simp only[zv,zo,or_false]at z
   subst z;exact absurd (zr e) (ya _)
  ·rw[zl]
   have e:∀k0,k0<ns.length->ns.getD k0 0∈ns:=λk0 h=>by
    have:ns.getD k0 0=ns[k0]:=by simp[h]
    rw[this];exact yE h
   exact e _ ac
  ·obtain⟨j,hj,ej⟩:=zZ hx
   have:=hb.2 j (by omega);rw[zl];have e:ns.getD j 0=x:=by simp[hj,ej]
   rw[<-e];exact this
def Ut{K:Fg_}(z:X.calm=true)(q:X.K=K:=by rfl):nH X (.builtin "max") (ZS K):=q▸Wr z
def ap_rMaxL{K:Fg_}{a:Addr}{H:Hp}{Q:VK}:ZS K [.ref a] H Q=∃(ns:List Int),SqL K H a (ns.map V.int)/\ns≠[]/\∀m,m∈ns->(∀x∈ns,x<=m)->Q (.int m) H:=by simp[ZS]
end
section
variable{P:Program}{w:World}{A:Around}{E:Value->Shared->Prop}{s:Shared}
theorem Yx{b f:Bool}{Q:Bool->Shared->Prop}:∀{ms ns:List Int}{r r':List V}{xs ys:List Value},Vals (ms.map V.int++r) xs->Vals (ns.map V.int++r') ys->ms.length=ns.length->ms≠ns->∀i,Q (vQ ms ns false) s->KatLex P w A b f Q (xs.zip ys) i s
 |[],[],_,_,_,_,_,_,_,hne,_,_=>(hne rfl).elim
 |[],_::_,_,_,_,_,_,_,hl,_,_,_=>by simp at hl
 |_::_,[],_,_,_,_,_,_,hl,_,_,_=>by simp at hl
 |m::ms,n::ns,_,_,_,_,r,r',hl,hne,i,h=>by
  rw[zi,zzt]at r r'
  cases r with
  |cons a1 a2=>
  cases r' with
  |cons b1 b2=>
  obtain⟨t,rfl⟩:=a1;obtain⟨t',rfl⟩:=b1;rw[zze];refine kat_cons (zz2 ?_);by_cases e:m=n
  ·rw[show(m==n)=true by simp[e]]
   refine kat_yes (Yx a2 b2 (by simpa using hl) (λz=>hne (by rw[e,z])) (i+1) ?_)
   rwa [vQ,zg e]at h
  ·rw[show(m==n)=false by simp[e]]
   refine kat_no ?_;rw[vQ,zc e]at h
   cases q:(b && i==0)with
   |true=>exact oneLt_int h
   |false=>exact kat_one _ _ (lt_int h)
def ZJ{G:Array Nat->Prop}{a:Addr}{us:List Value}{n m0:Nat}{R:PySem.Fin->Shared->Prop}(ks:Nat->List Int)(aa:s.heap.get? a=some (seqObj "list" us.toArray n)) (ae:us.length<64)
  (hT:∀i,i<us.length->(ks i).length=m0+1/\∃b o xs m r,us.getD i Value.none=.ref b/\b≠a/\s.heap.get? b=some o/\o.cls=.type "tuple" /\o.data=.seq xs m/\Vals ((ks i).map V.int++r) xs.toList)
  (an:∀i j,i<us.length->j<us.length->i≠j->ks i≠ks j)
  (hG:0<us.length->Kok (λi j=>vQ (ks i) (ks j) false) us.length G (kas_sort us.length)) (aq:us.length<2->G (List.range us.length).toArray) (am:∀p,G p->Prm us.length p)
  (ag:∀p:Array Nat,G p->R (.done (.ret .none)) {s with heap:=sortedHeap s.heap a us (List.toArray (p.toList.map λi=>us.getD i Value.none))}):
  wpAny (model P w) A (Builtin.«list.sort» ⟨[.ref a],[]⟩) R E s:=by
 have au:a<s.heap.objs.size:=zr aa;have af:us.toArray.size=us.length:=by simp
 rw[list_sort_plain];refine zd (listItems_at aa rfl ?_);refine zd (listUpdate_at aa rfl ?_ (by rw[af,zq];omega) (zJ _));obtain⟨e1,ac⟩:∃e1,(s.heap.update a (Obj.mapSeq λ_=> #[])).get? a=some (seqObj "list" #[] e1):=⟨_,get?_update_seq aa (λ_=> #[])⟩;refine zd (seqEpoch_at ac rfl ?_);refine zd (wpAny_newTuple ?_ (by show us.length<=_;rw[zq];omega));refine zd (zzy ?_ (zJ _));refine ym ?_
 have keep:∀b o,b≠a->s.heap.get? b=some o->(((s.heap.update a (Obj.mapSeq λ_=> #[])).push (seqObj "tuple" us.toArray 0)).push (seqObj "list" #[] 0)).get? b=some o:=λb o hb e=>
  zb _ (zb _ ((yc _ _ _ _ hb).trans e))
 have ap:∀b xs,b≠a->s.heap.IsTuple b xs->(((s.heap.update a (Obj.mapSeq λ_=> #[])).push (seqObj "tuple" us.toArray 0)).push (seqObj "list" #[] 0)).IsTuple b xs:=λb xs hb ⟨o,e,r⟩=>⟨o,keep b o hb e,r⟩;have q:(((s.heap.update a (Obj.mapSeq λ_=> #[])).push (seqObj "tuple" us.toArray 0)).push (seqObj "list" #[] 0)).get? a=some (seqObj "list" #[] e1):=zb _ (zb _ ac);show wpAny (model P w) A _ R E {s with heap:=((s.heap.update a (Obj.mapSeq λ_=> #[])).push (seqObj "tuple" us.toArray 0)).push (seqObj "list" #[] 0)};dsimp only;by_cases h2:us.toArray.size<2
 ·rw[zg h2,zg h2]
  refine zd (zC ?_);rw[StateT.run_pure];refine zd (zC ?_);dsimp only
  have ad:=kat_snds (ks:=us) (vs:=us) rfl (st:=SortSt.mk' general' (us.toArray.zip us.toArray) #[] 7 none) (p:=(List.range us.length).toArray) (by
   have e:=kas_range (us.toArray.zip us.toArray);rw[show(us.toArray.zip us.toArray).size=us.length by simp]at e;exact e.symm)
  rw[ad];refine zd (seqEpoch_at q rfl ?_);refine zd (listUpdate_at q rfl ?_ (zJ _) (by rw[zq];simp;omega));simp only[bne_self_eq_false,yA,if_false];exact zC (ag _ (aq (by rw[<-af];exact h2)))
 ·rw[zc h2,zc h2]
  have hn:0<us.length:=by omega
  obtain ⟨ff,k1,k2,k3⟩:=Eb (h:=((s.heap.update a (Obj.mapSeq λ_=> #[])).push (seqObj "tuple" us.toArray 0)).push (seqObj "list" #[] 0)) (us:=us) (by
   intro v hv;obtain⟨i,hi,e⟩:=zZ hv;obtain⟨g0,b,o,xs,m,r,g1,g2,g3,g4,g5,g6⟩:=hT i hi;have e2:us.getD i Value.none=v:=by rw[<-e];simp[hi]
   cases hq:ks i with
   |nil=>rw[hq]at g0;cases g0
   |cons z zs=>
    rw[hq,zi,zzt]at g6
    cases hx:xs.toList with
    |nil=>rw[hx]at g6;cases g6
    |cons u ur=>
     rw[hx]at g6
     cases g6 with
     |cons r1 r2=>
     obtain⟨t,rfl⟩:=r1;refine⟨b,o,xs,m,z,t,e2.symm.trans g1,keep _ _ g2 g3,g4,g5,?_⟩;rw[<-yG,hx];rfl)
  refine zd (kat_kind k1 (by omega) (λv hv=>?_) (T:=.type "int") rfl ?_)
  ·obtain⟨i,t,rfl⟩:=k3 v hv
   exact Looks.of_pure rfl
  refine zd (ye (kat_run (ks:=us) (vs:=us) (Q:=λab s'=>∃p:Array Nat,arrOf ab=p.map (kas_item (us.toArray.zip us.toArray))/\failedOf ab=none/\G p/\s'={s with heap:=((s.heap.update a (Obj.mapSeq λ_=> #[])).push (seqObj "tuple" us.toArray 0)).push (seqObj "list" #[] 0)})
   (G:=λp s'=>G p/\s'={s with heap:=((s.heap.update a (Obj.mapSeq λ_=> #[])).push (seqObj "tuple" us.toArray 0)).push (seqObj "list" #[] 0)}) rfl (by omega) ae (λp ab s' a1 a2 a3 a4=>⟨p,a2,a3,a4.1,a4.2⟩)
   (Kok.wp (lt:=λi j=>vQ (ks i) (ks j) false) (λi j C hi hj hC=>?_) (hG hn) λp hp=>⟨hp,rfl⟩)) ?_ λ_ _ e=>e)
  ·obtain⟨l1,b,o,xs,m,r,g1,g2,g3,g4,g5,g6⟩:=hT i hi
   obtain⟨l2,b',o',as,m',r',ai,aj,al,av,ao,ak⟩:=hT j hj;show wpAny _ _ (keyLt' _ (us.getD i Value.none) (us.getD j Value.none)) _ _ _;by_cases ah:i=j
   ·subst ah
    rw[g1];refine kat_lt (keep _ _ g2 g3) g5 (keep _ _ g2 g3) g5 (Uq _ 0 ?_);rw[RJ]at hC;rw[zF (ya _)];exact hC
   ·rw[g1,ai]
    exact kat_lt (keep _ _ g2 g3) g5 (keep _ _ aj al) ao (Yx g6 ak (l1.trans l2.symm) (an i j hi hj ah) 0 hC)
  ·rintro⟨⟨⟩,ab⟩ s'⟨p,ad,hf,hp,rfl⟩
   dsimp only;rw[kat_snds (ks:=us) (vs:=us) rfl ad];have ar:p.toList.length=us.length:=by rw[(am p hp).length_eq];simp
   refine zd (seqEpoch_at q rfl ?_);refine zd (listUpdate_at q rfl ?_ (zJ _) (by rw[zq];simp at ar⊢;omega));rw[hf];simp only[bne_self_eq_false,yA,if_false];exact zC (ag p hp)
end
section
variable{X:Cx}
noncomputable def Sv(K:Fg_):List V->Hp->VK->Prop:=λxs H Q=>∃(a:Addr)(ys:List V)(ts:V->List Int)(m:Nat),xs=[.ref a]/\SqL K H a ys/\ys.length<64/\(ys.map ts).Nodup/\
 (∀y∈ys,(ts y).length=m+1/\∃b r,y=.ref b/\SqT K H b ((ts y).map V.int++r))/\
 ∀p zs,H p=none->zs.Perm ys->(zs.Pairwise λy z=>vQ (ts y) (ts z) false=true)->Q (.ref p) (upd H p (.lst zs))
def UL:nH X (.builtin "sorted") (Sv X.K):=by
 intro pins s σ H xs us Q I r h;obtain⟨a,ys,ts,m0,rfl,hq,ak,aa,hT,q⟩:=h;obtain⟨u,rfl,rx⟩:=vals1 r;cases rx;obtain⟨its,rv,pl,hz⟩:=I.list hq;have z:ys.length=its.length:=rv.length;have hl:=pl.isList;refine Calls.call_function_entry kind_sorted plain_sorted entry_sorted (args_sorted1 _) ?_;unfold Builtin.«sorted»;refine zd (m:=checkCount "sorted" 1 1 _) (zC ?_);refine zd (collect_list hl ?_ (by omega));refine zd (zzy ?_ (by omega));have hsz:((s.heap.push (seqObj "list" #[] 0)).update s.heap.objs.size (Obj.mapSeq (·++its.toArray))).objs.size=s.heap.objs.size+1:=by rw[zz0,size_push']
 have ab:(((s.heap.push (seqObj "list" #[] 0)).update s.heap.objs.size (Obj.mapSeq (·++its.toArray))).push (seqObj "list" its.toArray 0)).get? (s.heap.objs.size+1)=some (seqObj "list" its.toArray 0):=by rw[<-hsz];exact zA _ rfl
 have keep:∀b o,s.heap.get? b=some o->(((s.heap.push (seqObj "list" #[] 0)).update s.heap.objs.size (Obj.mapSeq (·++its.toArray))).push (seqObj "list" its.toArray 0)).get? b=some o:=λb o e=>
  zb _ ((yc _ _ _ _ (zE (zr e))).trans (zb _ e))
 show wpAny _ _ _ _ _ {s with heap:=((s.heap.push (seqObj "list" #[] 0)).update s.heap.objs.size (Obj.mapSeq (·++its.toArray))).push (seqObj "list" its.toArray 0)};rw[hsz];have af:∀y∈ys,(ts y).length=m0+1:=λy hy=>(hT y hy).1;refine zd (ym (zzx slot_list_sort ⟨_,ab,rfl⟩ entry_list_sort (ZJ (m0:=m0) (G:=λp=>Prm its.length p/\Uk ys ts p) (λi=>ts (ys.getD i .non)) ab (by omega) (λi hi=>?_) (λi j hi hj ac e=>ac ?_) (λhn=>z▸aiK af aa (by omega)) (λh2=>⟨List.Perm.refl _,λm _ _ a b aj hb=>absurd aj (by omega)⟩) (λp hp=>hp.1) λp ag=>⟨_,rfl,zC ⟨_,rfl,?_⟩⟩) (args_list_sort _)))
 ·have hm:ys.getD i .non∈ys:=by
   have:i<ys.length:=by omega
   simp[this]
  obtain⟨g0,b,rr,e,hb⟩:=hT _ hm;obtain⟨tv,rt,it,al⟩:=I.tuple hb;obtain⟨o,ho,hc,m,hd⟩:=it;refine⟨g0,b,o,tv.toArray,m,rr,?_,?_,keep _ _ ho,hc,hd,rt⟩
  ·have:=CV rv (i:=i) (by omega)
   rw[e]at this;exact this
  ·exact zE (zzR (zr ho))
 ·refine(zzj (by rw[za];omega) aa).mp ?_
  rw[zf,zf,zh (show i<ys.length by omega),zh (show j<ys.length by omega)];have q1:ys.getD i .non=ys[i]'(by omega):=by simp[show i<ys.length by omega]
  have q2:ys.getD j .non=ys[j]'(by omega):=by simp[show j<ys.length by omega]
  rw[q1,q2]at e;exact congrArg some e
 ·obtain⟨hp,ae⟩:=ag
  have ah:∀i∈p.toList,i<ys.length:=λi hi=>by
   have:=yu.mp (hp.mem_iff.mp hi);omega
  have ad:p.toList.length=its.length:=by rw[hp.length_eq];simp
  have ai:(p.toList.map λi=>ys.getD i V.non).Perm ys:=by
   have:=hp.map λi=>ys.getD i V.non;rw[<-z,Ih]at this;exact this
  have kp:∀b o,s.heap.get? b=some o->(sortedAll s.heap its (List.toArray (p.toList.map λi=>its.getD i Value.none))).get? b=some o:=λb o e=>by
   have hb:b≠s.heap.objs.size+1:=zE (zzR (zr e));exact(yc _ _ _ _ hb).trans (zb _ (zb _ ((yc _ _ _ _ hb).trans (keep b o e))))
  obtain ⟨c,hc⟩:∃c,(sortedAll s.heap its (List.toArray (p.toList.map λi=>its.getD i Value.none))).get? (s.heap.objs.size+1)=some (seqObj "list" (List.toArray (p.toList.map λi=>its.getD i Value.none)) c):=
   ⟨_,get?_update_seq (zb _ (zb _ (get?_update_seq ab (λ_=> #[])))) _⟩
  refine⟨.ref (s.heap.objs.size+1),_,I.laid (t':=s.toks) kp (yp _) (show lW X.prog X.w _ _ _ (.lst (p.toList.map λi=>ys.getD i V.non))from⟨?_,_,c,Je rv ah,hc⟩),rfl,q _ _ (I.hok.fresh (yp _)) ai ?_⟩
  rotate_left
  ·refine yv.mpr λi j hi hj ac=>?_
   rw[za,ad,<-z]at hj;have h3:=ae (m0+1) af aa i j ac hj;have hs:p.size=ys.length:=by rw[<-yb,ad,z]
   have e1:p.getD i 0=p.toList[i]'(by rw[yb];omega):=by simp[Array.getD,show i<p.size by omega]
   have e2:p.getD j 0=p.toList[j]'(by rw[yb];omega):=by simp[Array.getD,show j<p.size by omega]
   rw[e1,e2]at h3;rw[yF,yF];exact h3
  rw[za,ad,zq];omega
def RN{K:Fg_}(q:X.K=K:=by rfl):nH X (.builtin "sorted") (Sv K):=q▸UL
def ap_rSortP{K:Fg_}{a:Addr}{H:Hp}{Q:VK}:Sv K [.ref a] H Q=∃(ys:List V)(ts:V->List Int)(m:Nat),SqL K H a ys/\ys.length<64/\(ys.map ts).Nodup/\
 (∀y∈ys,(ts y).length=m+1/\∃b r,y=.ref b/\SqT K H b ((ts y).map V.int++r))/\
 ∀p zs,H p=none->zs.Perm ys->(zs.Pairwise λy z=>vQ (ts y) (ts z) false=true)->Q (.ref p) (upd H p (.lst zs)):=by simp[Sv]
end
end L2
namespace L2
open PySem PySem.Spec PyProof.Rows
section
variable{K:Fg_}{H:Hp}{Q:VK}{σ:St}{v:V}{a0 a1 a2 a3 a4 a5 a6 a7 a8 a9:Option V}
def rd{x C dx:Addr}{fs:List (Str×V)}{f:Str}{R:V->Prop}(h:H x=some (.ins C dx fs))(c:Cls K C)(n:iZ K C f)(l:List.lookup f fs=some v)(k:R v):∃C dx fs,H x=some (.ins C dx fs)/\Cls K C/\iZ K C f/\∃v,List.lookup f fs=some v/\R v:=⟨C,dx,fs,h,c,n,v,l,k⟩
def sw{x C dx:Addr}{fs:List (Str×V)}{f:Str}{R:Addr->Addr->List (Str×V)->Prop}(h:H x=some (.ins C dx fs))(c:Cls K C)(n:iZ K C f)(l:fs.length<1000)(k:R C dx fs):∃C dx fs,H x=some (.ins C dx fs)/\Cls K C/\iZ K C f/\fs.length<1000/\R C dx fs:=⟨C,dx,fs,h,c,n,l,k⟩
def sz{n:Nat}(h:n<=1000:=by decide):n<=sizeLine:=by rw[zq];omega
def md{x C dx:Addr}{fs:List (Str×V)}{m:Str}{tab:List (Addr×Sp)}{sp:Sp}{R:Sp->Prop}(h:H x=some (.ins C dx fs))(i:(C,sp)∈tab)(l:List.lookup m fs=Option.none)(k:R sp):∃C dx fs,H x=some (.ins C dx fs)/\∃sp,(C,sp)∈tab/\List.lookup m fs=Option.none/\R sp:=⟨C,dx,fs,h,sp,i,l,k⟩
def ln0{α:Type}{P:List α->Prop}(h:P []):∀us:List α,us.length=0->P us:=by
 intro us e
 cases us with
 |nil=>exact h
 |cons=>cases e
def lnS{α:Type}{P:List α->Prop}{n:Nat}(h:∀a us,us.length=n->P (a::us)):∀us:List α,us.length=n+1->P us:=by
 intro us e
 cases us with
 |nil=>cases e
 |cons a us=>exact h a us (Nat.succ.inj e)
def ln1{α:Type}{P:List α->Prop}(h:∀a0,P [a0]):∀us:List α,us.length=1->P us:=lnS λa=>ln0 (h a)
def ln2{α:Type}{P:List α->Prop}(h:∀a0 a1,P [a0,a1]):∀us:List α,us.length=2->P us:=lnS λa=>ln1 (h a)
def ln3{α:Type}{P:List α->Prop}(h:∀a0 a1 a2,P [a0,a1,a2]):∀us:List α,us.length=3->P us:=lnS λa=>ln2 (h a)
def ln4{α:Type}{P:List α->Prop}(h:∀a0 a1 a2 a3,P [a0,a1,a2,a3]):∀us:List α,us.length=4->P us:=lnS λa=>ln3 (h a)
def ln5{α:Type}{P:List α->Prop}(h:∀a0 a1 a2 a3 a4,P [a0,a1,a2,a3,a4]):∀us:List α,us.length=5->P us:=lnS λa=>ln4 (h a)
def ln6{α:Type}{P:List α->Prop}(h:∀a0 a1 a2 a3 a4 a5,P [a0,a1,a2,a3,a4,a5]):∀us:List α,us.length=6->P us:=lnS λa=>ln5 (h a)
def ln7{α:Type}{P:List α->Prop}(h:∀a0 a1 a2 a3 a4 a5 a6,P [a0,a1,a2,a3,a4,a5,a6]):∀us:List α,us.length=7->P us:=lnS λa=>ln6 (h a)
def ln8{α:Type}{P:List α->Prop}(h:∀a0 a1 a2 a3 a4 a5 a6 a7,P [a0,a1,a2,a3,a4,a5,a6,a7]):∀us:List α,us.length=8->P us:=lnS λa=>ln7 (h a)
end
end L2
namespace L2
open PySem PySem.Spec PyProof.Rows
section
variable{X:Cx}{K:Fg_}{H:Hp}{Q:VK}{σ:St}{v:V}{a0 a1 a2 a3 a4 a5 a6 a7 a8 a9 a10 a11 a12 a13 a14:Option V}{P:V->Prop}{R:Addr->Prop}{i:Nat}{f m:Str}{tab:List (Addr×Sp)}{E:XK}{t:TA}{tv:TE}{D:Ends}{e:Expr}{tg:Expr}{st:Stmt}{a:Addr}
noncomputable def atV(σ:St)(i:Nat)(P:V->Prop):Prop:=match σ[i]? with
 |some (some v)=>P v
 |_=>False
noncomputable def onR(x:V)(P:Addr->Prop):Prop:=match x with
 |.ref a=>P a
 |_=>False
def atV_iff:atV σ i P=∃v,σ[i]? =some (some v)/\P v:=by
 unfold atV;split
 ·next v e=>exact propext ⟨λh=>⟨v,e,h⟩,fun⟨w,q,h⟩=>by rw[e]at q;cases q;exact h⟩
 ·next n=>exact propext ⟨λh=>h.elim,fun⟨w,q,_⟩=>(n w q).elim⟩
def Mh{x:V}:onR x R=∃a,x=.ref a/\R a:=propext ⟨λh=>by
 cases x<;>first|exact h.elim|exact⟨_,rfl,h⟩,fun⟨a,e,h⟩=>by rw[e];exact h⟩
noncomputable def tV(i:Nat):TE:=λσ H Q=>atV σ i λv=>Q v H
noncomputable def tFV(K:Fg_)(i:Nat)(f:Str):TE:=λσ H Q=>atV σ i λx=>onR x λa=>∃C dx fs,H a=some (.ins C dx fs)/\Cls K C/\iZ K C f/\∃v,List.lookup f fs=some v/\Q v H
noncomputable def tMV(tab:List (Addr×Sp))(m:Str)(E:XK)(i:Nat)(t:TA):TE:=λσ H Q=>atV σ i λx=>onR x λa=>∃C dx fs,H a=some (.ins C dx fs)/\∃sp,(C,sp)∈tab/\List.lookup m fs=none/\t σ H λvs H2=>sp (.ref a::vs) H2 Q E
noncomputable def sFV(K:Fg_)(i:Nat)(tv:TE)(f:Str):TS:=λD σ H=>tv σ H λy H1=>atV σ i λx=>onR x λa=>∃C dx fs,H1 a=some (.ins C dx fs)/\Cls K C/\iZ K C f/\fs.length<1000/\D.nx σ (upd H1 a (.ins C dx (Ez f y fs)))
noncomputable def iLV(K:Fg_)(i:Nat):TI:=λσ H R=>atV σ i λx=>onR x λa=>(∃xs,SqL K H a xs)/\R (Itl K a) H
def alo:Qo i=tV i:=funext λσ=>funext λH=>funext λQ=>atV_iff.symm
def akv:akf K (Qo i) f=tFV K i f:=by
 funext σ H Q;unfold tFV akf Qo;rw[atV_iff];simp only[Mh,exists_and_left]
def aaZ:Oc tab m E (Qo i) t=tMV tab m E i t:=by
 funext σ H Q;unfold tMV Oc Qo;rw[atV_iff];simp only[Mh];refine propext ⟨fun⟨v,e,a,C,dx,fs,sp,q,h1,h2,h3,z⟩=>⟨v,e,a,q,C,dx,fs,h1,sp,h2,h3,q▸z⟩,fun⟨v,e,a,q,C,dx,fs,h1,sp,h2,h3,z⟩=>⟨v,e,a,C,dx,fs,sp,q,h1,h2,h3,q▸z⟩⟩
def akA:akz K (Qo i) tv f=sFV K i tv f:=by
 funext D σ H;unfold sFV akz Qo;simp only[atV_iff,Mh,exists_and_left]
def akH:WY K (Qo i)=iLV K i:=by
 funext σ H R;unfold iLV WY Qo;rw[atV_iff];simp only[Mh]
noncomputable def ajy(x:Str):Bool:=!(x==("__debug__" :Str)) && !(x==("__classdict__" :Str))
def orl{α:Sort _}{a:α}{p:Prop}:a=a\/p:=Or.inl rfl
def orr{α:Sort _}{a:α}{p:Prop}:p\/a=a:=Or.inr rfl
def nd1{x:Str}:[x].Nodup:=zP.mpr ⟨zo,List.nodup_nil⟩
def nm1{x:Str}(h:ajy x=true):(x==("__debug__" :Str))=false:=by unfold ajy at h;revert h;cases x==("__debug__" :Str)<;>simp
def nm2{x:Str}(h:ajy x=true):(x==("__classdict__" :Str))=false:=by unfold ajy at h;revert h;cases x==("__classdict__" :Str)<;>simp
def pvD(i:Nat){x:Str}{pos:Pos}(q:X.N[i]? =some x:=by rfl)(hv:Vis X.env.scope x:=by walk_at "o") (hd:ajy x=true:=by rfl):PE X (.Name x pos) (tV i):=alo▸pv i q hv (nm1 hd) (nm2 hd)
def pav(i:Nat){x:Str}{pos:Pos}{es:List Expr}{t:TA}(q:PA X es t)(z:X.N[i]? =some x:=by rfl)(hv:Vis X.env.scope x:=by walk_at "o") (hd:ajy x=true:=by rfl) (hs:starEach (.Name x pos::es) X.env=(false,eval (.Name x pos) X.env)::starEach es X.env:=by rfl):PA X (.Name x pos::es) (EY (tV i) t):=ir (pvD i z hv hd) q hs
def ajk{pos:Pos}(z:PE X e (Qo i))(hb:attributeBase e f X.env (eval e X.env)=eval e X.env)(q:X.K=K:=by rfl):PE X (.Attribute e f pos) (tFV K i f):=akv▸ajn z hb q
def jr{o value:Expr}{pos pos':Pos}(ha:PE X o (Qo i))(hv:PE X value tv)(z:swapsWith value (some (.Attribute o f pos')) pos.line X.env=pure false)(q:X.K=K:=by rfl):PS X (.Assign [.Attribute o f pos'] value pos) (sFV K i tv f):=akA▸aip ha hv z q
def jM(z:PE X e (Qo i))(q:X.K=K:=by rfl):PI X tg e (iLV K i):=akH▸lJ z q
def jx{CX:CXT}{pos apos:Pos}{o:Expr}{es:List Expr}{pl:Sem Bool}(he:PE X o (Qo i))(T:XJ X CX m tab)(z:Ah CX X E)(ha:PA X (e::es) t)
  (q:starEach (e::es) X.env=(false,eval e X.env)::starEach es X.env:=by rfl) (hpl:(backTo pos (starEach es X.env)).any (·.1)=false:=by rfl)
  (ht:eval (.Call (.Attribute o m apos) (e::es) [] pos) X.env=(do
   let ov<-eval o X.env
   standAt apos.atName
   let(f,first)<-holding [ov] (getMethod ov m pl)
   callWith pos f first (backTo pos (starEach (e::es) X.env)) (backToKw pos (keywordEach [] X.env))):=by rfl):
  PE X (.Call (.Attribute o m apos) (e::es) [] pos) (tMV tab m E i t):=aaZ▸ZR (pl:=pl) he T z ha q hpl ht
def lZ{CX:CXT}{pos apos:Pos}{o:Expr}{pl:Sem Bool}(z:PE X o (Qo i))(T:XJ X CX m tab)(hx:Ah CX X E)
  (q:eval (.Call (.Attribute o m apos) [] [] pos) X.env=(do
   let ov<-eval o X.env
   standAt apos.atName
   let(f,first)<-holding [ov] (getMethod ov m pl)
   callWith pos f first (backTo pos (starEach [] X.env)) (backToKw pos (keywordEach [] X.env))):=by rfl):
  PE X (.Call (.Attribute o m apos) [] [] pos) (tMV tab m E i Wx):=aaZ▸XQ (pl:=pl) z T hx q
def av_V:tV i σ H Q=atV σ i λv=>Q v H:=rfl
def av_F:tFV K i f σ H Q=atV σ i λx=>onR x λa=>∃C dx fs,H a=some (.ins C dx fs)/\Cls K C/\iZ K C f/\∃v,List.lookup f fs=some v/\Q v H:=rfl
def av_M:tMV tab m E i t σ H Q=atV σ i λx=>onR x λa=>∃C dx fs,H a=some (.ins C dx fs)/\∃sp,(C,sp)∈tab/\List.lookup m fs=none/\t σ H λvs H2=>sp (.ref a::vs) H2 Q E:=rfl
def av_S:sFV K i tv f D σ H=tv σ H λy H1=>atV σ i λx=>onR x λa=>∃C dx fs,H1 a=some (.ins C dx fs)/\Cls K C/\iZ K C f/\fs.length<1000/\D.nx σ (upd H1 a (.ins C dx (Ez f y fs))):=rfl
def av_L{R:It->Hp->Prop}:iLV K i σ H R=atV σ i λx=>onR x λa=>(∃xs,SqL K H a xs)/\R (Itl K a) H:=rfl
def av_r:onR (.ref a) R=R a:=rfl
def av0:atV (some v::σ) 0 P=P v:=rfl
def av1:atV (a0::some v::σ) 1 P=P v:=rfl
def av2:atV (a0::a1::some v::σ) 2 P=P v:=rfl
def av3:atV (a0::a1::a2::some v::σ) 3 P=P v:=rfl
def av4:atV (a0::a1::a2::a3::some v::σ) 4 P=P v:=rfl
def av5:atV (a0::a1::a2::a3::a4::some v::σ) 5 P=P v:=rfl
def av6:atV (a0::a1::a2::a3::a4::a5::some v::σ) 6 P=P v:=rfl
def av7:atV (a0::a1::a2::a3::a4::a5::a6::some v::σ) 7 P=P v:=rfl
def av8:atV (a0::a1::a2::a3::a4::a5::a6::a7::some v::σ) 8 P=P v:=rfl
def av9:atV (a0::a1::a2::a3::a4::a5::a6::a7::a8::some v::σ) 9 P=P v:=rfl
def av10:atV (a0::a1::a2::a3::a4::a5::a6::a7::a8::a9::some v::σ) 10 P=P v:=rfl
def av11:atV (a0::a1::a2::a3::a4::a5::a6::a7::a8::a9::a10::some v::σ) 11 P=P v:=rfl
def av12:atV (a0::a1::a2::a3::a4::a5::a6::a7::a8::a9::a10::a11::some v::σ) 12 P=P v:=rfl
def av13:atV (a0::a1::a2::a3::a4::a5::a6::a7::a8::a9::a10::a11::a12::some v::σ) 13 P=P v:=rfl
def mc{CX:CXT}{C f:Addr}{fd:FuncData}{ps:List Str}{sp:Sp}{k n:Nat}{r:List (Addr×Sp)}(c:Cls X.K C)(hm:Meth X.K C m f)(F:jK X.prog X.w X.K X.mg X.base CX k f fd ps sp)(z:qW n X.A)(hb:Binds X.K fd ps [])(t:XJ X CX m r)(q:k<=n:=by decide):XJ X CX m ((C,sp)::r):=.cons c hm F (z.mono q) hb t
end
end L2
namespace L2
open PySem PySem.Spec PyProof.Rows
structure FG(K:Fg_)(mg:Str->Option Value)(x:Str)(st:Stmt)(f:Addr)(fd:FuncData):Prop where
 m:mg x=some (.ref f)
 k:PySem.W.keepIn K (.ref f)=true
 F:Fun K x x st f fd
section
variable{X:Cx}{t:TA}{e:Expr}
def pcg{k n:Nat}{f:Addr}{fd:FuncData}{ps:List Str}{sp:Sp}{x:Str}{st:Stmt}{p pos:Pos}{es:List Expr}(F:jK X.prog X.w X.K X.mg X.base CX0 k f fd ps sp)(z:qW n X.A)(g:FG X.K X.mg x st f fd)(hb:Binds X.K fd ps [])(ha:PA X (e::es) t)(q:k<=n:=by decide)(hg:Gl X x:=by rfl)(hd:(x==("__debug__" :Str))=false:=by decide)
  (hst:starEach (e::es) X.env=(false,eval e X.env)::starEach es X.env:=by rfl) (hpl:(backTo pos (starEach es X.env)).any (·.1)=false:=by rfl):PE X (.Call (.Name x p) (e::es) [] pos) (aao sp [] E0 t):=ait F (z.mono q) hg g.m g.k hb .nil jC ha hd hst hpl
end
end L2
local macro_rules | `(tactic| walk_at "u") => `(tactic| (rename_i h; first | (cases h; subst_vars; rfl) | (obtain ⟨e, _⟩ := h; subst e; rfl) | (obtain ⟨_, h⟩ := h; walk_at "u")))
local macro_rules | `(tactic| walk_at "v") => `(tactic| (intros; walk_at "u"))
local macro_rules | `(tactic| walk_at "k") => `(tactic| first | exact L2.CapOk.nil | (refine L2.CapOk.own ?_; walk_at "k") | (refine L2.CapOk.take (by with_unfolding_all rfl) (by first | exact Or.inl (by with_unfolding_all rfl) | exact Or.inr (by with_unfolding_all rfl)) (by first | exact Or.inl (by with_unfolding_all rfl) | exact Or.inr (by with_unfolding_all rfl)) (by with_unfolding_all rfl) ?_; walk_at "k"))
local macro_rules | `(tactic| walk_at "c") => `(tactic| (refine ⟨?c1, ?c3, ?c0, ?c4, ?c5, ?c6, ?c7⟩; (case c1 => with_unfolding_all rfl); (case c3 => walk_at "k"); (case c0 => rfl); (case c4 => decide +kernel); (case c5 => decide +kernel); (case c6 => with_unfolding_all rfl); (case c7 => (intro _; rfl))))
local macro_rules | `(tactic| walk_at "q") => `(tactic| simp only [↓L2.av_V, ↓L2.av_F, ↓L2.av_M, ↓L2.av_S, ↓L2.av_L, ↓L2.av0, ↓L2.av1, ↓L2.av2, ↓L2.av3, ↓L2.av4, ↓L2.av5, ↓L2.av6, ↓L2.av7, ↓L2.av8, ↓L2.av9, ↓L2.av10, ↓L2.av11, ↓L2.av12, ↓L2.av13, L2.av_r, L2.ap_iStr, L2.ap_fldK, L2.ap_sFld, L2.ap_methD, L2.ap_make, L2.ap_dget2, L2.ap_dget, L2.ap_dput, L2.ap_dnewK, L2.ap_dictOf, L2.ap_leS, L2.ap_rIsC, L2.ap_ixT, L2.ap_lenS, L2.ap_new0, L2.ap_dictPairs, L2.ap_iVals, L2.ap_rVals, L2.ap_dget1, L2.ap_tSortK, L2.ap_rSortK, L2.ap_tListRev, L2.ap_tMinD, L2.ap_break, L2.ap_rSortI, L2.ap_iItems, L2.ap_rItems, L2.ap_eqM, L2.ap_neM, L2.ap_iKeys, L2.ap_thawV, L2.ap_rMaxL, L2.ap_rSortP, L2.ap_iZip, L2.ap_iEnum, L2.ap_next, L2.ap_asg, L2.ap_name, L2.ap_var, L2.ap_c, L2.ap_op, L2.ap_un, L2.ap_rI, L2.ap_rI0, L2.ap_rU, L2.ap_rEq, L2.ap_rNe, L2.ap_ret, L2.ap_retN, L2.ap_drop, L2.ap_if, L2.ap_test, L2.ap_tB, L2.ap_and, L2.ap_or, L2.ap_not, L2.ap_andV, L2.ap_notV, L2.ap_ifE, L2.ap_call, L2.ap_nil, L2.ap_cons, L2.ap_cb, L2.ap_lst, L2.ap_tup, L2.ap_chain, L2.ap_sl, L2.ap_noPart, L2.ap_part, L2.ap_gNil, L2.ap_gCons, L2.ap_gTup, L2.ap_bm, L2.ap_bm0, L2.ap_ixL, L2.ap_slL, L2.ap_rLen, L2.ap_rSum, L2.ap_rAny, L2.ap_rAll, L2.ap_rListOf, L2.ap_rIsT, L2.ap_append, L2.ap_rCat, L2.ap_comp, L2.ap_iList, L2.ap_iRng1, L2.ap_noIf, L2.ap_rMax, L2.ap_rMin, L2.scal_int, L2.scal_str, L2.scal_bl, L2.start_eq, List.map_cons, List.map_nil, List.length_cons, List.length_nil, List.cons_append, List.nil_append, List.append_nil, List.replicate_succ, List.replicate_zero, Nat.reduceAdd, Nat.reduceSub, Nat.sub_self, List.set_cons_zero, List.set_cons_succ, List.getElem?_cons_zero, List.getElem?_cons_succ, Option.some.injEq, L2.V.int.injEq, L2.V.bl.injEq, L2.V.str.injEq, L2.V.ref.injEq, L2.V.ty.injEq, List.cons.injEq, exists_eq_left', exists_eq_left, exists_and_left, exists_eq', exists_eq, true_and, and_true, and_assoc, exists_const, Bool.not_true, Bool.not_false, if_true, if_false, Bool.false_eq_true, decide_true, decide_false, reduceCtorEq, Bool.not_eq_true', decide_eq_true_eq, decide_eq_false_iff_not])
local macro_rules | `(tactic| walk_at "i") => `(tactic| try walk_at "q")
local macro_rules | `(tactic| walk_at "a") => `(tactic| (repeat (first | simp only [L2.ap_seq, L2.ap_for] | walk_at "q")))
namespace L2
open PySem PySem.Spec PyProof.Rows
def fv{X:Cx}(K:Fg_)(i:Nat){x f:Str}{pos pos':PySem.Pos}(q:X.N[i]? =some x:=by rfl)(hv:Vis X.env.scope x:=by first|exact Or.inl rfl|exact Or.inr (Or.inl rfl)|exact Or.inr (Or.inr rfl))(hd:(x==("__debug__" :Str))=false:=by decide) (hcd:(x==("__classdict__" :Str))=false:=by decide) (hb:PySem.attributeBase (.Name x pos') f X.env (PySem.eval (.Name x pos') X.env)=PySem.eval (.Name x pos') X.env:=by rfl) (hK:X.K=K:=by rfl):PE X (.Attribute (.Name x pos') f pos) (tFV K i f):=ajk (pv i q hv hd hcd) hb hK
end L2
namespace My
open PySem L2 PyProof.Rows
open PySem.W (codeIn findCls findIn fnOf hasDictIn isFn keepIn kitOne makesIn mg_none_of mg_of mroIn nsIn plainGet plainOver readsIn specialIn takesIn)
noncomputable def top(i:Nat):Stmt:=PySem.Challenge.pw_lotledger_k66_gains_by_days.main.body.getD i (.Pass ⟨0,0,0,0⟩)
abbrev Eo:Stmt:=top 99
abbrev oJ:Stmt:=top 32
abbrev sV:Stmt:=top 33
abbrev Hw:Stmt:=top 35
abbrev wM:Stmt:=top 34
abbrev pH:Stmt:=inClass (top 25) 0
abbrev nR:Stmt:=inClass (top 31) 0
abbrev uO:Stmt:=top 36
abbrev mz:Stmt:=inClass (top 26) 0
abbrev uL:Stmt:=top 37
abbrev wR:Stmt:=top 38
abbrev lM:Stmt:=inClass (top 27) 0
abbrev qO:Stmt:=inClass (top 28) 0
abbrev lO:Stmt:=inClass (top 29) 0
abbrev pN:Stmt:=inClass (top 30) 0
abbrev xH:Stmt:=top 98
abbrev sE:Stmt:=top 85
abbrev su:Stmt:=top 46
abbrev Ew:Stmt:=top 45
abbrev DX:Stmt:=top 44
abbrev uN:Stmt:=inClass (top 73) 14
abbrev qj:Stmt:=inClass (top 73) 12
abbrev sZ:Stmt:=top 54
abbrev sU:Stmt:=inClass (top 52) 0
abbrev qu:Stmt:=inClass (top 52) 3
abbrev Er:Stmt:=top 53
abbrev Ei:Stmt:=inClass (top 73) 10
abbrev uF:Stmt:=inClass (top 73) 4
abbrev qU:Stmt:=top 76
abbrev Ce:Stmt:=inClass (top 72) 1
abbrev sI:Stmt:=top 81
abbrev mO:Stmt:=inClass (top 80) 2
abbrev qz:Stmt:=inClass (top 72) 0
abbrev tE:Stmt:=top 82
abbrev nM:Stmt:=inClass (top 80) 1
abbrev uQ:Stmt:=inClass (top 73) 3
abbrev rW:Stmt:=inClass (top 73) 5
abbrev pQ:Stmt:=top 50
abbrev HJ:Stmt:=top 48
abbrev Rp:Stmt:=top 49
abbrev JP:Stmt:=top 74
abbrev tG:Stmt:=inClass (top 63) 0
abbrev IK:Stmt:=top 57
abbrev qp:Stmt:=inClass (top 67) 1
abbrev Bh:Stmt:=inClass (top 52) 2
abbrev uM:Stmt:=top 55
abbrev qM:Stmt:=top 68
abbrev rN:Stmt:=inClass (top 64) 1
abbrev sH:Stmt:=inClass (top 65) 1
abbrev qH:Stmt:=inClass (top 52) 4
abbrev qP:Stmt:=top 69
abbrev qx:Stmt:=inClass (top 66) 1
abbrev BJ:Stmt:=top 70
abbrev pI:Stmt:=inClass (top 73) 11
abbrev sX:Stmt:=inClass (top 73) 6
abbrev rO:Stmt:=inClass (top 73) 7
abbrev sS:Stmt:=top 60
abbrev Bm:Stmt:=top 59
abbrev qJ:Stmt:=inClass (top 73) 8
abbrev xx:Stmt:=top 61
abbrev oR:Stmt:=inClass (top 73) 9
abbrev oW:Stmt:=inClass (top 73) 2
abbrev Bt:Stmt:=top 40
abbrev pG:Stmt:=top 41
abbrev oM:Stmt:=inClass (top 26) 3
abbrev oH:Stmt:=top 42
abbrev ou:Stmt:=inClass (top 27) 3
abbrev nZ:Stmt:=inClass (top 28) 3
abbrev nU:Stmt:=inClass (top 29) 3
abbrev nJ:Stmt:=inClass (top 30) 3
abbrev mF:Stmt:=inClass (top 31) 3
abbrev Bj:Stmt:=top 56
abbrev Bq:Stmt:=inClass (top 73) 13
abbrev HD:Stmt:=inClass (top 73) 1
abbrev qF:Stmt:=top 78
abbrev qI:Stmt:=inClass (top 73) 0
abbrev Jl:Stmt:=top 77
abbrev mL:Stmt:=inClass (top 80) 0
abbrev pK:Stmt:=top 83
abbrev rY:Stmt:=top 75
abbrev wK:Stmt:=inClass (top 73) 15
abbrev BR:Stmt:=top 104
abbrev xq:Stmt:=top 87
abbrev rP:Stmt:=top 88
abbrev Cg:Stmt:=top 86
abbrev pM:Stmt:=top 93
abbrev qC:Stmt:=top 94
abbrev Bd:Stmt:=top 92
abbrev vY:Stmt:=top 91
abbrev uD:Stmt:=top 90
abbrev Et:Stmt:=top 95
abbrev rM:Stmt:=top 96
abbrev Fe:Stmt:=top 89
abbrev rT:Stmt:=top 97
abbrev sW:Stmt:=top 3
abbrev uR:Stmt:=top 2
abbrev sY:Stmt:=top 1
abbrev qG:Stmt:=top 4
abbrev sO:Stmt:=inClass (top 72) 2
abbrev Bo:Stmt:=top 5
abbrev Bl:Stmt:=top 103
abbrev Ca:Stmt:=top 102
abbrev wN:Stmt:=top 101
abbrev Br:Stmt:=top 105
abbrev Zi:Stmt:=top 106
set_option genInjectivity false in
structure Adr where
 aa4:Addr
 aa5:Addr
 aa6:Addr
 aa7:Addr
 aa8:Addr
 aa9:Addr
 aba:Addr
 abb:Addr
 abc:Addr
 abd:Addr
 abe:Addr
 abf:Addr
 abg:Addr
 abh:Addr
 abi:Addr
 abj:Addr
 abk:Addr
 abl:Addr
 abm:Addr
 abn:Addr
 abo:Addr
 abp:Addr
 abq:Addr
 abr:Addr
 abt:Addr
 abu:Addr
 abv:Addr
 abw:Addr
 abx:Addr
 aby:Addr
 abz:Addr
 abA:Addr
 abB:Addr
 abC:Addr
 abD:Addr
 abE:Addr
 abF:Addr
 abG:Addr
 abH:Addr
 abI:Addr
 abJ:Addr
 abK:Addr
 abL:Addr
 abM:Addr
 abN:Addr
 abO:Addr
 abP:Addr
 abQ:Addr
 abR:Addr
 abS:Addr
 abT:Addr
 abU:Addr
 abV:Addr
 abW:Addr
 abX:Addr
 abY:Addr
 abZ:Addr
 ab0:Addr
 ab1:Addr
 ab2:Addr
 ab3:Addr
 ab4:Addr
 ab5:Addr
 ab6:Addr
 ab7:Addr
 ab8:Addr
 ab9:Addr
 aca:Addr
 acb:Addr
 acd:Addr
 ace:Addr
 acf:Addr
 acg:Addr
 ach:Addr
 aci:Addr
 acj:Addr
 ack:Addr
 acl:Addr
 acm:Addr
 acn:Addr
 aco:Addr
 acp:Addr
 acq:Addr
 acr:Addr
 acs:Addr
 act:Addr
 acu:Addr
 acv:Addr
 acw:Addr
 acx:Addr
 acy:Addr
 acz:Addr
 acA:Addr
 acB:Addr
 acC:Addr
 acD:Addr
 acE:Addr
 acF:Addr
 acG:Addr
 acH:Addr
 acI:Addr
 acJ:Addr
 acK:Addr
 acL:Addr
 law:Addr
 acM:Addr
 acN:Addr
 acO:Addr
 acP:Addr
 acQ:Addr
 acR:Addr
 acS:Addr
 acT:Addr
 acU:Addr
 acV:Addr
 acW:Addr
 acX:Addr
 acY:Addr
 acZ:Addr
 ac0:Addr
 ac1:Addr
 ac2:Addr
 ac3:Tok
 ac4:Tok
 ac5:Tok
 ac6:Tok
 ac7:Tok
 ac8:Tok
 ac9:Tok
 ada:Tok
 adb:Tok
set_option genInjectivity false in
structure Fds where
 aa4:FuncData
 aa5:FuncData
 aa6:FuncData
 aa7:FuncData
 aa8:FuncData
 aa9:FuncData
 aba:FuncData
 abb:FuncData
 abc:FuncData
 abd:FuncData
 abe:FuncData
 abf:FuncData
 abg:FuncData
 abh:FuncData
 abi:FuncData
 abj:FuncData
 abk:FuncData
 abl:FuncData
 abm:FuncData
 abn:FuncData
 abo:FuncData
 abp:FuncData
 abq:FuncData
 abr:FuncData
 abt:FuncData
 abu:FuncData
 abv:FuncData
 abw:FuncData
 abx:FuncData
 aby:FuncData
 abz:FuncData
 abA:FuncData
 abB:FuncData
 abC:FuncData
 abD:FuncData
 abE:FuncData
 abF:FuncData
 abG:FuncData
 abH:FuncData
 abI:FuncData
 abJ:FuncData
 abK:FuncData
 abL:FuncData
 abM:FuncData
 abN:FuncData
 abO:FuncData
 abP:FuncData
 abQ:FuncData
 abR:FuncData
 abS:FuncData
 abT:FuncData
 abU:FuncData
 abV:FuncData
 abW:FuncData
 abX:FuncData
 abY:FuncData
 abZ:FuncData
 ab0:FuncData
 ab1:FuncData
 ab2:FuncData
 ab3:FuncData
 ab4:FuncData
 ab5:FuncData
 ab6:FuncData
 ab7:FuncData
 ab8:FuncData
 ab9:FuncData
 aca:FuncData
 acb:FuncData
 acd:FuncData
 ace:FuncData
 acf:FuncData
 acg:FuncData
 ach:FuncData
 aci:FuncData
 acj:FuncData
 ack:FuncData
 acl:FuncData
 acm:FuncData
 acn:FuncData
 aco:FuncData
 acp:FuncData
 acq:FuncData
 acr:FuncData
 acs:FuncData
 act:FuncData
 acu:FuncData
 acv:FuncData
 acw:FuncData
 acx:FuncData
 acy:FuncData
 acz:FuncData
 acA:FuncData
 acB:FuncData
 acC:FuncData
 acD:FuncData
 acE:FuncData
 acF:FuncData
 acG:FuncData
 acH:FuncData
 acI:FuncData
 acJ:FuncData
 acK:FuncData
 acL:FuncData
 law:FuncData
structure Txt(K:Fg_)(mg:Str->Option Value)(A:Adr)(D:Fds):Prop where
 adc:FG K mg "_law_way" Eo A.aa4 D.aa4
 add:FG K mg "is_whole_number" oJ A.aa5 D.aa5
 ade:FG K mg "check_number" sV A.aa6 D.aa6
 adf:FG K mg "is_name" Hw A.aa7 D.aa7
 adg:FG K mg "check_name" wM A.aa8 D.aa8
 adh:Fun K "__init__" "Entry.__init__" pH A.aa9 D.aa9
 adi:Fun K "__init__" "Parting.__init__" nR A.aba D.aba
 adj:FG K mg "check_trade" uO A.abb D.abb
 adk:Zf K "__init__" "Buy.__init__" mz A.abc D.abc [V.int 0]
 adl:FG K mg "check_named" uL A.abd D.abd
 adm:FG K mg "named_copy" wR A.abe D.abe
 adn:Zf K "__init__" "Sell.__init__" lM A.abf D.abf [V.int 0,V.non]
 ado:Fun K "__init__" "Gift.__init__" qO A.abg D.abg
 adp:Zf K "__init__" "Give.__init__" lO A.abh D.abh [V.non]
 adq:Fun K "__init__" "Split.__init__" pN A.abi D.abi
 adr:FG K mg "_law_entry" xH A.abj D.abj
 ads:FG K mg "_law_cell_at" sE A.abk D.abk
 adt:FG K mg "refuse_twice" su A.abl D.abl
 adu:FG K mg "place_of" Ew A.abm D.abm
 adv:FG K mg "in_order" DX A.abn D.abn
 adw:Fun K "row_of" "Book.row_of" uN A.abo D.abo
 adx:Fun K "keep_row" "Book.keep_row" qj A.abp D.abp
 ady:FG K mg "place_in_row" sZ A.abq D.abq
 adz:Fun K "__init__" "Lot.__init__" sU A.abr D.abr
 adA:Fun K "with_more" "Lot.with_more" qu A.abt D.abt
 adB:FG K mg "row_with" Er A.abu D.abu
 adC:Fun K "put" "Book.put" Ei A.abv D.abv
 adD:Fun K "lay_on" "Book.lay_on" uF A.abw D.abw
 adE:FG K mg "cost_of_parts" qU A.abx D.abx
 adF:Fun K "gain" "Sale.gain" Ce A.aby D.aby
 adG:FG K mg "is_open_loss" sI A.abz D.abz
 adH:Fun K "may_take" "LayingBook.may_take" mO A.abA D.abA
 adI:Fun K "__init__" "Sale.__init__" qz A.abB D.abB
 adJ:FG K mg "sale_laid_on" tE A.abC D.abC
 adK:Fun K "lay_on" "LayingBook.lay_on" nM A.abD D.abD
 adL:Fun K "do_buy" "Book.do_buy" uQ A.abE D.abE
 adM:Fun K "do_gift" "Book.do_gift" rW A.abF D.abF
 adN:FG K mg "sum_of_weights" pQ A.abG D.abG
 adO:FG K mg "part_of" HJ A.abH D.abH
 adP:FG K mg "dealt" Rp A.abI D.abI
 adQ:FG K mg "sale_of" JP A.abJ D.abJ
 adR:Fun K "levelled" "Way.levelled" tG A.abK D.abK
 adS:FG K mg "cost_in" IK A.abL D.abL
 adT:Fun K "levelled" "Mean.levelled" qp A.abM D.abM
 adU:Fun K "taken" "Lot.taken" Bh A.abN D.abN
 adV:FG K mg "row_without" uM A.abO D.abO
 adW:FG K mg "picks_in_turn" qM A.abP D.abP
 adX:Fun K "picks" "Eldest.picks" rN A.abQ D.abQ
 adY:Fun K "picks" "Newest.picks" sH A.abR D.abR
 adZ:Fun K "is_dearer" "Lot.is_dearer" qH A.abS D.abS
 ad0:FG K mg "dearest_first" qP A.abT D.abT
 ad1:Fun K "picks" "Dearest.picks" qx A.abU D.abU
 ad2:FG K mg "gone_from" BJ A.abV D.abV
 ad3:Fun K "taken_for" "Book.taken_for" pI A.abW D.abW
 ad4:Fun K "do_sell" "Book.do_sell" sX A.abX D.abX
 ad5:Fun K "do_give" "Book.do_give" rO A.abY D.abY
 ad6:FG K mg "pieces_split" sS A.abZ D.abZ
 ad7:FG K mg "row_split" Bm A.ab0 D.ab0
 ad8:Fun K "do_split" "Book.do_split" qJ A.ab1 D.ab1
 ad9:FG K mg "row_parted" xx A.ab2 D.ab2
 aea:Fun K "do_parting" "Book.do_parting" oR A.ab3 D.ab3
 aeb:Fun K "do_by_kind" "Book.do_by_kind" oW A.ab4 D.ab4
 aec:FG K mg "held_with" Bt A.ab5 D.ab5
 aed:FG K mg "held_with_more" pG A.ab6 D.ab6
 aee:Fun K "held_behind" "Buy.held_behind" oM A.ab7 D.ab7
 aef:FG K mg "held_with_fewer" oH A.ab8 D.ab8
 aeg:Fun K "held_behind" "Sell.held_behind" ou A.ab9 D.ab9
 aeh:Fun K "held_behind" "Gift.held_behind" nZ A.aca D.aca
 aei:Fun K "held_behind" "Give.held_behind" nU A.acb D.acb
 aej:Fun K "held_behind" "Split.held_behind" nJ A.acd D.acd
 aek:Fun K "held_behind" "Parting.held_behind" mF A.ace D.ace
 ael:FG K mg "pieces_in" Bj A.acf D.acf
 aem:Fun K "held" "Book.held" Bq A.acg D.acg
 aen:Fun K "do" "Book.do" HD A.ach D.ach
 aeo:FG K mg "with_all_done" qF A.aci D.aci
 aep:Fun K "__init__" "Book.__init__" qI A.acj D.acj
 aeq:FG K mg "book_of" Jl A.ack D.ack
 aer:Fun K "__init__" "LayingBook.__init__" mL A.acl D.acl
 aes:FG K mg "laying_book_of" pK A.acm D.acm
 aet:FG K mg "copy_of_sale" rY A.acn D.acn
 aeu:Fun K "sales" "Book.sales" wK A.aco D.aco
 aev:FG K mg "_law_days" BR A.acp D.acp
 aew:FG K mg "_law_mixed" xq A.acq D.acq
 aex:FG K mg "_law_sources" rP A.acr D.acr
 aey:FG K mg "_law_take" Cg A.acs D.acs
 aez:FG K mg "_law_split_row" pM A.act D.act
 aeA:FG K mg "_law_part_row" qC A.acu D.acu
 aeB:FG K mg "_law_some" Bd A.acv D.acv
 aeC:FG K mg "_law_price" vY A.acw D.acw
 aeD:FG K mg "_law_pieces" uD A.acx D.acx
 aeE:FG K mg "_law_row" Et A.acy D.acy
 aeF:FG K mg "_law_counted" rM A.acz D.acz
 aeG:FG K mg "_law_raw" Fe A.acA D.acA
 aeH:FG K mg "_law_history" rT A.acB D.acB
 aeI:FG K mg "gain_of_part" sW A.acC D.acC
 aeJ:FG K mg "row_of_part" uR A.acD D.acD
 aeK:FG K mg "rows_of_sale" sY A.acE D.acE
 aeL:FG K mg "gains_between" qG A.acF D.acF
 aeM:Fun K "counted" "Sale.counted" sO A.acG D.acG
 aeN:FG K mg "gain_till" Bo A.acH D.acH
 aeO:FG K mg "_law_till" Bl A.acI D.acI
 aeP:FG K mg "_law_sums" Ca A.acJ D.acJ
 aeQ:FG K mg "_law_whole" wN A.acK D.acK
 aeR:FG K mg "_law_good" Br A.acL D.acL
 aeS:FG K mg "law" Zi A.law D.law
 aeT:mg "isinstance" =none
 aeU:mg "int" =none
 aeV:mg "bool" =none
 aeW:mg "all" =none
 aeX:mg "str" =none
 aeY:mg "len" =none
 aeZ:mg "list" =none
 ae0:mg "sorted" =none
 ae1:mg "zip" =none
 ae2:mg "any" =none
 ae3:mg "sum" =none
 ae4:mg "dict" =none
 ae5:mg "min" =none
 ae6:mg "reversed" =none
 ae7:mg "enumerate" =none
 ae8:mg "range" =none
 ae9:mg "max" =none
 afa:mg "Eldest" =some (.ref A.acM)
 afb:mg "Newest" =some (.ref A.acN)
 afc:mg "Dearest" =some (.ref A.acO)
 afd:mg "Mean" =some (.ref A.acP)
 afe:mg "Entry" =some (.ref A.acQ)
 aff:mg "Parting" =some (.ref A.acR)
 afg:mg "Buy" =some (.ref A.acS)
 afh:mg "Sell" =some (.ref A.acT)
 afi:mg "Gift" =some (.ref A.acU)
 afj:mg "Give" =some (.ref A.acV)
 afk:mg "Split" =some (.ref A.acW)
 afl:mg "Book" =some (.ref A.acX)
 afm:mg "Lot" =some (.ref A.acY)
 afn:mg "LayingBook" =some (.ref A.acZ)
 afo:mg "Sale" =some (.ref A.ac0)
 afp:mg "MOST_LETTERS" =some (.int 8 A.ac3)
 afq:mg "MOST_DAY" =some (.int 1000000 A.ac4)
 afr:mg "MOST_NUMBER" =some (.int 1000000 A.ac5)
 afs:mg "MOST_WHOLE" =some (.int 1000000 A.ac6)
 aft:mg "MOST_PIECES" =some (.int 1000000000 A.ac7)
 afu:mg "MOST_PRICE" =some (.int 1000000000 A.ac8)
 afv:mg "MOST_FEE" =some (.int 1000000000 A.ac9)
 afw:mg "MOST_GIFT_COST" =some (.int 1000000000000000000 A.ada)
 afx:mg "MOST_SPLIT" =some (.int 1000 A.adb)
 afy:Cls K A.acM
 afz:Cls K A.acN
 afA:Cls K A.acO
 afB:Cls K A.acP
 afC:Cls K A.acR
 afD:Oo K A.acR
 afE:iZ K A.acR "day"
 afF:iZ K A.acR "number"
 afG:iZ K A.acR "ware"
 afH:iZ K A.acR "other"
 afI:iZ K A.acR "share"
 afJ:iZ K A.acR "whole"
 afK:Cls K A.acS
 afL:Oo K A.acS
 afM:iZ K A.acS "day"
 afN:iZ K A.acS "number"
 afO:iZ K A.acS "ware"
 afP:iZ K A.acS "pieces"
 afQ:iZ K A.acS "price"
 afR:iZ K A.acS "fee"
 afS:iZ K A.acS "cost"
 afT:Cls K A.acT
 afU:Oo K A.acT
 afV:iZ K A.acT "day"
 afW:iZ K A.acT "number"
 afX:iZ K A.acT "ware"
 afY:iZ K A.acT "pieces"
 afZ:iZ K A.acT "price"
 af0:iZ K A.acT "fee"
 af1:iZ K A.acT "named"
 af2:iZ K A.acT "proceeds"
 af3:Cls K A.acU
 af4:Oo K A.acU
 af5:iZ K A.acU "day"
 af6:iZ K A.acU "number"
 af7:iZ K A.acU "ware"
 af8:iZ K A.acU "pieces"
 af9:iZ K A.acU "cost"
 aga:iZ K A.acU "since"
 agb:Cls K A.acV
 agc:Oo K A.acV
 agd:iZ K A.acV "day"
 age:iZ K A.acV "number"
 agf:iZ K A.acV "ware"
 agg:iZ K A.acV "pieces"
 agh:iZ K A.acV "named"
 agi:Cls K A.acW
 agj:Oo K A.acW
 agk:iZ K A.acW "day"
 agl:iZ K A.acW "number"
 agm:iZ K A.acW "ware"
 agn:iZ K A.acW "many"
 ago:iZ K A.acW "of"
 agp:Cls K A.acX
 agq:iZ K A.acX "way"
 agr:iZ K A.acX "rows"
 ags:iZ K A.acX "last_place"
 agt:iZ K A.acX "paid"
 agu:iZ K A.acX "brought"
 agv:iZ K A.acX "sales_done"
 agw:iZ K A.acX "givings_done"
 agx:Cls K A.acY
 agy:iZ K A.acY "number"
 agz:iZ K A.acY "since"
 agA:iZ K A.acY "pieces"
 agB:iZ K A.acY "cost"
 agC:Cls K A.acZ
 agD:iZ K A.acZ "way"
 agE:iZ K A.acZ "rows"
 agF:iZ K A.acZ "last_place"
 agG:iZ K A.acZ "paid"
 agH:iZ K A.acZ "brought"
 agI:iZ K A.acZ "sales_done"
 agJ:iZ K A.acZ "givings_done"
 agK:iZ K A.acZ "days"
 agL:iZ K A.acZ "layings"
 agM:Cls K A.ac0
 agN:iZ K A.ac0 "number"
 agO:iZ K A.ac0 "day"
 agP:iZ K A.ac0 "ware"
 agQ:iZ K A.ac0 "proceeds"
 agR:iZ K A.ac0 "parts"
 agS:iZ K A.ac0 "laid_on"
 agT:Mk K A.acR A.aba
 agU:Mk K A.acS A.abc
 agV:Mk K A.acT A.abf
 agW:Mk K A.acU A.abg
 agX:Mk K A.acV A.abh
 agY:Mk K A.acW A.abi
 agZ:Mk K A.acY A.abr
 ag0:Mk K A.ac0 A.abB
 ag1:Mk K A.acX A.acj
 ag2:Mk K A.acZ A.acl
 ag3:Mk0 K A.acM
 ag4:Mk0 K A.acN
 ag5:Mk0 K A.acO
 ag6:Mk0 K A.acP
 ag7:Meth K A.acY "with_more" A.abt
 ag8:Meth K A.acX "row_of" A.abo
 ag9:Meth K A.acZ "row_of" A.abo
 aha:Meth K A.acX "keep_row" A.abp
 ahb:Meth K A.acZ "keep_row" A.abp
 ahc:Meth K A.ac0 "gain" A.aby
 ahd:Meth K A.acZ "may_take" A.abA
 ahe:Meth K A.acX "put" A.abv
 ahf:Meth K A.acZ "put" A.abv
 ahg:Meth K A.acX "lay_on" A.abw
 ahh:Meth K A.acZ "lay_on" A.abD
 ahi:Meth K A.acY "taken" A.abN
 ahj:Meth K A.acY "is_dearer" A.abS
 ahk:Meth K A.acM "levelled" A.abK
 ahl:Meth K A.acN "levelled" A.abK
 ahm:Meth K A.acO "levelled" A.abK
 ahn:Meth K A.acP "levelled" A.abM
 aho:Meth K A.acM "picks" A.abQ
 ahp:Meth K A.acN "picks" A.abR
 ahq:Meth K A.acO "picks" A.abU
 ahr:Meth K A.acP "picks" A.abQ
 ahs:Meth K A.acX "taken_for" A.abW
 aht:Meth K A.acZ "taken_for" A.abW
 ahu:Meth K A.acX "do_buy" A.abE
 ahv:Meth K A.acZ "do_buy" A.abE
 ahw:Meth K A.acX "do_gift" A.abF
 ahx:Meth K A.acZ "do_gift" A.abF
 ahy:Meth K A.acX "do_sell" A.abX
 ahz:Meth K A.acZ "do_sell" A.abX
 ahA:Meth K A.acX "do_give" A.abY
 ahB:Meth K A.acZ "do_give" A.abY
 ahC:Meth K A.acX "do_split" A.ab1
 ahD:Meth K A.acZ "do_split" A.ab1
 ahE:Meth K A.acX "do_parting" A.ab3
 ahF:Meth K A.acZ "do_parting" A.ab3
 ahG:Meth K A.acX "do_by_kind" A.ab4
 ahH:Meth K A.acZ "do_by_kind" A.ab4
 ahI:Meth K A.acS "held_behind" A.ab7
 ahJ:Meth K A.acT "held_behind" A.ab9
 ahK:Meth K A.acU "held_behind" A.aca
 ahL:Meth K A.acV "held_behind" A.acb
 ahM:Meth K A.acW "held_behind" A.acd
 ahN:Meth K A.acR "held_behind" A.ace
 ahO:Meth K A.acX "held" A.acg
 ahP:Meth K A.acZ "held" A.acg
 ahQ:Meth K A.acX "do" A.ach
 ahR:Meth K A.acZ "do" A.ach
 ahS:Meth K A.acX "sales" A.aco
 ahT:Meth K A.acZ "sales" A.aco
 ahU:Meth K A.ac0 "counted" A.acG
 ahV:ajp K A.acQ "__init__" A.aa9
 ahW:ajp K A.acX "__init__" A.acj
 ahX:kitOne K (.ref A.acS) (.ref A.acT)=some false/\kitOne K (.ref A.acS) (.ref A.acU)=some false/\kitOne K (.ref A.acS) (.ref A.acV)=some false/\kitOne K (.ref A.acS) (.ref A.acW)=some false/\kitOne K (.ref A.acS) (.ref A.acR)=some false
 ahY:kitOne K (.ref A.acT) (.ref A.acS)=some false/\kitOne K (.ref A.acT) (.ref A.acU)=some false/\kitOne K (.ref A.acT) (.ref A.acV)=some false/\kitOne K (.ref A.acT) (.ref A.acW)=some false/\kitOne K (.ref A.acT) (.ref A.acR)=some false
 ahZ:kitOne K (.ref A.acU) (.ref A.acS)=some false/\kitOne K (.ref A.acU) (.ref A.acT)=some false/\kitOne K (.ref A.acU) (.ref A.acV)=some false/\kitOne K (.ref A.acU) (.ref A.acW)=some false/\kitOne K (.ref A.acU) (.ref A.acR)=some false
 ah0:kitOne K (.ref A.acV) (.ref A.acS)=some false/\kitOne K (.ref A.acV) (.ref A.acT)=some false/\kitOne K (.ref A.acV) (.ref A.acU)=some false/\kitOne K (.ref A.acV) (.ref A.acW)=some false/\kitOne K (.ref A.acV) (.ref A.acR)=some false
 ah1:kitOne K (.ref A.acW) (.ref A.acS)=some false/\kitOne K (.ref A.acW) (.ref A.acT)=some false/\kitOne K (.ref A.acW) (.ref A.acU)=some false/\kitOne K (.ref A.acW) (.ref A.acV)=some false/\kitOne K (.ref A.acW) (.ref A.acR)=some false
 ah2:kitOne K (.ref A.acR) (.ref A.acS)=some false/\kitOne K (.ref A.acR) (.ref A.acT)=some false/\kitOne K (.ref A.acR) (.ref A.acU)=some false/\kitOne K (.ref A.acR) (.ref A.acV)=some false/\kitOne K (.ref A.acR) (.ref A.acW)=some false
local macro_rules | `(tactic| walk_at "s") => `(tactic| exact ⟨rfl, rfl, rfl, by decide +kernel, rfl, by decide +kernel, by decide +kernel⟩)
def RK:iJ ["_law_cell"] ["_law_cell"] (iD Eo):=by walk_at "s"
def CK:iJ ["value"] ["value"] (iD oJ):=by walk_at "s"
def Hj:iJ ["what", "value", "least", "most"] ["what", "value", "least", "most"] (iD sV):=by walk_at "s"
def Uw:iJ ["value"] ["value"] (iD Hw):=by walk_at "s"
def Mw:iJ ["what", "value"] ["what", "value"] (iD wM):=by walk_at "s"
def Ed:iJ ["self", "day", "number", "ware"] ["self", "day", "number", "ware"] (iD pH):=by walk_at "s"
def BX:iJ ["self", "day", "number", "ware", "other", "share", "whole"] ["self", "day", "number", "ware", "other", "share", "whole"] (iD nR):=by walk_at "s"
def Kl:iJ ["pieces", "price", "fee"] ["pieces", "price", "fee"] (iD uO):=by walk_at "s"
def Ii:iJ ["self", "day", "number", "ware", "pieces", "price", "fee"] ["self", "day", "number", "ware", "pieces", "price", "fee"] (iD mz):=by walk_at "s"
def Ko:iJ ["named", "pieces", "seen", "lot", "lot_pieces"] ["named", "pieces"] (iD uL):=by walk_at "s"
def Mj:iJ ["named"] ["named"] (iD wR):=by walk_at "s"
def GP:iJ ["self", "day", "number", "ware", "pieces", "price", "fee", "named"] ["self", "day", "number", "ware", "pieces", "price", "fee", "named"] (iD lM):=by walk_at "s"
def Gj:iJ ["self", "day", "number", "ware", "pieces", "cost", "since"] ["self", "day", "number", "ware", "pieces", "cost", "since"] (iD qO):=by walk_at "s"
def Gg:iJ ["self", "day", "number", "ware", "pieces", "named"] ["self", "day", "number", "ware", "pieces", "named"] (iD lO):=by walk_at "s"
def Ef:iJ ["self", "day", "number", "ware", "many", "of"] ["self", "day", "number", "ware", "many", "of"] (iD pN):=by walk_at "s"
def MK:iJ ["_law_row_here"] ["_law_row_here"] (iD xH):=by walk_at "s"
def JQ:iJ ["_law_script", "_law_k"] ["_law_script", "_law_k"] (iD sE):=by walk_at "s"
def oh:iJ ["numbers", "rising", "ahead", "behind"] ["numbers"] (iD su):=by walk_at "s"
def Rh:iJ ["entry"] ["entry"] (iD Ew):=by walk_at "s"
def Ra:iJ ["entries"] ["entries"] (iD DX):=by walk_at "s"
def La:iJ ["self", "ware"] ["self", "ware"] (iD uN):=by walk_at "s"
def Gx:iJ ["self", "ware", "row"] ["self", "ware", "row"] (iD qj):=by walk_at "s"
def Ia:iJ ["lot"] ["lot"] (iD sZ):=by walk_at "s"
def Hu:iJ ["self", "number", "since", "pieces", "cost"] ["self", "number", "since", "pieces", "cost"] (iD sU):=by walk_at "s"
def Gp:iJ ["self", "pieces", "cost"] ["self", "pieces", "cost"] (iD qu):=by walk_at "s"
def Rt:iJ ["lots", "lot"] ["lots", "lot"] (iD Er):=by walk_at "s"
def uG:iJ ["self", "ware", "lots", "row", "lot"] ["self", "ware", "lots"] (iD Ei):=by walk_at "s"
def Ky:iJ ["self", "entry"] ["self", "entry"] (iD uF):=by walk_at "s"
def Gh:iJ ["parts"] ["parts"] (iD qU):=by walk_at "s"
def Pn:iJ ["self"] ["self"] (iD Ce):=by walk_at "s"
def Hv:iJ ["sale"] ["sale"] (iD sI):=by walk_at "s"
def vO:iJ ["self", "entry", "sale"] ["self", "entry", "sale"] (iD mO):=by walk_at "s"
def Gi:iJ ["self", "number", "day", "ware", "proceeds", "parts", "laid_on"] ["self", "number", "day", "ware", "proceeds", "parts", "laid_on"] (iD qz):=by walk_at "s"
def Ip:iJ ["sale", "number"] ["sale", "number"] (iD tE):=by walk_at "s"
def pX:iJ ["self", "entry", "taken"] ["self", "entry"] (iD nM):=by walk_at "s"
def Af:iJ ["self", "entry", "cost"] ["self", "entry"] (iD uQ):=by walk_at "s"
def Jz:iJ ["self", "entry"] ["self", "entry"] (iD rW):=by walk_at "s"
def tO:iJ ["weights", "whole"] ["weights"] (iD pQ):=by walk_at "s"
def Vl:iJ ["amount", "part", "whole"] ["amount", "part", "whole"] (iD HJ):=by walk_at "s"
def pZ:iJ ["amount", "weights", "whole", "shares", "weight_till_here", "dealt_till_here", "weight", "dealt_with_it"] ["amount", "weights"] (iD Rp):=by walk_at "s"
def Ek:iJ ["entry", "lots", "shares", "parts"] ["entry", "lots"] (iD JP):=by walk_at "s"
def Ht:iJ ["self", "lots"] ["self", "lots"] (iD tG):=by walk_at "s"
def Vs:iJ ["lots"] ["lots"] (iD IK):=by walk_at "s"
def uX:iJ ["self", "lots", "costs"] ["self", "lots"] (iD qp):=by walk_at "s"
def wQ:iJ ["self", "pieces", "cost", "gone"] ["self", "pieces"] (iD Bh):=by walk_at "s"
def lF:iJ ["lots", "picks", "left", "taken", "number", "pieces", "lot", "parts"] ["lots", "picks"] (iD uM):=by walk_at "s"
def lw:iJ ["lots", "pieces", "picks", "wanted", "lot", "going"] ["lots", "pieces"] (iD qM):=by walk_at "s"
def JN:iJ ["self", "lots", "pieces"] ["self", "lots", "pieces"] (iD rN):=by walk_at "s"
def JT:iJ ["self", "lots", "pieces"] ["self", "lots", "pieces"] (iD sH):=by walk_at "s"
def Gn:iJ ["self", "other"] ["self", "other"] (iD qH):=by walk_at "s"
def nA:iJ ["lots", "turn", "lot", "cheaper"] ["lots"] (iD qP):=by walk_at "s"
def GQ:iJ ["self", "lots", "pieces"] ["self", "lots", "pieces"] (iD qx):=by walk_at "s"
def vX:iJ ["way", "lots", "pieces", "named", "row", "picks"] ["way", "lots", "pieces", "named"] (iD BJ):=by walk_at "s"
def uh:iJ ["self", "entry", "gone"] ["self", "entry"] (iD pI):=by walk_at "s"
def Il:iJ ["self", "entry"] ["self", "entry"] (iD sX):=by walk_at "s"
def Iv:iJ ["self", "entry"] ["self", "entry"] (iD rO):=by walk_at "s"
def jY:iJ ["lots", "many", "of", "counts", "pieces_till_here", "split_till_here", "lot", "split_with_it"] ["lots", "many", "of"] (iD sS):=by walk_at "s"
def lR:iJ ["lots", "many", "of", "row", "cost_of_gone", "lot", "pieces", "last"] ["lots", "many", "of"] (iD Bm):=by walk_at "s"
def GC:iJ ["self", "entry"] ["self", "entry"] (iD qJ):=by walk_at "s"
def qb:iJ ["lots", "share", "whole", "parts", "going_on", "second"] ["lots", "share", "whole"] (iD xx):=by walk_at "s"
def rK:iJ ["self", "entry", "rows"] ["self", "entry"] (iD oR):=by walk_at "s"
def Dd:iJ ["self", "entry"] ["self", "entry"] (iD oW):=by walk_at "s"
def Fv:iJ ["held", "ware", "pieces", "changed"] ["held", "ware", "pieces"] (iD Bt):=by walk_at "s"
def Ey:iJ ["held", "ware", "pieces"] ["held", "ware", "pieces"] (iD pG):=by walk_at "s"
def CP:iJ ["self", "held"] ["self", "held"] (iD oM):=by walk_at "s"
def qY:iJ ["held", "ware", "pieces", "before"] ["held", "ware", "pieces"] (iD oH):=by walk_at "s"
def Ci:iJ ["self", "held"] ["self", "held"] (iD ou):=by walk_at "s"
def Bf:iJ ["self", "held"] ["self", "held"] (iD nZ):=by walk_at "s"
def Bv:iJ ["self", "held"] ["self", "held"] (iD nU):=by walk_at "s"
def mY:iJ ["self", "held", "before", "behind"] ["self", "held"] (iD nJ):=by walk_at "s"
def vL:iJ ["self", "held"] ["self", "held"] (iD mF):=by walk_at "s"
def Pg:iJ ["lots"] ["lots"] (iD Bj):=by walk_at "s"
def PN:iJ ["self"] ["self"] (iD Bq):=by walk_at "s"
def UJ:iJ ["self", "entry"] ["self", "entry"] (iD HD):=by walk_at "s"
def vg:iJ ["book", "entries", "entry"] ["book", "entries"] (iD qF):=by walk_at "s"
def Ge:iJ ["self", "way"] ["self", "way"] (iD qI):=by walk_at "s"
def VN:iJ ["way", "entries"] ["way", "entries"] (iD Jl):=by walk_at "s"
def vN:iJ ["self", "way", "days"] ["self", "way", "days"] (iD mL):=by walk_at "s"
def Es:iJ ["way", "days", "entries"] ["way", "days", "entries"] (iD pK):=by walk_at "s"
def Jq:iJ ["sale"] ["sale"] (iD rY):=by walk_at "s"
def Mm:iJ ["self"] ["self"] (iD wK):=by walk_at "s"
def kO:iJ ["_law_sales", "_law_script", "_law_days_here", "_law_sale", "_law_number", "_law_found", "_law_k", "_law_first", "_law_last"] ["_law_sales", "_law_script"] (iD BR):=by walk_at "s"
def mR:iJ ["_law_cell", "_law_k", "_law_number", "_law_j", "_law_here"] ["_law_cell", "_law_k"] (iD xq):=by walk_at "s"
def nW:iJ ["_law_script", "_law_cells", "_law_many"] ["_law_script"] (iD rP):=by walk_at "s"
def Ft:iJ ["_law_digits", "_law_many", "_law_found"] ["_law_digits", "_law_many"] (iD Cg):=by walk_at "s"
def oF:iJ ["_law_day", "_law_number", "_law_ware", "_law_digits", "_law_here", "_law_many", "_law_of"] ["_law_day", "_law_number", "_law_ware", "_law_digits", "_law_here"] (iD pM):=by walk_at "s"
def mq:iJ ["_law_day", "_law_number", "_law_wares", "_law_digits", "_law_counts", "_law_ware", "_law_other", "_law_whole_here", "_law_share"] ["_law_day", "_law_number", "_law_wares", "_law_digits", "_law_counts"] (iD qC):=by walk_at "s"
def Py:iJ ["_law_digits", "_law_here"] ["_law_digits", "_law_here"] (iD Bd):=by walk_at "s"
def Nj:iJ ["_law_digits"] ["_law_digits"] (iD vY):=by walk_at "s"
def Kf:iJ ["_law_digits"] ["_law_digits"] (iD uD):=by walk_at "s"
def kj:iJ ["_law_raw_here", "_law_counts", "_law_giving", "_law_day", "_law_number", "_law_kind", "_law_at", "_law_rest", "_law_digits", "_law_wares", "_law_ware", "_law_here", "_law_other", "_law_cost"] ["_law_raw_here", "_law_counts", "_law_giving"] (iD Et):=by walk_at "s"
def mJ:iJ ["_law_counts", "_law_row_here", "_law_word", "_law_ware", "_law_here", "_law_after"] ["_law_counts", "_law_row_here"] (iD rM):=by walk_at "s"
def nF:iJ ["_law_source", "_law_k", "_law_digits", "_law_kind", "_law_at", "_law_day", "_law_number"] ["_law_source", "_law_k"] (iD Fe):=by walk_at "s"
def kh:iJ ["_law_script", "_law_giving", "_law_counts", "_law_rows", "_law_sources_here", "_law_raw_here", "_law_row_here", "_law_more"] ["_law_script", "_law_giving"] (iD rT):=by walk_at "s"
def qN:iJ ["sale", "part", "cost", "share"] ["sale", "part"] (iD sW):=by walk_at "s"
def nq:iJ ["sale", "part", "long", "lot", "since", "pieces", "kind"] ["sale", "part", "long"] (iD uR):=by walk_at "s"
def Ka:iJ ["sale", "long"] ["sale", "long"] (iD sY):=by walk_at "s"
def jV:iJ ["book", "long", "first", "last", "sums", "sale", "number", "lot", "pieces", "kind", "gain"] ["book", "long", "first", "last"] (iD qG):=by walk_at "s"
def Ir:iJ ["self"] ["self"] (iD sO):=by walk_at "s"
def Qw:iJ ["book", "day"] ["book", "day"] (iD Bo):=by walk_at "s"
def rB:iJ ["_law_sales", "_law_day", "_law_total", "_law_sale"] ["_law_sales", "_law_day"] (iD Bl):=by walk_at "s"
def lD:iJ ["_law_sales", "_law_long", "_law_first", "_law_last", "_law_found", "_law_sale", "_law_lot", "_law_since", "_law_pieces_here", "_law_cost", "_law_share", "_law_kind"] ["_law_sales", "_law_long", "_law_first", "_law_last"] (iD Ca):=by walk_at "s"
def Nf:iJ ["_law_found"] ["_law_found"] (iD wN):=by walk_at "s"
def pC:iJ ["_law_book", "_law_sales", "_law_long", "_law_first", "_law_last", "_law_found", "_law_till_here", "_law_rest"] ["_law_book", "_law_sales", "_law_long", "_law_first", "_law_last"] (iD Br):=by walk_at "s"
def Fi:iJ ["_law_script", "_law_entries", "_law_way_here", "_law_long", "_law_book", "_law_sales", "_law_first", "_law_last"] ["_law_script"] (iD Zi):=by walk_at "s"
section
variable{P:Program}{w:World}{K:Fg_}{mg:Str->Option Value}{base:Heap}{A:Adr}{D:Fds}
def Vq(T:Txt K mg A D):Binds K D.aa4 ["_law_cell"] []:=T.adc.F.binds λ_ _ _ _ _ _=>ln1 λ_=>rfl
def Ej(T:Txt K mg A D):Binds K D.aa5 ["value"] []:=T.add.F.binds λ_ _ _ _ _ _=>ln1 λ_=>rfl
def jz(T:Txt K mg A D):Binds K D.aa6 ["what", "value", "least", "most"] []:=T.ade.F.binds λ_ _ _ _ _ _=>ln4 λ_ _ _ _=>rfl
def YZ(T:Txt K mg A D):Binds K D.aa7 ["value"] []:=T.adf.F.binds λ_ _ _ _ _ _=>ln1 λ_=>rfl
def FW(T:Txt K mg A D):Binds K D.aa8 ["what", "value"] []:=T.adg.F.binds λ_ _ _ _ _ _=>ln2 λ_ _=>rfl
def lu(T:Txt K mg A D):Binds K D.aa9 ["self", "day", "number", "ware"] []:=T.adh.binds λ_ _ _ _ _ _=>ln4 λ_ _ _ _=>rfl
def Ck(T:Txt K mg A D):Binds K D.aba ["self", "day", "number", "ware", "other", "share", "whole"] []:=T.adi.binds λ_ _ _ _ _ _=>ln7 λ_ _ _ _ _ _ _=>rfl
def CJ(T:Txt K mg A D):Binds K D.abb ["pieces", "price", "fee"] []:=T.adj.F.binds λ_ _ _ _ _ _=>ln3 λ_ _ _=>rfl
def CZ(T:Txt K mg A D):Binds K D.abd ["named", "pieces"] []:=T.adl.F.binds λ_ _ _ _ _ _=>ln2 λ_ _=>rfl
def Fg(T:Txt K mg A D):Binds K D.abe ["named"] []:=T.adm.F.binds λ_ _ _ _ _ _=>ln1 λ_=>rfl
def Ju(T:Txt K mg A D):Binds K D.abg ["self", "day", "number", "ware", "pieces", "cost", "since"] []:=T.ado.binds λ_ _ _ _ _ _=>ln7 λ_ _ _ _ _ _ _=>rfl
def Gk(T:Txt K mg A D):Binds K D.abi ["self", "day", "number", "ware", "many", "of"] []:=T.adq.binds λ_ _ _ _ _ _=>ln6 λ_ _ _ _ _ _=>rfl
def NK(T:Txt K mg A D):Binds K D.abj ["_law_row_here"] []:=T.adr.F.binds λ_ _ _ _ _ _=>ln1 λ_=>rfl
def jP(T:Txt K mg A D):Binds K D.abk ["_law_script", "_law_k"] []:=T.ads.F.binds λ_ _ _ _ _ _=>ln2 λ_ _=>rfl
def KN(T:Txt K mg A D):Binds K D.abl ["numbers"] []:=T.adt.F.binds λ_ _ _ _ _ _=>ln1 λ_=>rfl
def Eu(T:Txt K mg A D):Binds K D.abm ["entry"] []:=T.adu.F.binds λ_ _ _ _ _ _=>ln1 λ_=>rfl
def Vh(T:Txt K mg A D):Binds K D.abn ["entries"] []:=T.adv.F.binds λ_ _ _ _ _ _=>ln1 λ_=>rfl
def lE(T:Txt K mg A D):Binds K D.abo ["self", "ware"] []:=T.adw.binds λ_ _ _ _ _ _=>ln2 λ_ _=>rfl
def jZ(T:Txt K mg A D):Binds K D.abp ["self", "ware", "row"] []:=T.adx.binds λ_ _ _ _ _ _=>ln3 λ_ _ _=>rfl
def KR(T:Txt K mg A D):Binds K D.abq ["lot"] []:=T.ady.F.binds λ_ _ _ _ _ _=>ln1 λ_=>rfl
def jX(T:Txt K mg A D):Binds K D.abr ["self", "number", "since", "pieces", "cost"] []:=T.adz.binds λ_ _ _ _ _ _=>ln5 λ_ _ _ _ _=>rfl
def wB(T:Txt K mg A D):Binds K D.abt ["self", "pieces", "cost"] []:=T.adA.binds λ_ _ _ _ _ _=>ln3 λ_ _ _=>rfl
def Vy(T:Txt K mg A D):Binds K D.abu ["lots", "lot"] []:=T.adB.F.binds λ_ _ _ _ _ _=>ln2 λ_ _=>rfl
def qg(T:Txt K mg A D):Binds K D.abv ["self", "ware", "lots"] []:=T.adC.binds λ_ _ _ _ _ _=>ln3 λ_ _ _=>rfl
def Np(T:Txt K mg A D):Binds K D.abw ["self", "entry"] []:=T.adD.binds λ_ _ _ _ _ _=>ln2 λ_ _=>rfl
def HB(T:Txt K mg A D):Binds K D.abx ["parts"] []:=T.adE.F.binds λ_ _ _ _ _ _=>ln1 λ_=>rfl
def uU(T:Txt K mg A D):Binds K D.aby ["self"] []:=T.adF.binds λ_ _ _ _ _ _=>ln1 λ_=>rfl
def Kr(T:Txt K mg A D):Binds K D.abz ["sale"] []:=T.adG.F.binds λ_ _ _ _ _ _=>ln1 λ_=>rfl
def pB(T:Txt K mg A D):Binds K D.abA ["self", "entry", "sale"] []:=T.adH.binds λ_ _ _ _ _ _=>ln3 λ_ _ _=>rfl
def qK(T:Txt K mg A D):Binds K D.abB ["self", "number", "day", "ware", "proceeds", "parts", "laid_on"] []:=T.adI.binds λ_ _ _ _ _ _=>ln7 λ_ _ _ _ _ _ _=>rfl
def KQ(T:Txt K mg A D):Binds K D.abC ["sale", "number"] []:=T.adJ.F.binds λ_ _ _ _ _ _=>ln2 λ_ _=>rfl
def Cd(T:Txt K mg A D):Binds K D.abD ["self", "entry"] []:=T.adK.binds λ_ _ _ _ _ _=>ln2 λ_ _=>rfl
def CT(T:Txt K mg A D):Binds K D.abE ["self", "entry"] []:=T.adL.binds λ_ _ _ _ _ _=>ln2 λ_ _=>rfl
def Al(T:Txt K mg A D):Binds K D.abF ["self", "entry"] []:=T.adM.binds λ_ _ _ _ _ _=>ln2 λ_ _=>rfl
def Gm(T:Txt K mg A D):Binds K D.abG ["weights"] []:=T.adN.F.binds λ_ _ _ _ _ _=>ln1 λ_=>rfl
def Iw(T:Txt K mg A D):Binds K D.abH ["amount", "part", "whole"] []:=T.adO.F.binds λ_ _ _ _ _ _=>ln3 λ_ _ _=>rfl
def Xo(T:Txt K mg A D):Binds K D.abI ["amount", "weights"] []:=T.adP.F.binds λ_ _ _ _ _ _=>ln2 λ_ _=>rfl
def Ys(T:Txt K mg A D):Binds K D.abJ ["entry", "lots"] []:=T.adQ.F.binds λ_ _ _ _ _ _=>ln2 λ_ _=>rfl
def sJ(T:Txt K mg A D):Binds K D.abK ["self", "lots"] []:=T.adR.binds λ_ _ _ _ _ _=>ln2 λ_ _=>rfl
def Xr(T:Txt K mg A D):Binds K D.abL ["lots"] []:=T.adS.F.binds λ_ _ _ _ _ _=>ln1 λ_=>rfl
def JX(T:Txt K mg A D):Binds K D.abM ["self", "lots"] []:=T.adT.binds λ_ _ _ _ _ _=>ln2 λ_ _=>rfl
def Ro(T:Txt K mg A D):Binds K D.abN ["self", "pieces"] []:=T.adU.binds λ_ _ _ _ _ _=>ln2 λ_ _=>rfl
def Nq(T:Txt K mg A D):Binds K D.abO ["lots", "picks"] []:=T.adV.F.binds λ_ _ _ _ _ _=>ln2 λ_ _=>rfl
def qT(T:Txt K mg A D):Binds K D.abP ["lots", "pieces"] []:=T.adW.F.binds λ_ _ _ _ _ _=>ln2 λ_ _=>rfl
def Ao(T:Txt K mg A D):Binds K D.abQ ["self", "lots", "pieces"] []:=T.adX.binds λ_ _ _ _ _ _=>ln3 λ_ _ _=>rfl
def KC(T:Txt K mg A D):Binds K D.abR ["self", "lots", "pieces"] []:=T.adY.binds λ_ _ _ _ _ _=>ln3 λ_ _ _=>rfl
def Ji(T:Txt K mg A D):Binds K D.abS ["self", "other"] []:=T.adZ.binds λ_ _ _ _ _ _=>ln2 λ_ _=>rfl
def IV(T:Txt K mg A D):Binds K D.abT ["lots"] []:=T.ad0.F.binds λ_ _ _ _ _ _=>ln1 λ_=>rfl
def Ho(T:Txt K mg A D):Binds K D.abU ["self", "lots", "pieces"] []:=T.ad1.binds λ_ _ _ _ _ _=>ln3 λ_ _ _=>rfl
def Rz(T:Txt K mg A D):Binds K D.abV ["way", "lots", "pieces", "named"] []:=T.ad2.F.binds λ_ _ _ _ _ _=>ln4 λ_ _ _ _=>rfl
def nC(T:Txt K mg A D):Binds K D.abW ["self", "entry"] []:=T.ad3.binds λ_ _ _ _ _ _=>ln2 λ_ _=>rfl
def Az(T:Txt K mg A D):Binds K D.abX ["self", "entry"] []:=T.ad4.binds λ_ _ _ _ _ _=>ln2 λ_ _=>rfl
def Ae(T:Txt K mg A D):Binds K D.abY ["self", "entry"] []:=T.ad5.binds λ_ _ _ _ _ _=>ln2 λ_ _=>rfl
def Kh(T:Txt K mg A D):Binds K D.abZ ["lots", "many", "of"] []:=T.ad6.F.binds λ_ _ _ _ _ _=>ln3 λ_ _ _=>rfl
def Sd(T:Txt K mg A D):Binds K D.ab0 ["lots", "many", "of"] []:=T.ad7.F.binds λ_ _ _ _ _ _=>ln3 λ_ _ _=>rfl
def wg(T:Txt K mg A D):Binds K D.ab1 ["self", "entry"] []:=T.ad8.binds λ_ _ _ _ _ _=>ln2 λ_ _=>rfl
def Qk(T:Txt K mg A D):Binds K D.ab2 ["lots", "share", "whole"] []:=T.ad9.F.binds λ_ _ _ _ _ _=>ln3 λ_ _ _=>rfl
def uq(T:Txt K mg A D):Binds K D.ab3 ["self", "entry"] []:=T.aea.binds λ_ _ _ _ _ _=>ln2 λ_ _=>rfl
def uv(T:Txt K mg A D):Binds K D.ab4 ["self", "entry"] []:=T.aeb.binds λ_ _ _ _ _ _=>ln2 λ_ _=>rfl
def Cj(T:Txt K mg A D):Binds K D.ab5 ["held", "ware", "pieces"] []:=T.aec.F.binds λ_ _ _ _ _ _=>ln3 λ_ _ _=>rfl
def pO(T:Txt K mg A D):Binds K D.ab6 ["held", "ware", "pieces"] []:=T.aed.F.binds λ_ _ _ _ _ _=>ln3 λ_ _ _=>rfl
def DY(T:Txt K mg A D):Binds K D.ab7 ["self", "held"] []:=T.aee.binds λ_ _ _ _ _ _=>ln2 λ_ _=>rfl
def ug(T:Txt K mg A D):Binds K D.ab8 ["held", "ware", "pieces"] []:=T.aef.F.binds λ_ _ _ _ _ _=>ln3 λ_ _ _=>rfl
def DP(T:Txt K mg A D):Binds K D.ab9 ["self", "held"] []:=T.aeg.binds λ_ _ _ _ _ _=>ln2 λ_ _=>rfl
def Dv(T:Txt K mg A D):Binds K D.aca ["self", "held"] []:=T.aeh.binds λ_ _ _ _ _ _=>ln2 λ_ _=>rfl
def CW(T:Txt K mg A D):Binds K D.acb ["self", "held"] []:=T.aei.binds λ_ _ _ _ _ _=>ln2 λ_ _=>rfl
def BK(T:Txt K mg A D):Binds K D.acd ["self", "held"] []:=T.aej.binds λ_ _ _ _ _ _=>ln2 λ_ _=>rfl
def xg(T:Txt K mg A D):Binds K D.ace ["self", "held"] []:=T.aek.binds λ_ _ _ _ _ _=>ln2 λ_ _=>rfl
def QR(T:Txt K mg A D):Binds K D.acf ["lots"] []:=T.ael.F.binds λ_ _ _ _ _ _=>ln1 λ_=>rfl
def Jx(T:Txt K mg A D):Binds K D.acg ["self"] []:=T.aem.binds λ_ _ _ _ _ _=>ln1 λ_=>rfl
def Og(T:Txt K mg A D):Binds K D.ach ["self", "entry"] []:=T.aen.binds λ_ _ _ _ _ _=>ln2 λ_ _=>rfl
def vW(T:Txt K mg A D):Binds K D.aci ["book", "entries"] []:=T.aeo.F.binds λ_ _ _ _ _ _=>ln2 λ_ _=>rfl
def vU(T:Txt K mg A D):Binds K D.acj ["self", "way"] []:=T.aep.binds λ_ _ _ _ _ _=>ln2 λ_ _=>rfl
def YT(T:Txt K mg A D):Binds K D.ack ["way", "entries"] []:=T.aeq.F.binds λ_ _ _ _ _ _=>ln2 λ_ _=>rfl
def xG(T:Txt K mg A D):Binds K D.acl ["self", "way", "days"] []:=T.aer.binds λ_ _ _ _ _ _=>ln3 λ_ _ _=>rfl
def Gz(T:Txt K mg A D):Binds K D.acm ["way", "days", "entries"] []:=T.aes.F.binds λ_ _ _ _ _ _=>ln3 λ_ _ _=>rfl
def Kv(T:Txt K mg A D):Binds K D.acn ["sale"] []:=T.aet.F.binds λ_ _ _ _ _ _=>ln1 λ_=>rfl
def lQ(T:Txt K mg A D):Binds K D.aco ["self"] []:=T.aeu.binds λ_ _ _ _ _ _=>ln1 λ_=>rfl
def Ry(T:Txt K mg A D):Binds K D.acp ["_law_sales", "_law_script"] []:=T.aev.F.binds λ_ _ _ _ _ _=>ln2 λ_ _=>rfl
def Qm(T:Txt K mg A D):Binds K D.acq ["_law_cell", "_law_k"] []:=T.aew.F.binds λ_ _ _ _ _ _=>ln2 λ_ _=>rfl
def Ke(T:Txt K mg A D):Binds K D.acr ["_law_script"] []:=T.aex.F.binds λ_ _ _ _ _ _=>ln1 λ_=>rfl
def jn(T:Txt K mg A D):Binds K D.acs ["_law_digits", "_law_many"] []:=T.aey.F.binds λ_ _ _ _ _ _=>ln2 λ_ _=>rfl
def GR(T:Txt K mg A D):Binds K D.act ["_law_day", "_law_number", "_law_ware", "_law_digits", "_law_here"] []:=T.aez.F.binds λ_ _ _ _ _ _=>ln5 λ_ _ _ _ _=>rfl
def Jm(T:Txt K mg A D):Binds K D.acu ["_law_day", "_law_number", "_law_wares", "_law_digits", "_law_counts"] []:=T.aeA.F.binds λ_ _ _ _ _ _=>ln5 λ_ _ _ _ _=>rfl
def JL(T:Txt K mg A D):Binds K D.acv ["_law_digits", "_law_here"] []:=T.aeB.F.binds λ_ _ _ _ _ _=>ln2 λ_ _=>rfl
def Fw(T:Txt K mg A D):Binds K D.acw ["_law_digits"] []:=T.aeC.F.binds λ_ _ _ _ _ _=>ln1 λ_=>rfl
def Dq(T:Txt K mg A D):Binds K D.acx ["_law_digits"] []:=T.aeD.F.binds λ_ _ _ _ _ _=>ln1 λ_=>rfl
def Vf(T:Txt K mg A D):Binds K D.acy ["_law_raw_here", "_law_counts", "_law_giving"] []:=T.aeE.F.binds λ_ _ _ _ _ _=>ln3 λ_ _ _=>rfl
def Kp(T:Txt K mg A D):Binds K D.acz ["_law_counts", "_law_row_here"] []:=T.aeF.F.binds λ_ _ _ _ _ _=>ln2 λ_ _=>rfl
def Ux(T:Txt K mg A D):Binds K D.acA ["_law_source", "_law_k"] []:=T.aeG.F.binds λ_ _ _ _ _ _=>ln2 λ_ _=>rfl
def Ks(T:Txt K mg A D):Binds K D.acB ["_law_script", "_law_giving"] []:=T.aeH.F.binds λ_ _ _ _ _ _=>ln2 λ_ _=>rfl
def KJ(T:Txt K mg A D):Binds K D.acC ["sale", "part"] []:=T.aeI.F.binds λ_ _ _ _ _ _=>ln2 λ_ _=>rfl
def MF(T:Txt K mg A D):Binds K D.acD ["sale", "part", "long"] []:=T.aeJ.F.binds λ_ _ _ _ _ _=>ln3 λ_ _ _=>rfl
def Kz(T:Txt K mg A D):Binds K D.acE ["sale", "long"] []:=T.aeK.F.binds λ_ _ _ _ _ _=>ln2 λ_ _=>rfl
def qL(T:Txt K mg A D):Binds K D.acF ["book", "long", "first", "last"] []:=T.aeL.F.binds λ_ _ _ _ _ _=>ln4 λ_ _ _ _=>rfl
def rQ(T:Txt K mg A D):Binds K D.acG ["self"] []:=T.aeM.binds λ_ _ _ _ _ _=>ln1 λ_=>rfl
def Hq(T:Txt K mg A D):Binds K D.acH ["book", "day"] []:=T.aeN.F.binds λ_ _ _ _ _ _=>ln2 λ_ _=>rfl
def QM(T:Txt K mg A D):Binds K D.acI ["_law_sales", "_law_day"] []:=T.aeO.F.binds λ_ _ _ _ _ _=>ln2 λ_ _=>rfl
def Hl(T:Txt K mg A D):Binds K D.acJ ["_law_sales", "_law_long", "_law_first", "_law_last"] []:=T.aeP.F.binds λ_ _ _ _ _ _=>ln4 λ_ _ _ _=>rfl
def wF(T:Txt K mg A D):Binds K D.acK ["_law_found"] []:=T.aeQ.F.binds λ_ _ _ _ _ _=>ln1 λ_=>rfl
def RQ(T:Txt K mg A D):Binds K D.acL ["_law_book", "_law_sales", "_law_long", "_law_first", "_law_last"] []:=T.aeR.F.binds λ_ _ _ _ _ _=>ln5 λ_ _ _ _ _=>rfl
def uY(T:Txt K mg A D):∃ds,Binds K D.abc ["self", "day", "number", "ware", "pieces", "price", "fee"] ds/\Vals (([V.int 0]:List V).drop 1) ds:=T.adk.binds (ps:=["self", "day", "number", "ware", "pieces", "price", "fee"]) 1 λTd kV aa pm an q ct its us h1 h2=>by
  revert us;revert h1;revert its;refine ln1 λi0 us h2=>?_;have z:us.length=7:=by simpa using h2
  clear h2;revert z;revert us;exact ln7 λ_ _ _ _ _ _ _=>⟨_,rfl,rfl⟩
def ux(T:Txt K mg A D):∃ds,Binds K D.abh ["self", "day", "number", "ware", "pieces", "named"] ds/\Vals (([V.non]:List V).drop 1) ds:=T.adp.binds (ps:=["self", "day", "number", "ware", "pieces", "named"]) 1 λTd kV aa pm an q ct its us h1 h2=>by
  revert us;revert h1;revert its;refine ln1 λi0 us h2=>?_;have z:us.length=6:=by simpa using h2
  clear h2;revert z;revert us;exact ln6 λ_ _ _ _ _ _=>⟨_,rfl,rfl⟩
def ud(T:Txt K mg A D):∃ds,Binds K D.abf ["self", "day", "number", "ware", "pieces", "price", "fee", "named"] ds/\Vals (([V.int 0,V.non]:List V).drop 2) ds:=T.adn.binds (ps:=["self", "day", "number", "ware", "pieces", "price", "fee", "named"]) 2 λTd kV aa pm an q ct its us h1 h2=>by
  revert us;revert h1;revert its;refine ln2 λi0 i1 us h2=>?_;have z:us.length=8:=by simpa using h2
  clear h2;revert z;revert us;exact ln8 λ_ _ _ _ _ _ _ _=>⟨_,rfl,rfl⟩
end
end My
namespace My
open PySem L2 PyProof.Rows
open PySem.W (codeIn findCls findIn fnOf hasDictIn isFn keepIn kitOne makesIn mg_none_of mg_of mroIn nsIn plainGet plainOver readsIn specialIn takesIn)
end My
namespace My
open PySem L2 PyProof.Rows
open PySem.W (codeIn findCls findIn fnOf hasDictIn isFn keepIn kitOne makesIn mg_none_of mg_of mroIn nsIn plainGet plainOver readsIn specialIn takesIn)
section
variable{P:Program}{w:World}{K:Fg_}{mg:Str->Option Value}{base:Heap}{A:Adr}{D:Fds}
def jB{t u:TS}{D:_}{σ:L2.St}{H:Hp}(h:∀v,v=u->Xu t v D σ H):Xu t u D σ H:=h u rfl
def Di{wi:TI}{g:TG}{tb:TS}{D:_}{σ:L2.St}{H:Hp}(h:∀v,v=tb->akZ wi g v D σ H):akZ wi g tb D σ H:=h tb rfl
def Bw.listN{K:Fg_}{a:Addr}{xs:List V}{g:TG}{tb:TS}{D:_}{σ:L2.St}{H:Hp}(z:Nat->L2.St->Hp->Prop)(h0:z 0 σ H)(hl:∀i σ H,i<=xs.length->z i σ H->SqL K H a xs)(hs:∀i x σ H,xs[i]? =some x->z i σ H->∀N:L2.St->Hp->Prop,(∀σ H,z (i+1) σ H->N σ H)->g x σ H λσ2 H2=>tb {D with nx:=N,ct:=N,bk:=D.nx} σ2 H2)(hd:∀σ H,z xs.length σ H->D.nx σ H):Bw (Itl K a) g tb D σ H:=
 Cr z h0 hl (λi x σ H h p=>hs i x σ H h p _ λ_ _ q=>q) hd
def Bw.rangeN{lo:Int}{n:Nat}{g:TG}{tb:TS}{D:_}{σ:L2.St}{H:Hp}(z:Nat->L2.St->Hp->Prop)(h0:z 0 σ H)(hs:∀i σ H,i<n->z i σ H->∀N:L2.St->Hp->Prop,(∀σ H,z (i+1) σ H->N σ H)->g (.int (lo+i)) σ H λσ2 H2=>tb {D with nx:=N,ct:=N,bk:=D.nx} σ2 H2)(hd:∀σ H,z n σ H->D.nx σ H):Bw (Itr lo n) g tb D σ H:=
 Bw.range z h0 (λi σ H h p=>hs i σ H h p _ λ_ _ q=>q) hd
def Bw.zipN{K:Fg_}{a b:Addr}{xs ys:List V}{g:TG}{tb:TS}{D:_}{σ:L2.St}{H:Hp}(Pv:Nat->L2.St->Hp->Prop)(aa:xs.length=ys.length)(h0:Pv 0 σ H)(hl:∀i σ H,i<=xs.length->Pv i σ H->SqL K H a xs/\SqL K H b ys)(hs:∀i x y σ H p,xs[i]? =some x->ys[i]? =some y->Pv i σ H->H p=none->∀N:L2.St->Hp->Prop,(∀σ H,Pv (i+1) σ H->N σ H)->g (.ref p) σ (upd H p (.tup [x,y])) λσ2 H2=>tb {D with nx:=N,ct:=N,bk:=D.nx} σ2 H2)(hd:∀σ H,Pv xs.length σ H->D.nx σ H):Bw (Itz K a b) g tb D σ H:=
 Bw.zip Pv aa h0 hl (λi x y σ H p h1 h2 q h3=>hs i x y σ H p h1 h2 q h3 _ λ_ _ z=>z) hd
def aaB{x:Int}{m k:Nat}(q:x.natAbs<2^m)(h:m<=k):x.natAbs<2^k:=zH q (yJ (by decide) h)
def En{ns:List Int}{i:Nat}{y:V}(h:(ns.map V.int)[i]? =some y):∃z,y=V.int z/\ns[i]? =some z:=by
 rw[zf]at h
 cases e:ns[i]? with
 |none=>rw[e]at h;cases h
 |some z=>rw[e]at h;exact⟨z,(zw h).symm,rfl⟩
def tyL{K:Fg_}{H:Hp}{p:Addr}{xs:List V}(h:SqL K H p xs):tyV K "list" (.ref p) H:=.inl ⟨rfl,_,h⟩
inductive Cp(vs:List V)(H:Hp)(Q:VK)(E:XK):Prop
 |mk (i) (_:vs=[.int i]) (_:Q (.bl true) H):Cp vs H Q E
def uy(T:Txt K mg A D):jK P w K mg base CX0 1 A.acK D.acK ["_law_found"] Cp:=by
 refine T.aeQ.F.okv Nf λ_ _ _ _ H vs Q E q h=>?_
 ·obtain⟨i,rfl,k⟩:=h
  refine⟨_,(iB (iR (Oz (jm (tU (K:=K)) (by rfl) T.aeT (by decide+kernel) (pav 0 (ir (VG "int" (by rfl) T.aeU (by decide+kernel)) iw))) (Ug (aie (jm (tU (K:=K)) (by rfl) T.aeT (by decide+kernel) (pav 0 (ir (VG "bool" (by rfl) T.aeV (by decide+kernel)) iw)))))))),?_⟩;walk_at "a";refine⟨_,.int i,true,by with_unfolding_all rfl,?_⟩;walk_at "a";refine⟨_,.int i,false,by with_unfolding_all rfl,?_⟩;walk_at "a";exact k
inductive xr(K:Fg_)(vs:List V)(H:Hp)(Q:VK)(E:XK):Prop
 |mk (a:Addr) (ns:List Int) (k:Nat) (_:vs=[.ref a,.int k]) (_:SqL K H a (ns.map V.int)) (_:Q (.int (ns.getD k 0)) H):xr K vs H Q E
def jH(T:Txt K mg A D):jK P w K mg base CX0 1 A.abk D.abk ["_law_script", "_law_k"] (xr K):=by
 refine T.ads.F.okv JQ λ_ _ _ _ H vs Q E hr h=>?_
 ·obtain⟨a,ns,q,rfl,z,k⟩:=h
  refine ⟨_,(iu (jT (iY (Mx) (pvD 1) (jm (mG (K:=K)) (by rfl) T.aeY (by decide+kernel) (pav 0 iw)) (jf _)) (iB (iR (jy (lA (K:=K)) (pvD 0) (pvD 1) (λ_ _=>rfl)))) jo)
   (iB (iR iz))),?_⟩
  walk_at "a";refine⟨_,.inl z,?_⟩;rw[za];by_cases h:q<ns.length
  ·rw[zg (by omega)]
   refine⟨_,z,_,Iz (j:=q) (v:=.int (ns.getD q 0)) ?_,k⟩;rw[zf,zh h,zzK,zh h];rfl
  ·rw[zc (by omega)]
   rw[zzK,z5 (by omega)]at k;exact k
def Zt(xs:List V)(n:Nat):Zd xs (some (n:Int)) none=xs.drop n:=by
 unfold Zd;rw[HT.sIx_none,HT.sIx_nat];rcases Nat.le_total n xs.length with h|h
 ·rw[Nat.min_eq_left h,z3 (by rw[yD];exact zm _)]
 ·rw[Nat.min_eq_right h,zzm (zm _),zzm h,List.take_nil]
noncomputable def Nm(z:Str):Prop:=1<=z.length/\z.length<=8/\∀c∈z.cps.toList,97<=c/\c<=122
inductive rn(vs:List V)(H:Hp)(Q:VK)(E:XK):Prop
 |mk (i:Int) (_:vs=[.int i]) (_:Q (.bl true) H):rn vs H Q E
def Dp(T:Txt K mg A D):jK P w K mg base CX0 1 A.aa5 D.aa5 ["value"] rn:=by
 refine T.add.F.okv CK λ_ _ _ _ H vs Q E q h=>?_
 ·obtain⟨i,rfl,k⟩:=h
  refine⟨_,(iB (iR (Oz (jm (tU (K:=K)) (by rfl) T.aeT (by decide+kernel) (pav 0 (ir (VG "int" (by rfl) T.aeU (by decide+kernel)) iw))) (Ug (aie (jm (tU (K:=K)) (by rfl) T.aeT (by decide+kernel) (pav 0 (ir (VG "bool" (by rfl) T.aeV (by decide+kernel)) iw)))))))),?_⟩;walk_at "a";refine⟨_,.int i,true,by with_unfolding_all rfl,?_⟩;walk_at "a";refine⟨_,.int i,false,by with_unfolding_all rfl,?_⟩;walk_at "a";exact k
inductive wD(vs:List V)(H:Hp)(Q:VK)(E:XK):Prop
 |mk (z:Str) (i lo hi:Int) (_:vs=[.str z,.int i,.int lo,.int hi]) (_:lo<=i) (_:i<=hi) (_:Q .non H):wD vs H Q E
def ju(T:Txt K mg A D):jK P w K mg base CX0 2 A.aa6 D.aa6 ["what", "value", "least", "most"] wD:=by
 refine T.ade.F.okv Hj λ_ _ _ _ H vs Q E q h=>?_
 ·obtain⟨z,i,lo,hi,rfl,h1,h2,k⟩:=h
  refine⟨_,(iB (jT (PW.pt (DN (Dy (nO (pcg (Dp T) q T.add (Ej T) (pav 1 iw)))) (DN (iY (Mx) (pvD 1) (pvD 2) (jf _)) (Ai (iY (Ku) (pvD 1) (pvD 3) (jf _)))))) (iB (mC)) jo)),?_⟩;walk_at "a";refine⟨i,rfl,?_⟩;walk_at "a";rw[zc (by omega),zc (by omega)];exact k
inductive Lq(vs:List V)(H:Hp)(Q:VK)(E:XK):Prop
 |mk (z:Str) (_:vs=[.str z]) (_:Nm z) (_:∀H',Same H H'->Q (.bl true) H'):Lq vs H Q E
def VF(T:Txt K mg A D):jK P w K mg base CX0 1 A.aa7 D.aa7 ["value"] Lq:=by
 refine T.adf.F.okv Uw λ_ _ _ _ H vs Q E hr h=>?_
 ·obtain⟨z,rfl,⟨n1,n2,n3⟩,k⟩:=h
  refine ⟨_,(iu (jT (PW.pt (DN (Dy (nO (jm (tU (K:=K)) (by rfl) T.aeT (by decide+kernel) (pav 0 (ir (VG "str" (by rfl) T.aeX (by decide+kernel)) iw))))) (DN (iY (Mx) (jm Fy (by rfl) T.aeY (by decide+kernel) (pav 0 iw)) iz (jf _)) (Ai (iY (Ku) (jm Fy (by rfl) T.aeY (by decide+kernel) (pav 0 iw)) (lV (v:=V.int 8) (by rfl) T.afp ⟨_,rfl⟩) (jf _)))))) (iB (iR Mg)) jo)
   (iB (iR (jm (Xj (K:=K) rfl) (by rfl) T.aeW (by decide+kernel) (ir (jW (cap:=[none]) (N':=["sign"]) rfl (by walk_at "c") (akI (pvD 0)) (λ_ _ _ _=>(iK (i:=0) nd1 rfl orl orr)) (λ_ _ _ _=>jN) (λ_ _ _ _=>(aat (PB) (PB) jw (pvD 0) jw))) iw))))),?_⟩
  walk_at "a";refine⟨_,.str z,true,by with_unfolding_all rfl,?_⟩;walk_at "a";have q:z.length<=sizeLine:=by rw[zq];omega
  iterate 2 (refine⟨q,?_⟩;rw[zc (by omega)])
  refine lq.str (λσ=>∃v,σ=[v]) (λ_=>true) (λ_=> .bl true) ⟨none,rfl⟩ q ?_ ?_
  ·rintro x hx σ H5 R1 R2 ⟨v,rfl⟩ sm k1 k2
   obtain⟨c,hc,rfl⟩:=zj.mp hx;obtain⟨c1,c2⟩:=n3 c hc;walk_at "a";have ea:(Str.ofString "a").cps.toList=[97]:=by decide+kernel
   have ez:(Str.ofString "z").cps.toList=[122]:=by decide+kernel
   rw[ea,ez]
   have h1:¬[c]<[97]:=λh=>by
    rcases List.cons_lt_cons_iff.mp h with h|h
    ·omega
    ·exact absurd h.2 (List.not_lt_nil _)
   have h2:¬[122]<[c]:=λh=>by
    rcases List.cons_lt_cons_iff.mp h with h|h
    ·omega
    ·exact absurd h.2 (List.not_lt_nil _)
   rw[zg h1,zF h2];exact k1 rfl _ _ ⟨_,rfl⟩ (same_refl _)
  ·intro Da H' hD sm e
   rw[JM]at e;walk_at "a";refine⟨(L2.signs z).map λ_=>true,iI (by rw[e,zx];rfl),?_⟩;have:((L2.signs z).map λ_=>true).all id=true:=by simp
   rw[this];exact k H' sm
inductive DG(vs:List V)(H:Hp)(Q:VK)(E:XK):Prop
 |mk (t z:Str) (_:vs=[.str t,.str z]) (_:Nm z) (_:∀H',Same H H'->Q .non H'):DG vs H Q E
def Dw(T:Txt K mg A D):jK P w K mg base CX0 2 A.aa8 D.aa8 ["what", "value"] DG:=by
 refine T.adg.F.okv Mw λ_ _ _ _ H vs Q E q h=>?_
 ·obtain⟨t,z,rfl,hn,k⟩:=h
  refine⟨_,(iB (jT (Dy (nO (pcg (VF T) q T.adf (YZ T) (pav 1 iw)))) (iB (mC)) jo)),?_⟩;walk_at "a";refine⟨z,rfl,hn,λH' sm=>?_⟩;walk_at "a";exact k H' sm
inductive Ak(vs:List V)(H:Hp)(Q:VK)(E:XK):Prop
 |mk (p r f:Int) (_:vs=[.int p,.int r,.int f]) (_:(1<=p/\p<=1000000000)) (_:(0<=r/\r<=1000000000)) (_:(0<=f/\f<=1000000000)) (_:Q .non H):Ak vs H Q E
def Bb(T:Txt K mg A D):jK P w K mg base CX0 3 A.abb D.abb ["pieces", "price", "fee"] Ak:=by
 refine T.adj.F.ok Kl (by walk_at "v") (λ_ _ _ s H vs Q E q h=>?_)
 ·obtain⟨p,r,f,rfl,h1,h2,z,k⟩:=h
  refine ⟨_,(iu (jj (pcg (ju T) q T.ade (jz T) (ir jw (pav 0 (ir iz (ir (lV (v:=V.int 1000000000) (by rfl) T.aft ⟨_,rfl⟩) iw))))))
   (iu (jj (pcg (ju T) q T.ade (jz T) (ir jw (pav 1 (ir iz (ir (lV (v:=V.int 1000000000) (by rfl) T.afu ⟨_,rfl⟩) iw))))))
   (iB (jj (pcg (ju T) q T.ade (jz T) (ir jw (pav 2 (ir iz (ir (lV (v:=V.int 1000000000) (by rfl) T.afv ⟨_,rfl⟩) iw))))))))),?_⟩
  walk_at "a";refine⟨_,_,_,_,rfl,h1.1,h1.2,?_⟩;walk_at "a";refine⟨_,_,_,_,rfl,h2.1,h2.2,?_⟩;walk_at "a";refine⟨_,_,_,_,rfl,z.1,z.2,?_⟩;exact k
def lU{f:Str}{v:V}{fs:List (Str×V)}(ns:List Str)(e:fs.map (·.1)=ns:=by rfl)(h:ns.contains f=false:=by decide+kernel):Ez f v fs=fs++[(f,v)]:=xU f v (e▸h)
noncomputable def fsE(d n:Int)(w:Str):List (Str×V):=[("day",.int d),("number",.int n),("ware",.str w)]
structure Base(d n:Int)(w:Str):Prop where
 d0:0<=d
 d1:d<=1000000
 n0:0<=n
 n1:n<=1000000
 w:Nm w
structure CE(K:Fg_)(C:Addr):Prop where
 c:Cls K C
 d:iZ K C "day"
 n:iZ K C "number"
 w:iZ K C "ware"
structure New(B H:Hp)(x:Addr)(C dx:Addr)(fs:List (Str×V)):Prop where
 s:Same B H
 n:B x=none
 h:H x=some (.ins C dx fs)
def New.put{B H:Hp}{x C dx:Addr}{fs gs:List (Str×V)}(h:New B H x C dx fs)(e:gs=gs):New B (upd H x (.ins C dx gs)) x C dx gs:=⟨h.s.upd h.n,h.n,iC⟩
def New.same{B H H':Hp}{x C dx:Addr}{fs:List (Str×V)}(h:New B H x C dx fs)(e:Same H H'):New B H' x C dx fs:=⟨h.s.trans e,h.n,e _ _ h.h⟩
inductive uc(K:Fg_)(vs:List V)(H:Hp)(Q:VK)(E:XK):Prop
 |mk (x:Addr) (d n:Int) (w:Str) (B:Hp) (C dx:Addr) (_:vs=[.ref x,.int d,.int n,.str w]) (_:New B H x C dx []) (_:CE K C) (_:Base d n w) (_:∀H',New B H' x C dx (fsE d n w)->Q .non H'):uc K vs H Q E
def kY(T:Txt K mg A D):jK P w K mg base CX0 3 A.aa9 D.aa9 ["self", "day", "number", "ware"] (uc K):=by
 refine T.adh.okv Ed λ_ _ _ _ H vs Q E hr h=>?_
 ·obtain⟨x,d,n,w,B,C,dx,rfl,q,z,hB,k⟩:=h
  refine ⟨_,(iu (jj (pcg (ju T) hr T.ade (jz T) (ir jw (pav 1 (ir iz (ir (lV (v:=V.int 1000000) (by rfl) T.afq ⟨_,rfl⟩) iw))))))
   (iu (jj (pcg (ju T) hr T.ade (jz T) (ir jw (pav 2 (ir iz (ir (lV (v:=V.int 1000000) (by rfl) T.afr ⟨_,rfl⟩) iw))))))
   (iu (jj (pcg (Dw T) hr T.adg (FW T) (ir jw (pav 3 iw))))
   (iu (jr (K:=K) (pv 0) (pvD 1) rfl)
   (iu (jr (K:=K) (pv 0) (pvD 2) rfl)
   (iB (jr (K:=K) (pv 0) (pvD 3) rfl))))))),?_⟩
  walk_at "a";refine⟨_,_,_,_,rfl,hB.d0,hB.d1,?_⟩;walk_at "a";refine⟨_,_,_,_,rfl,hB.n0,hB.n1,?_⟩;walk_at "a";refine⟨_,_,rfl,hB.w,λH' sm=>?_⟩;walk_at "a";have q:=q.same sm;refine sw q.h z.c z.d (by decide) (?_);rw[xU _ _ (by decide+kernel)];have q:=q.put (gs:=[]++[(Str.ofString "day",V.int d)]) rfl;refine sw q.h z.c z.n (by simp) (?_);rw[lU (f:=Str.ofString "number") ["day"]];have q:=q.put (gs:=([]++[(Str.ofString "day",V.int d)])++[(Str.ofString "number",V.int n)]) rfl;refine sw q.h z.c z.w (by simp) (?_);rw[lU (f:=Str.ofString "ware") ["day", "number"]];exact k _ (q.put rfl)
abbrev Rs:=List (Addr×Int×Int)
noncomputable def refs(rs:Rs):List V:=rs.map λr=>V.ref r.1
noncomputable def aid(H:Hp)(rs:Rs):Prop:=∀r∈rs,H r.1=some (.tup [.int r.2.1,.int r.2.2])
def aid.same{H H':Hp}{rs:Rs}(h:aid H rs)(s:Same H H'):aid H' rs:=λr q=>s _ _ (h r q)
structure aly(rs:Rs)(p:Int):Prop where
 l:rs.length<=5
 b:∀r∈rs,0<=r.2.1/\r.2.1<=1000000/\1<=r.2.2/\r.2.2<=p
 u:(rs.map (·.2.1)).Nodup
 s:(rs.map (·.2.2)).sum=p
noncomputable def NL(H:Hp)(v:V):Option Rs->Prop
 |none=>v=.non
 |some rs=>∃l,v=.ref l/\H l=some (.lst (refs rs))/\aid H rs
noncomputable def ajS(p:Int):Option Rs->Prop
 |none=>True
 |some rs=>aly rs p
theorem NL.same{H H':Hp}{v:V}{o:Option Rs}(h:NL H v o)(s:Same H H'):NL H' v o:=by
 cases o with
 |none=>exact h
 |some rs=>obtain⟨l,e,h1,h2⟩:=h;exact⟨l,e,s _ _ h1,h2.same s⟩
inductive Ax(vs:List V)(H:Hp)(Q:VK)(E:XK):Prop
 |mk (p:Int) (_:vs=[.non,.int p]) (_:Q .non H):Ax vs H Q E
def Aw(T:Txt K mg A D):jK P w K mg base CX0 1 A.abd D.abd ["named", "pieces"] Ax:=by
 refine T.adl.F.okv Ko λ_ _ _ _ H vs Q E q h=>?_
 ·obtain⟨p,rfl,k⟩:=h
  refine ⟨_,(iu (jT (iY (Aj) (pvD 0) nj (jf _)) (iB (ajr)) jo)
   (iu (mC)
   (iu (mC)
   (iu (mC)
   (iB (mC)))))),?_⟩
  simp only[start_eq];walk_at "a";exact k
inductive Dj(vs:List V)(H:Hp)(Q:VK)(E:XK):Prop
 |mk (_:vs=[.non]) (_:Q .non H):Dj vs H Q E
def CG(T:Txt K mg A D):jK P w K mg base CX0 1 A.abe D.abe ["named"] Dj:=by
 refine T.adm.F.okv Mj λ_ _ _ _ H vs Q E q h=>?_
 ·obtain⟨rfl,k⟩:=h
  refine⟨_,(iB (iR (uK (iY (Aj) (pvD 0) nj (jf _)) nj (nu (xR (K:=K)) (by rfl) T.aeZ (by decide+kernel) (pav 0 iw))))),?_⟩;simp only[start_eq];walk_at "a";exact k
noncomputable def NT(H:Hp)(v:V):Option Rs->Prop
 |none=>v=.non
 |some rs=>∃l,v=.ref l/\H l=some (.tup (refs rs))/\aid H rs
theorem NT.same{H H':Hp}{v:V}{o:Option Rs}(h:NT H v o)(s:Same H H'):NT H' v o:=by
 cases o with
 |none=>exact h
 |some rs=>obtain⟨l,e,h1,h2⟩:=h;exact⟨l,e,s _ _ h1,h2.same s⟩
local macro_rules | `(tactic| walk_at "n") => `(tactic| ((try dsimp only); refine jB fun u hu => ?_; rw [ap_seq]; walk_at "i"; subst hu))
inductive Ent where
 |buy (d n:Int) (w:Str) (p r f:Int)
 |sell (d n:Int) (w:Str) (p r f:Int) (o:Option Rs)
 |gift (d n:Int) (w:Str) (p c s:Int)
 |give (d n:Int) (w:Str) (p:Int) (o:Option Rs)
 |split (d n:Int) (w:Str) (m f:Int)
 |part (d n:Int) (w u:Str) (s t:Int)
noncomputable def Rg(lo hi x:Int):Prop:=lo<=x/\x<=hi
noncomputable def Ent.good:Ent->Prop
 |.buy d n w p r f=>Base d n w/\Rg 1 1000000000 p/\Rg 0 1000000000 r/\Rg 0 1000000000 f
 |.sell d n w p r f o=>Base d n w/\Rg 1 1000000000 p/\Rg 0 1000000000 r/\Rg 0 1000000000 f/\ajS p o
 |.gift d n w p c s=>Base d n w/\Rg 1 1000000000 p/\Rg 0 1000000000000000000 c/\Rg 0 d s
 |.give d n w p o=>Base d n w/\Rg 1 1000000000 p/\ajS p o
 |.split d n w m f=>Base d n w/\Rg 1 1000 m/\Rg 1 1000 f
 |.part d n w u s t=>Base d n w/\Nm u/\u≠w/\Rg 1 1000000 t/\Rg 0 t s
noncomputable def Ent.fs(nv:V):Ent->List (Str×V)
 |.buy d n w p r f=>[("day",.int d),("number",.int n),("ware",.str w),("pieces",.int p),("price",.int r),("fee",.int f),("cost",.int (p*r+f))]
 |.sell d n w p r f _=>[("day",.int d),("number",.int n),("ware",.str w),("pieces",.int p),("price",.int r),("fee",.int f),("named",nv),("proceeds",.int (p*r - f))]
 |.gift d n w p c s=>[("day",.int d),("number",.int n),("ware",.str w),("pieces",.int p),("cost",.int c),("since",.int s)]
 |.give d n w p _=>[("day",.int d),("number",.int n),("ware",.str w),("pieces",.int p),("named",nv)]
 |.split d n w m f=>[("day",.int d),("number",.int n),("ware",.str w),("many",.int m),("of",.int f)]
 |.part d n w u s t=>[("day",.int d),("number",.int n),("ware",.str w),("other",.str u),("share",.int s),("whole",.int t)]
noncomputable def Ent.word:Ent->Str
 |.buy ..=> "buy"
 |.sell ..=> "sell"
 |.gift ..=> "gift"
 |.give ..=> "give"
 |.split ..=> "split"
 |.part ..=> "part"
noncomputable def Ent.args(nv:V):Ent->List V
 |.buy d n w p r f=>[.int d,.int n,.str w,.int p,.int r,.int f]
 |.sell d n w p r f _=>[.int d,.int n,.str w,.int p,.int r,.int f,nv]
 |.gift d n w p c s=>[.int d,.int n,.str w,.int p,.int c,.int s]
 |.give d n w p _=>[.int d,.int n,.str w,.int p,nv]
 |.split d n w m f=>[.int d,.int n,.str w,.int m,.int f]
 |.part d n w u s t=>[.int d,.int n,.str w,.str u,.int s,.int t]
noncomputable def Ent.lots:Ent->Option Rs
 |.sell _ _ _ _ _ _ o=>o
 |.give _ _ _ _ o=>o
 |_=>none
noncomputable def Ent.cls(A:Adr):Ent->Addr
 |.buy ..=>A.acS
 |.sell ..=>A.acT
 |.gift ..=>A.acU
 |.give ..=>A.acV
 |.split ..=>A.acW
 |.part ..=>A.acR
noncomputable def Made(A:Adr)(B H:Hp)(x:Addr)(e:Ent):Prop:=∃dx nv,New B H x (e.cls A) dx (e.fs nv)/\NL H nv e.lots/\∀q,nv=.ref q->B q=none
noncomputable def IsE(A:Adr)(H:Hp)(x:Addr)(e:Ent):Prop:=∃dx nv,H x=some (.ins (e.cls A) dx (e.fs nv))/\NL H nv e.lots
theorem IsE.same{A:Adr}{H H':Hp}{x:Addr}{e:Ent}(s:Same H H'):IsE A H x e->IsE A H' x e:=fun⟨dx,q,h,n⟩=>⟨dx,q,s _ _ h,n.same s⟩
def Mr{B H:Hp}{x C dx:Addr}{gs:List (Str×V)}{f:Str}{v:V}{R:Hp->Prop}(ks:List Str)(z:New B H x C dx gs)(c:Cls K C)(n:iZ K C f)(e:gs.map (·.1)=ks)(h:ks.contains f=false)(q:ks.length<1000)(k:∀H',New B H' x C dx (gs++[(f,v)])->R H'):∃C dx fs,H x=some (.ins C dx fs)/\Cls K C/\iZ K C f/\fs.length<1000/\R (upd H x (.ins C dx (Ez f v fs))):=by
 refine⟨C,dx,gs,z.h,c,n,by rw[<-e,za]at q;exact q,?_⟩;rw[lU ks e h];exact k _ (z.put rfl)
def aaV{p r:Int}(h1:Rg 1 1000000000 p)(h2:Rg 0 1000000000 r):Ab p r:=Ab.big (yx (show p.natAbs<=1000000000 from by unfold Rg at h1;omega) (by decide)) (yx (show r.natAbs<=1000000000 from by unfold Rg at h2;omega) (by decide))
noncomputable def Ar:Ent->Bool:=λe=>match e with|.buy ..=>true|_=>false
def aaS(T:Txt K mg A D):CE K A.acS:=⟨T.afK,T.afM,T.afN,T.afO⟩
noncomputable def tH:Ent->Bool:=λe=>match e with|.sell ..=>true|_=>false
def YL(T:Txt K mg A D):CE K A.acT:=⟨T.afT,T.afV,T.afW,T.afX⟩
noncomputable def tK:Ent->Bool:=λe=>match e with|.gift ..=>true|_=>false
def Xz(T:Txt K mg A D):CE K A.acU:=⟨T.af3,T.af5,T.af6,T.af7⟩
noncomputable def rR:Ent->Bool:=λe=>match e with|.give ..=>true|_=>false
def Xl(T:Txt K mg A D):CE K A.acV:=⟨T.agb,T.agd,T.age,T.agf⟩
noncomputable def oZ:Ent->Bool:=λe=>match e with|.split ..=>true|_=>false
def Tv(T:Txt K mg A D):CE K A.acW:=⟨T.agi,T.agk,T.agl,T.agm⟩
noncomputable def rZ:Ent->Bool:=λe=>match e with|.part ..=>true|_=>false
def LC(T:Txt K mg A D):CE K A.acR:=⟨T.afC,T.afE,T.afF,T.afG⟩
inductive WM(A:Adr)(vs:List V)(H:Hp)(Q:VK)(E:XK):Prop
 |mk (x:Addr) (d n p r f:Int) (w:Str) (B:Hp) (dx:Addr) (_:vs=[.ref x,.int d,.int n,.str w,.int p,.int r,.int f]) (_:New B H x A.acS dx []) (_:(Ent.good (.buy d n w p r f))) (_:∀H',Made A B H' x (.buy d n w p r f)->Q .non H'):WM A vs H Q E
def Jo(T:Txt K mg A D):jK P w K mg base CX0 4 A.abc D.abc ["self", "day", "number", "ware", "pieces", "price", "fee"] (WM A):=by
 refine T.adk.okv Ii λ_ _ _ _ H vs Q E hr h=>?_
 ·obtain⟨x,d,n,p,r,f,w,B,dx,rfl,z,hg,k⟩:=h
  refine ⟨_,(iu (jj (oG T.ahV (kY (K:=K) T) (hr.mono (by decide)) (by rfl) T.afe T.adh.kp (lu T) .nil jC (pav 0 (pav 1 (pav 2 (pav 3 iw))))))
   (iu (jj (pcg (Bb T) hr T.adj (CJ T) (pav 4 (pav 5 (pav 6 iw)))))
   (iu (jr (K:=K) (pv 0) (pvD 4) rfl)
   (iu (jr (K:=K) (pv 0) (pvD 5) rfl)
   (iu (jr (K:=K) (pv 0) (pvD 6) rfl)
   (iB (jr (K:=K) (pv 0) (jb jD (jb lN (pvD 4) (pvD 5)) (pvD 6)) rfl))))))),?_⟩
  simp only[start_eq];walk_at "n";refine⟨x,d,n,w,B,_,dx,rfl,z,aaS T,hg.1,λH1 z=>?_⟩;walk_at "n";refine⟨_,_,_,rfl,hg.2.1,hg.2.2.1,hg.2.2.2,?_⟩;walk_at "n";refine Mr ["day", "number", "ware"] z T.afK T.afP rfl (by decide+kernel) (by decide) λH2 z=>?_;walk_at "n";refine Mr ["day", "number", "ware", "pieces"] z T.afK T.afQ rfl (by decide+kernel) (by decide) λH2 z=>?_;walk_at "n";refine Mr ["day", "number", "ware", "pieces", "price"] z T.afK T.afR rfl (by decide+kernel) (by decide) λH2 z=>?_;walk_at "a";exact⟨aaV hg.2.1 hg.2.2.1,Mr ["day", "number", "ware", "pieces", "price", "fee"] z T.afK T.afS rfl (by decide+kernel) (by decide) λH2 z=>k H2 ⟨dx,.non,z,rfl,λq e=>by cases e⟩⟩
inductive Sq(A:Adr)(vs:List V)(H:Hp)(Q:VK)(E:XK):Prop
 |mk (x:Addr) (d n p r f:Int) (w:Str) (B:Hp) (dx:Addr) (_:vs=[.ref x,.int d,.int n,.str w,.int p,.int r,.int f,.non]) (_:New B H x A.acT dx []) (_:(Ent.good (.sell d n w p r f none))) (_:∀H',Made A B H' x (.sell d n w p r f none)->Q .non H'):Sq A vs H Q E
def Gf(T:Txt K mg A D):jK P w K mg base CX0 4 A.abf D.abf ["self", "day", "number", "ware", "pieces", "price", "fee", "named"] (Sq A):=by
 refine T.adn.okv GP λ_ _ _ _ H vs Q E hr h=>?_
 ·obtain⟨x,d,n,p,r,f,w,B,dx,rfl,z,hg,k⟩:=h
  refine ⟨_,(iu (jj (oG T.ahV (kY (K:=K) T) (hr.mono (by decide)) (by rfl) T.afe T.adh.kp (lu T) .nil jC (pav 0 (pav 1 (pav 2 (pav 3 iw))))))
   (iu (jj (pcg (Bb T) hr T.adj (CJ T) (pav 4 (pav 5 (pav 6 iw)))))
   (iu (jj (pcg (Aw T) hr T.adl (CZ T) (pav 7 (pav 4 iw))))
   (iu (jr (K:=K) (pv 0) (pvD 4) rfl)
   (iu (jr (K:=K) (pv 0) (pvD 5) rfl)
   (iu (jr (K:=K) (pv 0) (pvD 6) rfl)
   (iu (jr (K:=K) (pv 0) (pcg (CG T) hr T.adm (Fg T) (pav 7 iw)) rfl)
   (iB (jr (K:=K) (pv 0) (jb pD (jb lN (pvD 4) (pvD 5)) (pvD 6)) rfl))))))))),?_⟩
  simp only[start_eq];walk_at "n";refine⟨x,d,n,w,B,_,dx,rfl,z,YL T,hg.1,λH1 z=>?_⟩;walk_at "n";refine⟨_,_,_,rfl,hg.2.1,hg.2.2.1,hg.2.2.2.1,?_⟩;walk_at "n";refine⟨_,rfl,?_⟩;walk_at "n";refine Mr ["day", "number", "ware"] z T.afT T.afY rfl (by decide+kernel) (by decide) λH2 z=>?_;walk_at "n";refine Mr ["day", "number", "ware", "pieces"] z T.afT T.afZ rfl (by decide+kernel) (by decide) λH2 z=>?_;walk_at "n";refine Mr ["day", "number", "ware", "pieces", "price"] z T.afT T.af0 rfl (by decide+kernel) (by decide) λH2 z=>?_;walk_at "n";refine⟨rfl,Mr ["day", "number", "ware", "pieces", "price", "fee"] z T.afT T.af1 rfl (by decide+kernel) (by decide) λH2 z=>?_⟩;walk_at "a";exact⟨aaV hg.2.1 hg.2.2.1,Mr ["day", "number", "ware", "pieces", "price", "fee", "named"] z T.afT T.af2 rfl (by decide+kernel) (by decide) λH2 z=>k H2 ⟨dx,.non,z,rfl,λq e=>by cases e⟩⟩
inductive Tf(A:Adr)(vs:List V)(H:Hp)(Q:VK)(E:XK):Prop
 |mk (x:Addr) (d n p c s:Int) (w:Str) (B:Hp) (dx:Addr) (_:vs=[.ref x,.int d,.int n,.str w,.int p,.int c,.int s]) (_:New B H x A.acU dx []) (_:(Ent.good (.gift d n w p c s))) (_:∀H',Made A B H' x (.gift d n w p c s)->Q .non H'):Tf A vs H Q E
def GJ(T:Txt K mg A D):jK P w K mg base CX0 4 A.abg D.abg ["self", "day", "number", "ware", "pieces", "cost", "since"] (Tf A):=by
 refine T.ado.okv Gj λ_ _ _ _ H vs Q E hr h=>?_
 ·obtain⟨x,d,n,p,c,s,w,B,dx,rfl,z,hg,k⟩:=h
  refine ⟨_,(iu (jj (oG T.ahV (kY (K:=K) T) (hr.mono (by decide)) (by rfl) T.afe T.adh.kp (lu T) .nil jC (pav 0 (pav 1 (pav 2 (pav 3 iw))))))
   (iu (jj (pcg (ju T) hr T.ade (jz T) (ir jw (pav 4 (ir iz (ir (lV (v:=V.int 1000000000) (by rfl) T.aft ⟨_,rfl⟩) iw))))))
   (iu (jj (pcg (ju T) hr T.ade (jz T) (ir jw (pav 5 (ir iz (ir (lV (v:=V.int 1000000000000000000) (by rfl) T.afw ⟨_,rfl⟩) iw))))))
   (iu (jj (pcg (ju T) hr T.ade (jz T) (ir jw (pav 6 (ir iz (pav 1 iw))))))
   (iu (jr (K:=K) (pv 0) (pvD 4) rfl)
   (iu (jr (K:=K) (pv 0) (pvD 5) rfl)
   (iB (jr (K:=K) (pv 0) (pvD 6) rfl)))))))),?_⟩
  simp only[start_eq];walk_at "n";refine⟨x,d,n,w,B,_,dx,rfl,z,Xz T,hg.1,λH1 z=>?_⟩;walk_at "n";refine⟨_,_,_,_,rfl,hg.2.1.1,hg.2.1.2,?_⟩;walk_at "n";refine⟨_,_,_,_,rfl,hg.2.2.1.1,hg.2.2.1.2,?_⟩;walk_at "n";refine⟨_,_,_,_,rfl,hg.2.2.2.1,hg.2.2.2.2,?_⟩;walk_at "n";refine Mr ["day", "number", "ware"] z T.af3 T.af8 rfl (by decide+kernel) (by decide) λH2 z=>?_;walk_at "n";refine Mr ["day", "number", "ware", "pieces"] z T.af3 T.af9 rfl (by decide+kernel) (by decide) λH2 z=>?_;walk_at "a";exact Mr ["day", "number", "ware", "pieces", "cost"] z T.af3 T.aga rfl (by decide+kernel) (by decide) λH2 z=>k H2 ⟨dx,.non,z,rfl,λq e=>by cases e⟩
inductive Uh(A:Adr)(vs:List V)(H:Hp)(Q:VK)(E:XK):Prop
 |mk (x:Addr) (d n p:Int) (w:Str) (B:Hp) (dx:Addr) (_:vs=[.ref x,.int d,.int n,.str w,.int p,.non]) (_:New B H x A.acV dx []) (_:(Ent.good (.give d n w p none))) (_:∀H',Made A B H' x (.give d n w p none)->Q .non H'):Uh A vs H Q E
def Gs(T:Txt K mg A D):jK P w K mg base CX0 4 A.abh D.abh ["self", "day", "number", "ware", "pieces", "named"] (Uh A):=by
 refine T.adp.okv Gg λ_ _ _ _ H vs Q E hr h=>?_
 ·obtain⟨x,d,n,p,w,B,dx,rfl,z,hg,k⟩:=h
  refine ⟨_,(iu (jj (oG T.ahV (kY (K:=K) T) (hr.mono (by decide)) (by rfl) T.afe T.adh.kp (lu T) .nil jC (pav 0 (pav 1 (pav 2 (pav 3 iw))))))
   (iu (jj (pcg (ju T) hr T.ade (jz T) (ir jw (pav 4 (ir iz (ir (lV (v:=V.int 1000000000) (by rfl) T.aft ⟨_,rfl⟩) iw))))))
   (iu (jj (pcg (Aw T) hr T.adl (CZ T) (pav 5 (pav 4 iw))))
   (iu (jr (K:=K) (pv 0) (pvD 4) rfl)
   (iB (jr (K:=K) (pv 0) (pcg (CG T) hr T.adm (Fg T) (pav 5 iw)) rfl)))))),?_⟩
  simp only[start_eq];walk_at "n";refine⟨x,d,n,w,B,_,dx,rfl,z,Xl T,hg.1,λH1 z=>?_⟩;walk_at "n";refine⟨_,_,_,_,rfl,hg.2.1.1,hg.2.1.2,?_⟩;walk_at "n";refine⟨_,rfl,?_⟩;walk_at "n";refine Mr ["day", "number", "ware"] z T.agb T.agg rfl (by decide+kernel) (by decide) λH2 z=>?_;walk_at "a";exact⟨rfl,Mr ["day", "number", "ware", "pieces"] z T.agb T.agh rfl (by decide+kernel) (by decide) λH2 z=>k H2 ⟨dx,.non,z,rfl,λq e=>by cases e⟩⟩
inductive NZ(A:Adr)(vs:List V)(H:Hp)(Q:VK)(E:XK):Prop
 |mk (x:Addr) (d n m f:Int) (w:Str) (B:Hp) (dx:Addr) (_:vs=[.ref x,.int d,.int n,.str w,.int m,.int f]) (_:New B H x A.acW dx []) (_:(Ent.good (.split d n w m f))) (_:∀H',Made A B H' x (.split d n w m f)->Q .non H'):NZ A vs H Q E
def DW(T:Txt K mg A D):jK P w K mg base CX0 4 A.abi D.abi ["self", "day", "number", "ware", "many", "of"] (NZ A):=by
 refine T.adq.okv Ef λ_ _ _ _ H vs Q E hr h=>?_
 ·obtain⟨x,d,n,m,f,w,B,dx,rfl,z,hg,k⟩:=h
  refine ⟨_,(iu (jj (oG T.ahV (kY (K:=K) T) (hr.mono (by decide)) (by rfl) T.afe T.adh.kp (lu T) .nil jC (pav 0 (pav 1 (pav 2 (pav 3 iw))))))
   (iu (jj (pcg (ju T) hr T.ade (jz T) (ir jw (pav 4 (ir iz (ir (lV (v:=V.int 1000) (by rfl) T.afx ⟨_,rfl⟩) iw))))))
   (iu (jj (pcg (ju T) hr T.ade (jz T) (ir jw (pav 5 (ir iz (ir (lV (v:=V.int 1000) (by rfl) T.afx ⟨_,rfl⟩) iw))))))
   (iu (jr (K:=K) (pv 0) (pvD 4) rfl)
   (iB (jr (K:=K) (pv 0) (pvD 5) rfl)))))),?_⟩
  simp only[start_eq];walk_at "n";refine⟨x,d,n,w,B,_,dx,rfl,z,Tv T,hg.1,λH1 z=>?_⟩;walk_at "n";refine⟨_,_,_,_,rfl,hg.2.1.1,hg.2.1.2,?_⟩;walk_at "n";refine⟨_,_,_,_,rfl,hg.2.2.1,hg.2.2.2,?_⟩;walk_at "n";refine Mr ["day", "number", "ware"] z T.agi T.agn rfl (by decide+kernel) (by decide) λH2 z=>?_;walk_at "a";exact Mr ["day", "number", "ware", "many"] z T.agi T.ago rfl (by decide+kernel) (by decide) λH2 z=>k H2 ⟨dx,.non,z,rfl,λq e=>by cases e⟩
inductive Hr(A:Adr)(vs:List V)(H:Hp)(Q:VK)(E:XK):Prop
 |mk (x:Addr) (d n s t:Int) (w u:Str) (B:Hp) (dx:Addr) (_:vs=[.ref x,.int d,.int n,.str w,.str u,.int s,.int t]) (_:New B H x A.acR dx []) (_:(Ent.good (.part d n w u s t))) (_:∀H',Made A B H' x (.part d n w u s t)->Q .non H'):Hr A vs H Q E
def BP(T:Txt K mg A D):jK P w K mg base CX0 4 A.aba D.aba ["self", "day", "number", "ware", "other", "share", "whole"] (Hr A):=by
 refine T.adi.okv BX λ_ _ _ _ H vs Q E hr h=>?_
 ·obtain⟨x,d,n,s,t,w,u,B,dx,rfl,z,hg,k⟩:=h
  refine ⟨_,(iu (jj (oG T.ahV (kY (K:=K) T) (hr.mono (by decide)) (by rfl) T.afe T.adh.kp (lu T) .nil jC (pav 0 (pav 1 (pav 2 (pav 3 iw))))))
   (iu (jj (pcg (Dw T) hr T.adg (FW T) (ir jw (pav 4 iw))))
   (iu (jT (iY (mU) (pvD 4) (pvD 3) (jf _)) (iB (mC)) jo)
   (iu (jj (pcg (ju T) hr T.ade (jz T) (ir jw (pav 6 (ir iz (ir (lV (v:=V.int 1000000) (by rfl) T.afs ⟨_,rfl⟩) iw))))))
   (iu (jj (pcg (ju T) hr T.ade (jz T) (ir jw (pav 5 (ir iz (pav 6 iw))))))
   (iu (jr (K:=K) (pv 0) (pvD 4) rfl)
   (iu (jr (K:=K) (pv 0) (pvD 5) rfl)
   (iB (jr (K:=K) (pv 0) (pvD 6) rfl))))))))),?_⟩
  simp only[start_eq];walk_at "n";refine⟨x,d,n,w,B,_,dx,rfl,z,LC T,hg.1,λH1 z=>?_⟩;walk_at "n";refine⟨_,_,rfl,hg.2.1,λH2 sm=>?_⟩;have z:=z.same sm;walk_at "n";rw[zc hg.2.2.1];walk_at "n";refine⟨_,_,_,_,rfl,hg.2.2.2.1.1,hg.2.2.2.1.2,?_⟩;walk_at "n";refine⟨_,_,_,_,rfl,hg.2.2.2.2.1,hg.2.2.2.2.2,?_⟩;walk_at "n";refine Mr ["day", "number", "ware"] z T.afC T.afH rfl (by decide+kernel) (by decide) λH2 z=>?_;walk_at "n";refine Mr ["day", "number", "ware", "other"] z T.afC T.afI rfl (by decide+kernel) (by decide) λH2 z=>?_;walk_at "a";exact Mr ["day", "number", "ware", "other", "share"] z T.afC T.afJ rfl (by decide+kernel) (by decide) λH2 z=>k H2 ⟨dx,.non,z,rfl,λq e=>by cases e⟩
local macro_rules | `(tactic| walk_at "m") => `(tactic| ((try dsimp only); rw [ap_seq]; walk_at "i"))
noncomputable def aaE(H:Hp)(t:Addr)(e:Ent):Prop:=∃nt,H t=some (.tup (.str e.word::e.args nt))/\NT H nt e.lots
theorem aaE.same{H H':Hp}{t:Addr}{e:Ent}(s:Same H H'):aaE H t e->aaE H' t e:=fun⟨q,h,n⟩=>⟨q,s _ _ h,n.same s⟩
def pY{H:Hp}{x dx C:Addr}(z:H x=none)(q:H dx=none):New H (upd (upd H dx (.own x)) x (.ins C dx [])) x C dx []:=⟨(iH q).upd z,z,iC⟩
noncomputable def Ent.day:Ent->Int
 |.buy d ..=>d
 |.sell d ..=>d
 |.gift d ..=>d
 |.give d ..=>d
 |.split d ..=>d
 |.part d ..=>d
noncomputable def Ent.num:Ent->Int
 |.buy _ n ..=>n
 |.sell _ n ..=>n
 |.gift _ n ..=>n
 |.give _ n ..=>n
 |.split _ n ..=>n
 |.part _ n ..=>n
noncomputable def Ent.ware:Ent->Str
 |.buy _ _ w ..=>w
 |.sell _ _ w ..=>w
 |.gift _ _ w ..=>w
 |.give _ _ w ..=>w
 |.split _ _ w ..=>w
 |.part _ _ w ..=>w
def aaF(T:Txt K mg A D)(e:Ent):CE K (e.cls A):=by
 cases e with
 |buy=>exact aaS T
 |sell=>exact YL T
 |gift=>exact Xz T
 |give=>exact Xl T
 |split=>exact Tv T
 |part=>exact LC T
def Tp(e:Ent)(q:V):(e.fs q).lookup (Str.ofString "day")=some (.int e.day):=by cases e<;>rfl
def Be(e:Ent)(q:V):(e.fs q).lookup (Str.ofString "number")=some (.int e.num):=by cases e<;>rfl
def aid.put{H:Hp}{rs:Rs}{l:Addr}{xs:List V}{u:HO}(h:aid H rs)(hl:H l=some (.lst xs)):aid (upd H l u) rs:=λr q=>by
 have h2:=h r q;rw[iQ (λz=>by rw[z,hl]at h2;cases h2)];exact h2
theorem NT.put{H:Hp}{v:V}{o:Option Rs}{l:Addr}{xs:List V}{u:HO}(h:NT H v o)(hl:H l=some (.lst xs)):NT (upd H l u) v o:=by
 cases o with
 |none=>exact h
 |some rs=>
  obtain⟨q,rfl,h1,h2⟩:=h;refine⟨q,rfl,?_,h2.put hl⟩;rw[iQ (λz=>by rw[z,hl]at h1;cases h1)];exact h1
theorem aaE.put{H:Hp}{t:Addr}{e:Ent}{l:Addr}{xs:List V}{u:HO}(h:aaE H t e)(q:H l=some (.lst xs)):aaE (upd H l u) t e:=by
 obtain⟨nt,h1,h2⟩:=h;refine⟨nt,?_,h2.put q⟩;rw[iQ (λz=>by rw[z,q]at h1;cases h1)];exact h1
local macro_rules | `(tactic| walk_at "l") => `(tactic| (rw [ap_seq]; walk_at "i"))
def at3{a b c i:Int}{lo hi:Int}(h0:0<=i)(h1:i<3)(ha:Rg lo hi a)(z:Rg lo hi b)(q:Rg lo hi c):∃v,atI [V.int a,V.int b,V.int c] i=some (.int v)/\Rg lo hi v:=by
 have h:i=0\/i=1\/i=2:=by omega
 rcases h with h|h|h<;>rw[h]
 ·exact⟨a,rfl,ha⟩
 ·exact⟨b,rfl,z⟩
 ·exact⟨c,rfl,q⟩
def vD{lo hi x m:Int}(hm:0<m)(q:lo<=0)(z:m - 1<=hi):Rg lo hi (x%m):=⟨by have:=z6 x (show m≠0 by omega);omega,by have:=zY x hm;omega⟩
def Yk{ws:List Str}{i:Int}(z:0<=i)(h1:i<ws.length):∃w,atI (ws.map V.str) i=some (.str w)/\ws[i.toNat]? =some w:=by
 have q:i.toNat<ws.length:=by omega
 refine⟨ws[i.toNat],?_,zh q⟩;have e:((i.toNat:Nat):Int)=i:=by omega
 have h:=Iz (xs:=ws.map V.str) (j:=i.toNat) (v:=.str ws[i.toNat]) (by rw[zf,zh q];rfl)
 rwa [e]at h
def aiY{ws:List Str}(z:ws.Nodup){i j:Nat}{u v:Str}(hi:ws[i]? =some u)(q:ws[j]? =some v)(h:i≠j):u≠v:=λe=>by
 subst e;have h1:=(zp.mp hi);have h2:=(zp.mp q);exact h ((zzX (xs:=ws) z (h₀:=h1.1) (h₁:=h2.1)).mp (h1.2.trans h2.2.symm))
def e6:(10:Int)^Int.toNat 6=1000000:=by decide
def Zv{a b L:Int}(a0:0<=a)(a1:a<L)(q:0<=b)(z:b<L - 1):(a+1+b)%L≠a:=by
 by_cases h:a+1+b<L
 ·rw[Int.emod_eq_of_lt (by omega) h];omega
 ·have e:(a+1+b)%L=(a+1+b - L)%L:=by
   have:=Int.add_emod_right (a+1+b - L) L;rw[Int.sub_add_cancel]at this;exact this
  rw[e,Int.emod_eq_of_lt (by omega) (by omega)];omega
def ajX{J:It}{cap:List (Option Nat)}{g:TG}{te:TE}{σ:L2.St}{H:Hp}{Q:VK}(n:Nat)(Xs:Nat->V->Prop)(Sσ:L2.St->Prop)(F:Nat->V->Hp->Prop)(h0:Sσ (qi σ cap))(hz:n<=sizeLine)
  (ah:∀i q,i<n->Same H q->J.go i q/\∀y H',J.yld i q y H'->H'=q/\Xs i y) (af:∀q,Same H q->J.stop n q)
  (hs:∀D i x,i<n->Xs i x->∀(σ:L2.St)(q:Hp)(R:L2.St->VK),Sσ σ->Same H q->H D=none->(∃acc,q D=some (.lst acc))->(∀v σ4 H6,Sσ σ4->Same q H6->(∀H',But D H6 H'->F i v H')->R σ4 v H6)->g x σ q λσ4 H4=>te σ4 H4 (R σ4))
  (k:∀D H' acc,H D=none->Same H H'->H' D=some (.lst acc)->acc.length=n->(∀(i:Nat) v,acc[i]? =some v->F i v H')->Q (.ref D) H'):lq cap J g Mp te σ H Q:=by
 intro D hD;refine⟨λi m acc σ H2=>m=n - i/\i<=n/\Sσ σ/\Same H H2/\acc.length=i/\∀(j:Nat) v,acc[j]? =some v->∀H',But D H2 H'->F j v H',⟨n,rfl,zJ _,h0,iH hD,rfl,λj v e=>by simp at e⟩,?_⟩;rintro i m acc σ1 H2 ⟨rfl,hi,hσ,sm,ac,hF⟩ hA;by_cases aa:i<n
 ·obtain⟨g1,g2⟩:=ah i H2 aa sm
  refine .inr ⟨g1,λy H3 hy=>?_⟩;obtain⟨e3,hx⟩:=g2 y H3 hy;subst e3;simp only[ap_noIf,if_true];refine hs D i _ aa hx σ1 H3 _ hσ sm hD ⟨_,hA⟩ λv σ4 H6 aj s6 ad=>?_;have ae:=s6 _ _ hA;refine⟨acc,ae,by omega,n - (i+1),by omega,rfl,aa,aj,(sm.trans s6).upd hD,by rw[zB,ac];rfl,λj u hj H' hb=>?_⟩;have ab:But D H6 H':=λb o z e=>hb b o z ((iQ z).trans e);by_cases ag:j<acc.length
  ·rw[z9 ag]at hj
   exact hF j u hj H' λb o z e=>ab b o z (s6 _ _ e)
  ·rw[z7 (by omega)]at hj
   have ai:j - acc.length=0:=by
    have:=(zp.mp hj).1;simp at this;omega
   rw[ai]at hj;cases hj;obtain rfl:j=i:=by omega
   exact ad H' ab
 ·obtain rfl:i=n:=by omega
  exact .inl ⟨af H2 sm,k D H2 acc hD sm hA ac λj v e=>hF j v e H2 λb o _ e=>e⟩
def akN{lo:Int}{cap:List (Option Nat)}{g:TG}{te:TE}{σ:L2.St}{H:Hp}{Q:VK}{n:Nat}(Sσ:L2.St->Prop)(F:Nat->V->Hp->Prop)(h0:Sσ (qi σ cap))(hz:n<=sizeLine)
  (hs:∀D i,i<n->∀(σ:L2.St)(z:Hp)(R:L2.St->VK),Sσ σ->Same H z->H D=none->(∃acc,z D=some (.lst acc))->(∀v q H6,Sσ q->Same z H6->(∀H',But D H6 H'->F i v H')->R q v H6)->g (.int (lo+i)) σ z λq H4=>te q H4 (R q))
  (k:∀D H' acc,H D=none->Same H H'->H' D=some (.lst acc)->acc.length=n->(∀(i:Nat) v,acc[i]? =some v->F i v H')->Q (.ref D) H'):lq cap (Itr lo n) g Mp te σ H Q:=
 ajX n (λi x=>x=.int (lo+i)) Sσ F h0 hz (λi z hi _=>⟨hi,λy H' hy=>⟨hy.1,hy.2⟩⟩) (λ_ _=>zm n) (λD i x hi hx=>by subst hx;exact hs D i hi) k
def aaA{a:Addr}{o:Obj}{kvs:List (Key×V)}{cap:List (Option Nat)}{g:TG}{te:TE}{σ:L2.St}{H:Hp}{Q:VK}(Sσ:L2.St->Prop)(F:Nat->V->Hp->Prop)(hH:H a=some (.frz o (.dK kvs)))(h0:Sσ (qi σ cap))(hz:kvs.length<=sizeLine)
  (hs:∀D i q,kvs[i]? =some q->∀(σ:L2.St)(H5:Hp)(R:L2.St->VK),Sσ σ->Same H H5->H D=none->(∃acc,H5 D=some (.lst acc))->(∀v z H6,Sσ z->Same H5 H6->(∀H',But D H6 H'->F i v H')->R z v H6)->g (kV q.1) σ H5 λz H4=>te z H4 (R z))
  (k:∀D H' acc,H D=none->Same H H'->H' D=some (.lst acc)->acc.length=kvs.length->(∀(i:Nat) v,acc[i]? =some v->F i v H')->Q (.ref D) H'):lq cap (Itk a o kvs) g Mp te σ H Q:=
 ajX kvs.length (λi x=>∃q,kvs[i]? =some q/\x=kV q.1) Sσ F h0 hz (λi H5 hi s=>⟨⟨s _ _ hH,hi⟩,λy H' hy=>hy⟩) (λ_ s=>⟨s _ _ hH,zm _⟩) (λD i x hi ⟨q,e,hx⟩=>by subst hx;exact hs D i q e) k
noncomputable def jA(kvs:List (Key×V))(z:Str):Int:=match pF kvs (Sum.inr z)with
 |some (.int i)=>i
 |_=>0
theorem Eg:∀{kvs:List (Key×V)}{k:Key}{v:V},pF kvs k=some v->(k,v)∈kvs
 |[],_,_,h=>by cases h
 |p::kvs,k,v,h=>by
  by_cases e:p.1=k
  ·rw[lH e]at h
   cases h;rw[<-e];exact zk
  ·rw[lC e]at h
   exact zt _ (Eg h)
def Ma{kvs:List (Key×V)}{k:Key}{v:V}(q:(kvs.map (·.1)).Nodup)(h:(k,v)∈kvs):pF kvs k=some v:=by
 induction kvs with
 |nil=>exact(zo h).elim
 |cons p kvs ih=>
  rw[zi,zP]at q;rcases zv.mp h with e|h
  ·subst e
   exact lH rfl
  ·have:p.1≠k:=λe=>q.1 (by rw[e];exact zj.mpr ⟨(k,v),h,rfl⟩)
   rw[lC this];exact ih q.2 h
def Qt{kvs:List (Key×V)}{k:Key}{v:V}(z:(kvs.map (·.1)).Nodup):((putK kvs k v).map (·.1)).Nodup:=by
 cases e:pF kvs k with
 |none=>exact aiO v z e
 |some w=>
  unfold putK;rw[zg (by rw[ph,e];rfl),zx]
  have:((λx:Key×V=>x.1)∘λq:Key×V=>if q.1=k then(q.1,v)else q)=λx=>x.1:=by
   funext q;show(if q.1=k then(q.1,v)else q).1=q.1;split<;>rfl
  rw[this];exact z
def RM{kvs:List (Key×V)}{k:Key}{v:V}{p:Key×V}(h:p∈putK kvs k v):p=(k,v)\/p∈kvs:=by
 unfold putK at h;split at h
 ·obtain⟨q,z,rfl⟩:=zj.mp h
  split
  ·rename_i e
   exact .inl (by rw[e])
  ·exact .inr z
 ·rcases zI.mp h with h|h
  ·exact .inr h
  ·exact .inl (zy.mp h)
structure Cnt(kvs:List (Key×V)):Prop where
 k:∀kv∈kvs,∃(z:Str)(i:Int),kv=(Sum.inr z,.int i)/\0<=i
 u:(kvs.map (·.1)).Nodup
theorem Cnt.nil:Cnt []:=⟨λq h=>(zo h).elim,.nil⟩
def Cnt.get{kvs:List (Key×V)}(h:Cnt kvs)(z:Str):(pF kvs (Sum.inr z)).getD (.int 0)=.int (jA kvs z)/\0<=jA kvs z:=by
 unfold jA
 cases e:pF kvs (Sum.inr z)with
 |none=>exact⟨rfl,zzQ _⟩
 |some v=>
  obtain⟨y,i,q,hi⟩:=h.k _ (Eg e);cases q;exact⟨rfl,hi⟩
def Cnt.put{kvs:List (Key×V)}(h:Cnt kvs)(z:Str){n:Int}(hn:0<=n):Cnt (putK kvs (Sum.inr z) (.int n)):=
 ⟨λkv q=>(RM q).elim (λe=>⟨z,n,e,hn⟩) (h.k kv),Qt h.u⟩
theorem Hh{α:Type}{f:α->α}:∀{l:List α},(∀x∈l,f x=x)->l.map f=l
 |[],_=>rfl
 |x::l,h=>by rw[zi,h x (.head _),Hh λy q=>h y (.tail _ q)]
def VL{i:Nat}{σ:L2.St}{H:Hp}{c w:Str}{Q:Bool->Hp->Prop}(h:σ[i]? =some (some (.str w)))(k:Q (decide (V.str w=V.str c)) H):Bg (tOp rEq (tV i) (tC (.str c))) σ H Q:=by
 unfold Bg tOp tV tC atV rEq;rw[h];exact⟨rfl,_,rfl,k⟩
def ald{w c:Str}(n:w≠c):decide (V.str w=V.str c)=false:=zF λe=>n (V.str.inj e)
def sk1{i:Nat}{σ:L2.St}{H:Hp}{c w:Str}{s u:TS}{D:_}(h:σ[i]? =some (some (.str w)))(n:w≠c)(k:u D σ H):Xu (Wa (Bg (tOp rEq (tV i) (tC (.str c)))) s Qv) u D σ H:=by
 refine VL h ?_;rw[ald n];exact k
def sk2{i:Nat}{σ:L2.St}{H:Hp}{c d w:Str}{s u:TS}{D:_}(h:σ[i]? =some (some (.str w)))(n:w≠c)(m:w≠d)(k:u D σ H):Xu (Wa (tOr (Bg (tOp rEq (tV i) (tC (.str c)))) (Bg (tOp rEq (tV i) (tC (.str d))))) s Qv) u D σ H:=by
 refine VL h ?_;rw[ald n];refine VL h ?_;rw[ald m];exact k
def go1{i:Nat}{σ:L2.St}{H:Hp}{c:Str}{s u:TS}{D:_}(h:σ[i]? =some (some (.str c)))(k:s {D with nx:=u D} σ H):Xu (Wa (Bg (tOp rEq (tV i) (tC (.str c)))) s Qv) u D σ H:=by
 refine VL h ?_;rw[zD rfl];exact k
def go2{i:Nat}{σ:L2.St}{H:Hp}{c d w:Str}{s u:TS}{D:_}(h:σ[i]? =some (some (.str w)))(n:w=c\/w=d)(k:s {D with nx:=u D} σ H):Xu (Wa (tOr (Bg (tOp rEq (tV i) (tC (.str c)))) (Bg (tOp rEq (tV i) (tC (.str d))))) s Qv) u D σ H:=by
 refine VL h ?_;by_cases e:V.str w=V.str c
 ·rw[zD e]
  exact k
 ·rw[zF e]
  refine VL h ?_;rw[zD (show V.str w=V.str d from congrArg V.str (n.resolve_left λz=>e (congrArg V.str z)))];exact k
def ajF{i:Nat}{σ:L2.St}{H:Hp}{a:Addr}{vs:List V}{c w:Str}{Q:Bool->Hp->Prop}(h:σ[i]? =some (some (.ref a)))(q:H a=some (.tup vs))(a0:atI vs 0=some (.str w))(k:Q (decide (V.str w=V.str c)) H):Bg (tOp rEq (tOp (aif K) (tV i) (tC (.int 0))) (tC (.str c))) σ H Q:=by
 unfold Bg tOp tV tC atV rEq aif;rw[h];exact⟨_,_,_,_,rfl,rfl,jG q,a0,rfl,_,rfl,k⟩
def si1{i:Nat}{σ:L2.St}{H:Hp}{a:Addr}{vs:List V}{c w:Str}{s u:TS}{D:_}(h:σ[i]? =some (some (.ref a)))(q:H a=some (.tup vs))(a0:atI vs 0=some (.str w))(n:w≠c)(k:u D σ H):Xu (Wa (Bg (tOp rEq (tOp (aif K) (tV i) (tC (.int 0))) (tC (.str c)))) s Qv) u D σ H:=by
 refine ajF h q a0 ?_;rw[ald n];exact k
def gi1{i:Nat}{σ:L2.St}{H:Hp}{a:Addr}{vs:List V}{c:Str}{s u:TS}{D:_}(h:σ[i]? =some (some (.ref a)))(q:H a=some (.tup vs))(a0:atI vs 0=some (.str c))(k:s {D with nx:=u D} σ H):Xu (Wa (Bg (tOp rEq (tOp (aif K) (tV i) (tC (.int 0))) (tC (.str c)))) s Qv) u D σ H:=by
 refine ajF h q a0 ?_;rw[zD rfl];exact k
def sc0{i:Nat}{σ:L2.St}{H:Hp}{x:V}{t:Value}{C:Addr}{s u:TS}{D:_}(h:σ[i]? =some (some x))(ty:Kd K H x t)(e:kitOne K t (.ref C)=some false)(k:u D σ H):Wa (tB (tCB (ajx K) (EY (tV i) (EY (tC (.ref C)) Wx)))) s u D σ H:=by
 unfold Wa tB tCB EY tV tC Wx atV ajx;rw[h];exact⟨_,_,_,_,rfl,ty,e,_,rfl,k⟩
def sc1{i:Nat}{σ:L2.St}{H:Hp}{x:V}{t:Value}{C:Addr}{s u:TS}{D:_}(h:σ[i]? =some (some x))(ty:Kd K H x t)(e:kitOne K t (.ref C)=some true)(k:s D σ H):Wa (tB (tCB (ajx K) (EY (tV i) (EY (tC (.ref C)) Wx)))) s u D σ H:=by
 unfold Wa tB tCB EY tV tC Wx atV ajx;rw[h];exact⟨_,_,_,_,rfl,ty,e,_,rfl,k⟩
abbrev EL:=List (Addr×Ent)
noncomputable def Dh(es:EL):List V:=es.map λr=>V.ref r.1
noncomputable def Nh(A:Adr)(H:Hp)(es:EL):Prop:=∀r∈es,IsE A H r.1 r.2
theorem Nh.same{H H':Hp}{es:EL}(h:Nh A H es)(s:Same H H'):Nh A H' es:=λr q=>(h r q).same s
def vR(es:EL):(Dh es).length=es.length:=by unfold Dh;rw[za]
def Qx{rs:EL}{i:Nat}{y:V}(h:(Dh rs)[i]? =some y):∃r,rs[i]? =some r/\y=.ref r.1:=by
 unfold Dh at h;rw[zf]at h
 cases e:rs[i]? with
 |none=>rw[e]at h;cases h
 |some r=>rw[e]at h;exact⟨r,rfl,(zw h).symm⟩
def ZL{f:Addr×Ent->Int}{rs:EL}:∀{acc:List V},acc.length=rs.length->(∀(i:Nat) v,acc[i]? =some v->∃l,rs[i]? =some l/\v=.int (f l))->acc=(rs.map f).map V.int:=by
 intro acc q h;refine zzl λi=>?_;rw[zf,zf];by_cases hi:i<acc.length
 ·obtain⟨l,h1,h2⟩:=h i _ (zh hi)
  rw[zh hi,h2,h1];rfl
 ·rw[z5 (by omega),z5 (by omega)]
  rfl
def ZF(T:Txt K mg A D){H:Hp}{q:Addr}{es:EL}{Q:VK}{σ:L2.St}(hq:H q=some (.lst (Dh es)))(hE:Nh A H es)(hl:es.length<=100)
  (k:∀D H',H D=none->Same H H'->H' D=some (.lst ((es.map λl=>l.2.num).map V.int))->Q (.ref D) H'):lq [none] (Itl K q) (Vt 0) Mp (tFV K 0 "number") σ H Q:=by
 refine lq.listE (K:=K) (λσ=>∃a,σ=[a]) (λi v _=>∃l,es[i]? =some l/\v=.int l.2.num) (iI hq) ⟨_,rfl⟩ (by rw[vR,zq];omega) ?_ ?_
 ·rintro Da i x hx σ H5 R ⟨_,rfl⟩ sm hD _ kk
  obtain⟨l,aa,rfl⟩:=Qx hx;obtain⟨dx,nv,ab,hn⟩:=(hE l (zn aa)).same sm;have hC:=aaF T l.2;walk_at "i";exact rd ab hC.c hC.n (Be l.2 nv) (kk _ _ H5 ⟨_,rfl⟩ (same_refl _) λH' _=>⟨l,aa,rfl⟩)
 ·intro Da H' acc hD sm hA z hF
  rw[ZL (f:=λl=>l.2.num) (by rw[z,vR]) hF]at hA;exact k Da H' hD sm hA
def amc{g:TG}{tb:TS}{D:Ends}{σ:L2.St}{H:Hp}{a b:Addr}{xs ys:List V}(q:Nat->L2.St->Hp->Prop)(n:Nat)(ab:n<=xs.length)(ac:n<=ys.length)(z:xs.length<=n\/ys.length<=n)(h0:q 0 σ H)(hl:∀i σ H,i<=n->q i σ H->SqL K H a xs/\SqL K H b ys)
  (hs:∀i x y σ H p,xs[i]? =some x->ys[i]? =some y->q i σ H->H p=none->g (.ref p) σ (upd H p (.tup [x,y])) λσ2 H2=>tb {D with nx:=q (i+1),ct:=q (i+1),bk:=D.nx} σ2 H2) (hd:∀σ H,q n σ H->D.nx σ H):Bw (Itz K a b) g tb D σ H:=by
 refine⟨λi m σ H=>m=n - i/\i<=n/\q i σ H,⟨n,by simp,zJ _,h0⟩,?_⟩;rintro i m σ H ⟨rfl,hi,p⟩;obtain⟨q1,q2⟩:=hl i σ H hi p;by_cases aa:i<n
 ·have h1:i<xs.length:=by omega
  have h2:i<ys.length:=by omega
  refine .inr ⟨⟨xs,ys,xs[i],ys[i],q1,q2,by simp,by simp⟩,q (i+1),λσ' H' p'=>⟨n - (i+1),by omega,rfl,aa,p'⟩,λv H' y=>?_⟩;obtain⟨pp,x,y,hp,rfl,rfl,e1,e2⟩:=y;exact hs i x y σ _ pp (e1 xs q1) (e2 ys q2) p hp
 ·have e:i=n:=by omega
  subst e;exact .inl ⟨⟨xs,ys,q1,q2,z⟩,hd σ H p⟩
inductive wU(K:Fg_)(vs:List V)(H:Hp)(Q:VK)(E:XK):Prop
 |mk (a:Addr) (ns:List Int) (_:vs=[.ref a]) (_:SqL K H a (ns.map V.int)) (_:ns.length<64) (_:ns.Nodup) (_:∀H',Same H H'->Q .non H'):wU K vs H Q E
def JD(T:Txt K mg A D):jK P w K mg base CX0 1 A.abl D.abl ["numbers"] (wU K):=by
 refine T.adt.F.okv oh λ_ _ _ _ H vs Q E hr h=>?_
 ·obtain⟨a,ns,rfl,hS,hl,hu,k⟩:=h
  refine ⟨_,(iu (iU (i:=1) oh.nd rfl orl (jm (Rb (K:=K)) (by rfl) T.ae0 (by decide+kernel) (pav 0 iw)))
   (iB (nQ zO rfl (Le (K:=K) (by rfl) T.ae1 (pav 1 (ir (SX (Tr (K:=K)) (pvD 1) (Rj iz) ais) iw))) (mZ (K:=K) (n:=2) rfl (jk (iK (i:=2) oh.nd rfl orl) (jk (iK (i:=3) oh.nd rfl orl) mX)))
    (iB (jT (iY (mU) (pvD 2) (pvD 3) (jf _)) (iB (mC)) jo))))),?_⟩
  simp only[start_eq];walk_at "m";refine⟨ns,hS,hl,λp q hp ac ah=>?_⟩;have ad:q.Nodup:=ac.nodup_iff.mpr hu;have S1:=iH (o:=.lst (q.map V.int)) hp;have h1:(upd H p (.lst (q.map V.int))) p=some (.lst (q.map V.int)):=iC;generalize upd H p (.lst (q.map V.int))=H1 at S1 h1
  try dsimp only
  rw[ap_for];walk_at "i";refine⟨_,iI h1,λpc aa=>?_⟩;rw[show Zd (q.map V.int) (some 1) none=(q.drop 1).map V.int by rw[List.map_drop];exact Zt (q.map V.int) 1];have S2:=S1.trans (iH (o:=.lst ((q.drop 1).map V.int)) aa);have h2:(upd H1 pc (.lst ((q.drop 1).map V.int))) pc=some (.lst ((q.drop 1).map V.int)):=iC;have z:=iH (o:=.lst ((q.drop 1).map V.int)) aa _ _ h1;generalize upd H1 pc (.lst ((q.drop 1).map V.int))=H2 at S2 h2 z;refine⟨⟨_,iI z⟩,⟨_,iI h2⟩,?_⟩
  refine amc (K:=K) (a:=p) (b:=pc) (xs:=q.map V.int) (ys:=(q.drop 1).map V.int) (λi σ Hx=>(∃v2 v3,σ=[some (.ref a),some (.ref p),v2,v3])/\Same H2 Hx) (q.length - 1) (by rw[za];omega) (by rw[za,yD];omega) (.inr (by rw[za,yD];omega))
   ⟨⟨_,_,rfl⟩,same_refl _⟩ (λi σ Hx _ ⟨_,s⟩=>⟨s.seq (iI z),s.seq (iI h2)⟩) ?_ ?_
  ·rintro i x y σ H3 pt hx hy ⟨⟨v2,v3,rfl⟩,s3⟩ ae
   rw[zf]at hx hy;obtain⟨m1,ag,rfl⟩:=zzi.mp hx;obtain⟨m2,ab,rfl⟩:=zzi.mp hy;rw[List.getElem?_drop]at ab
   have af:m1≠m2:=by
    obtain⟨q1,e1⟩:=zp.mp ag;obtain⟨q2,e2⟩:=zp.mp ab;have:=yv.mp ad i (1+i) q1 q2 (by omega);rw[e1,e2]at this;exact this
   have S3:=s3.trans (iH (o:=.tup [V.int m1,V.int m2]) ae);have h3:(upd H3 pt (.tup [V.int m1,V.int m2])) pt=some (.tup [V.int m1,V.int m2]):=iC;generalize upd H3 pt (.tup [V.int m1,V.int m2])=H4 at S3 h3;walk_at "i";refine⟨_,jG h3,rfl,_,_,rfl,_,_,rfl,rfl,?_⟩;refine⟨rfl,?_⟩;rw[zc (λe=>af (by cases e;rfl))];exact S3
  ·rintro σ H3 ⟨⟨v2,v3,rfl⟩,s3⟩
   exact k _ (S2.trans s3)
inductive Jy(A:Adr)(vs:List V)(H:Hp)(Q:VK)(E:XK):Prop
 |mk (x:Addr) (e:Ent) (_:vs=[.ref x]) (_:IsE A H x e) (_:∀t,H t=none->Q (.ref t) (upd H t (.tup [.int e.day,.int e.num]))):Jy A vs H Q E
def Bk(T:Txt K mg A D):jK P w K mg base CX0 1 A.abm D.abm ["entry"] (Jy A):=by
 refine T.adu.F.okv Rh λ_ _ _ _ H vs Q E hr h=>?_
 ·obtain⟨x,e,rfl,⟨dx,z,hx,hn⟩,k⟩:=h
  refine⟨_,(iB (iR (mj (ir (fv K 0) (ir (fv K 0) iw))))),?_⟩;have q:=aaF T e;walk_at "a";exact rd hx q.c q.d (Tp e z) (rd hx q.c q.n (Be e z) ⟨sz,λt ht=>k t ht⟩)
noncomputable def alK:V->Int
 |.int i=>i
 |_=>0
noncomputable def kfE(H:Hp):V->List Int
 |.ref b=>match H b with
  |some (.ins _ _ fs)=>[alK ((fs.lookup (Str.ofString "day")).getD .non),alK ((fs.lookup (Str.ofString "number")).getD .non)]
  |_=>[]
 |_=>[]
def Ie{H:Hp}{b:Addr}{e:Ent}(h:IsE A H b e):kfE H (.ref b)=[e.day,e.num]:=by
 obtain⟨dx,z,q,_⟩:=h;unfold kfE;dsimp only;rw[q];dsimp only;rw[Tp,Be];rfl
noncomputable def BfE(d e:Ent):Prop:=d.day<e.day\/(d.day=e.day/\d.num<e.num)
def BfE.asym{d e:Ent}(h:BfE d e)(h':BfE e d):False:=by
 unfold BfE at h h';omega
def aiw{d e:Ent}(h:vQ [d.day,d.num] [e.day,e.num] false=true)(hn:d.num≠e.num):BfE d e:=by
 rw[vQ]at h;by_cases q:d.day=e.day
 ·rw[zg q,vQ,zc hn]at h
  exact .inr ⟨q,z8 h⟩
 ·rw[zc q]at h
  exact .inl (z8 h)
def akE{l k:List Ent}(h:l.Perm k)(h1:l.Pairwise BfE)(h2:k.Pairwise BfE):l=k:=List.Perm.eq_of_pairwise (λa b _ _ x y=>(x.asym y).elim) h1 h2 h
def Eh{α:Type}{f:α->V}:∀{zs ys:List V},zs.Perm ys->∀{rs:List α},ys=rs.map f->∃q:List α,zs=q.map f/\q.Perm rs:=by
 intro zs ys h
 induction h with
 |nil=>intro rs e;exact⟨[],rfl,by cases rs with|nil=>exact .nil|cons _ _=>cases e⟩
 |cons x _ ih=>
  intro rs e
  cases rs with
  |nil=>cases e
  |cons r rs=>
   rw[zi]at e;obtain⟨e1,z⟩:=yU e;obtain⟨q,a1,a2⟩:=ih z;exact⟨r::q,by rw[zi,<-a1,e1],a2.cons r⟩
 |swap x y l=>
  intro rs e
  cases rs with
  |nil=>cases e
  |cons r rs=>cases rs with
   |nil=>cases e
   |cons r2 rs=>
    rw[zi,zi]at e;obtain⟨e1,z⟩:=yU e;obtain⟨e3,e4⟩:=yU z;exact⟨r2::r::rs,by rw[zi,zi,e1,e3,e4],.swap _ _ _⟩
 |trans _ _ ih1 ih2=>
  intro rs e;obtain⟨r2,a1,a2⟩:=ih2 e;obtain⟨r3,b1,b2⟩:=ih1 a1;exact⟨r3,b1,b2.trans a2⟩
inductive Jr(A:Adr)(vs:List V)(H:Hp)(Q:VK)(E:XK):Prop
 |mk (q:Addr) (es:EL) (_:vs=[.ref q]) (_:H q=some (.lst (Dh es))) (_:Nh A H es) (_:es.length<64) (_:(es.map (·.2.num)).Nodup) (_:∀p es' H',Same H H'->H p=none->H' p=some (.lst (Dh es'))->es'.Perm es->(es'.map (·.2)).Pairwise BfE->Q (.ref p) H'):Jr A vs H Q E
def Rk(T:Txt K mg A D):jK P w K mg base CX0 4 A.abn D.abn ["entries"] (Jr A):=by
 refine T.adv.F.okv Ra λ_ _ _ _ H vs Q E hr h=>?_
 ·obtain⟨q,es,rfl,hq,hE,hl,hu,k⟩:=h
  refine ⟨_,(iu (jj (pcg (JD T) hr T.adt (KN T) (ir (jW (cap:=[none]) (N':=["entry"]) rfl (by walk_at "c") (jM (K:=K) (pv 0)) (λ_ _ _ _=>(iK (i:=0) nd1 rfl orl orr)) (λ_ _ _ _=>jN) (λ_ _ _ _=>(fv K 0))) iw)))
   (iB (iR (Iu (K:=K) (by rfl) (Lr (Bk (K:=K) T) (hr.mono (by decide)) (Eu T) (by rfl) T.ae0 (by decide+kernel) (by rfl) T.adu.m (pav 0 iw)))))),?_⟩
  simp only[start_eq];walk_at "m";refine⟨⟨_,iI hq⟩,ZF T hq hE (by omega) λD1 H1 ah s1 h1=>?_⟩;refine⟨D1,_,rfl,iI h1,by rw[za];exact hl,hu,λH2 s2=>?_⟩;have S2:=s1.trans s2;have aa:=hE.same S2;walk_at "i";refine⟨_,iI (S2 _ _ hq),by rw[vR];exact hl,kfE H2,λy hy=>?_,λp zs H3 s3 hn hz ac ad=>?_⟩
  ·obtain⟨o,ho,rfl⟩:=zj.mp hy
   rw[Ie (aa o ho)];refine⟨by simp,λH5 s5 R hR=>⟨o.1,o.2,rfl,(aa o ho).same s5,λt ht=>hR t _ (iH ht) ?_⟩⟩;rw[Ie (aa o ho)];exact iC
  ·obtain⟨os,rfl,ab⟩:=Eh (f:=λr:Addr×Ent=>V.ref r.1) ac rfl
   have ae:es.Pairwise λa b=>a.2.num≠b.2.num:=zT.mp hu
   have hou':os.Pairwise λa b=>a.2.num≠b.2.num:=by
    have:(os.map λr=>r.2.num).Nodup:=(ab.map λr=>r.2.num).nodup_iff.mpr hu;exact zT.mp this
   have af:=ad 2 (λy hy=>by
    obtain⟨r,hr,rfl⟩:=zj.mp hy;rw[Ie (aa r hr)];rfl) (by
    refine zT.mpr (zT.mpr (yN (fun{a b} ha hb ag z=>ag ?_) ae));rw[Ie (aa a ha),Ie (aa b hb)]at z;exact(yU (yU z).2).1)
   refine k p os H3 (S2.trans s3) (S2.free hn) hz ab ?_;refine zT.mpr (yN (fun{a b} ha hb h=>?_) ((zT.mp af).and hou'));have h1:=h.1;rw[Ie (aa a (ab.mem_iff.mp ha)),Ie (aa b (ab.mem_iff.mp hb))]at h1;exact aiw h1 h.2
structure jq where
 n:Int
 s:Int
 p:Int
 c:Int
noncomputable def jq.fs(d:jq):List (Str×V):=[("number",.int d.n),("since",.int d.s),("pieces",.int d.p),("cost",.int d.c)]
noncomputable def jq.vs(d:jq):List V:=[.int d.n,.int d.s,.int d.p,.int d.c]
noncomputable def mD(A:Adr)(H:Hp)(x:Addr)(d:jq):Prop:=∃dx,H x=some (.ins A.acY dx d.fs)
def mD.same{H H':Hp}{x:Addr}{d:jq}(h:mD A H x d)(s:Same H H'):mD A H' x d:=let⟨dx,e⟩:=h;⟨dx,s _ _ e⟩
def mD.but{H H':Hp}{D:Addr}{x:Addr}{d:jq}(h:mD A H x d)(q:x≠D)(s:But D H H'):mD A H' x d:=let⟨dx,e⟩:=h;⟨dx,s _ _ q e⟩
inductive qR(A:Adr)(vs:List V)(H:Hp)(Q:VK)(E:XK):Prop
 |mk (x:Addr) (d:jq) (B:Hp) (dx:Addr) (_:vs=.ref x::d.vs) (_:New B H x A.acY dx []) (_:∀H',New B H' x A.acY dx d.fs->Q .non H'):qR A vs H Q E
def jR(T:Txt K mg A D):jK P w K mg base CX0 1 A.abr D.abr ["self", "number", "since", "pieces", "cost"] (qR A):=by
 refine T.adz.ok Hu (by walk_at "v") (λ_ _ _ s H vs Q E z h=>?_)
 ·obtain⟨x,⟨n,s,p,c⟩,B,dx,rfl,q,k⟩:=h
  refine ⟨_,(iu (jr (K:=K) (pv 0) (pvD 1) rfl)
   (iu (jr (K:=K) (pv 0) (pvD 2) rfl)
   (iu (jr (K:=K) (pv 0) (pvD 3) rfl)
   (iB (jr (K:=K) (pv 0) (pvD 4) rfl))))),?_⟩
  simp only[jq.vs];walk_at "a";refine sw q.h T.agx T.agy (by decide) (?_);rw[xU _ _ (by decide+kernel)];have q:=q.put (gs:=[]++[(Str.ofString "number",V.int n)]) rfl;refine sw q.h T.agx T.agz (by simp) (?_);rw[lU (f:=Str.ofString "since") ["number"]];have q:=q.put (gs:=([]++[(Str.ofString "number",V.int n)])++[(Str.ofString "since",V.int s)]) rfl;refine sw q.h T.agx T.agA (by simp) (?_);rw[lU (f:=Str.ofString "pieces") ["number", "since"]];have q:=q.put (gs:=(([]++[(Str.ofString "number",V.int n)])++[(Str.ofString "since",V.int s)])++[(Str.ofString "pieces",V.int p)]) rfl;refine sw q.h T.agx T.agB (by simp) (?_);rw[lU (f:=Str.ofString "cost") ["number", "since", "pieces"]];exact k _ (q.put rfl)
def qe{R:Hp->Prop}{E:XK}{H:Hp}{x dx:Addr}(d:jq)(hx:H x=none)(q:H dx=none)(k:∀H',Same H H'->mD A H' x d->R H'):
  qR A (.ref x::d.vs) (upd (upd H dx (.own x)) x (.ins A.acY dx [])) (λv H2=>v=.non/\R H2) E:=
 ⟨x,d,H,dx,rfl,pY hx q,λH' z=>⟨rfl,k H' z.s ⟨dx,z.h⟩⟩⟩
abbrev RL:=List (Addr×jq)
noncomputable def jt(rs:RL):List V:=rs.map λr=>V.ref r.1
noncomputable def kE(A:Adr)(H:Hp)(rs:RL):Prop:=∀r∈rs,mD A H r.1 r.2
theorem kE.same{H H':Hp}{rs:RL}(h:kE A H rs)(s:Same H H'):kE A H' rs:=λr q=>(h r q).same s
structure Good(d:jq):Prop where
 n:0<=d.n/\d.n<=1000000
 s:0<=d.s/\d.s<=1000000
 p:1<=d.p/\d.p<=1000000000
 c:0<=d.c/\d.c<=1000000000000000000
def jQ{rs:RL}{i:Nat}{y:V}(h:(jt rs)[i]? =some y):∃r,rs[i]? =some r/\y=.ref r.1:=by
 unfold jt at h;rw[zf]at h
 cases e:rs[i]? with
 |none=>rw[e]at h;cases h
 |some r=>rw[e]at h;exact⟨r,rfl,(zw h).symm⟩
def iW(rs:RL):(jt rs).length=rs.length:=by unfold jt;rw[za]
def get_mem{rs:RL}{i:Nat}{r:Addr×jq}(h:rs[i]? =some r):r∈rs:=zn h
def RD(F:V->Hp->Addr×jq->Prop){acc:List V}{H:Hp}:∀{ds:List jq},acc.length=ds.length->(∀(i:Nat) v,acc[i]? =some v->∃b d,ds[i]? =some d/\v=.ref b/\F v H (b,d))->
  ∃rs:RL,acc=jt rs/\rs.map (·.2)=ds/\∀r∈rs,F (.ref r.1) H r:=by
 induction acc with
 |nil=>
  intro ds q _
  cases ds with
  |nil=>exact⟨[],rfl,rfl,λr h=>by cases h⟩
  |cons _ _=>simp at q
 |cons v acc ih=>
  intro ds q h
  cases ds with
  |nil=>simp at q
  |cons d ds=>
   obtain⟨b,d',e,rfl,hf⟩:=h 0 v rfl;cases e;obtain⟨rs,e1,e2,e3⟩:=ih (ds:=ds) (by simpa using q) λi v hv=>h (i+1) v hv;refine⟨(b,d)::rs,by rw[e1];rfl,by rw[zi,e2],λr z=>?_⟩;rcases zv.mp z with rfl|z
   ·exact hf
   ·exact e3 r z
noncomputable def YC(H:Hp)(Q:VK)(ns:List Int):Prop:=∀p H',Same H H'->H p=none->H' p=some (.lst (ns.map V.int))->Q (.ref p) H'
def SJ{q z:List Int}(h:q.Perm z):q.sum=z.sum:=by
 induction h with
 |nil=>rfl
 |cons x _ ih=>rw[zK,zK,ih]
 |swap x y l=>rw[zK,zK,zK,zK];omega
 |trans _ _ ih1 ih2=>rw[ih1,ih2]
noncomputable def pcs(ls:RL):Int:=(ls.map (·.2.p)).sum
structure Shp(ns:List Int)(ls:RL):Prop where
 u:(ls.map (·.2.n)).Nodup
 p:∀l∈ls,1<=l.2.p
 m:∀l∈ls,l.2.n∈ns
noncomputable def Vr(l:Addr×jq):Int×Int:=(l.2.n,l.2.p)
noncomputable def Sim(ls ms:RL):Prop:=ms.map Vr=ls.map Vr
def Sim.len{ls q:RL}(h:Sim ls q):q.length=ls.length:=by simpa using congrArg List.length h
def Sim.ns{ls q:RL}(h:Sim ls q):q.map (·.2.n)=ls.map (·.2.n):=by
 have:=congrArg (List.map Prod.fst) h
 rwa [zx,zx]at this
def Sim.ps{ls q:RL}(h:Sim ls q):q.map (·.2.p)=ls.map (·.2.p):=by
 have:=congrArg (List.map Prod.snd) h
 rwa [zx,zx]at this
theorem Sim.pcs{ls q:RL}(h:Sim ls q):pcs q=pcs ls:=by unfold My.pcs;rw[h.ps]
def Sim.shp{ns:List Int}{ls z:RL}(h:Sim ls z)(s:Shp ns ls):Shp ns z:=by
 refine⟨by rw[h.ns];exact s.u,λl hl=>?_,λl hl=>?_⟩
 ·have:l.2.p∈z.map (·.2.p):=zj.mpr ⟨l,hl,rfl⟩
  rw[h.ps]at this;obtain⟨q,hq,e⟩:=zj.mp this;exact e▸s.p q hq
 ·have:l.2.n∈z.map (·.2.n):=zj.mpr ⟨l,hl,rfl⟩
  rw[h.ns]at this;obtain⟨q,hq,e⟩:=zj.mp this;exact e▸s.m q hq
theorem Shp.nil{ns:List Int}:Shp ns []:=⟨.nil,λl h=>(zo h).elim,λl h=>(zo h).elim⟩
theorem Ml{α:Type} [DecidableEq α]:∀{l k:List α},l.Nodup->(∀x∈l,x∈k)->l.length<=k.length
 |[],_,_,_=>zJ _
 |x::l,k,h,s=>by
  have h':=zP.mp h;have z:x∈k:=s x (.head _);have:=Ml (l:=l) (k:=k.erase x) h'.2 λy q=>(List.mem_erase_of_ne (λe=>by subst e;exact h'.1 q)).mpr (s y (.tail _ q));rw[List.length_erase_of_mem z]at this;have hp:0<k.length:=List.length_pos_of_mem z;rw[zM];omega
def Shp.len{ns:List Int}{ls:RL}(s:Shp ns ls):ls.length<=ns.length:=by
 have:=Ml s.u λn hn=>by
  obtain⟨l,q,rfl⟩:=zj.mp hn;exact s.m l q
 rwa [za]at this
def Mt(l:Addr×jq)(ls:RL):pcs (l::ls)=l.2.p+pcs ls:=zK
def ajv(a b:RL):pcs (a++b)=pcs a+pcs b:=by unfold pcs;rw[zu,yH]
theorem BW:∀{ls:RL},(∀l∈ls,1<=l.2.p)->(ls.length:Int)<=pcs ls
 |[],_=>zzQ _
 |l::ls,h=>by
  have h1:=h l (.head _);have h2:=BW (ls:=ls) λq z=>h q (.tail _ z);rw[Mt,zM];omega
theorem Rn:∀{ls:RL}{l:Addr×jq},(∀l∈ls,1<=l.2.p)->l∈ls->l.2.p<=pcs ls
 |q::ls,l,h,hl=>by
  rw[Mt];have h2:=BW (ls:=ls) λq z=>h q (.tail _ z);rcases zv.mp hl with rfl|hl
  ·omega
  ·have:=Rn (ls:=ls) (λq z=>h q (.tail _ z)) hl
   have:=h q (.head _);omega
def Uo{a b:RL}(h:a.Perm b):pcs a=pcs b:=SJ (h.map (λl:Addr×jq=>l.2.p))
inductive Ls(vs:List V)(H:Hp)(Q:VK)(E:XK):Prop
 |mk (a p w:Int) (_:vs=[.int a,.int p,.int w]) (_:Ab a p) (_:Oi 0 w) (_:Q (.int (a*p/w)) H):Ls vs H Q E
def Fd(T:Txt K mg A D):jK P w K mg base CX0 1 A.abH D.abH ["amount", "part", "whole"] Ls:=by
 refine T.adO.F.okv Vl λ_ _ _ _ H vs Q E q h=>?_
 ·obtain⟨a,p,z,rfl,h1,h2,k⟩:=h
  refine⟨_,(iB (iR (jb oY (jb lN (pvD 0) (pvD 1)) (pvD 2)))),?_⟩;walk_at "a";exact⟨h1,h2,k⟩
inductive Ff(A:Adr)(vs:List V)(H:Hp)(Q:VK)(E:XK):Prop
 |mk (x:Addr) (d:jq) (p:Int) (_:vs=[.ref x,.int p]) (_:mD A H x d) (_:Ab d.c p) (_:Oi 0 d.p) (_:∀t y v H',Same H H'->H t=none->H' t=some (.tup [.ref y,v])->mD A H' y ⟨d.n,d.s,p,d.c*p/d.p⟩->(p=d.p->v=.non)->(p≠d.p->∃z,v=.ref z/\mD A H' z ⟨d.n,d.s,d.p - p,d.c - d.c*p/d.p⟩)->Q (.ref t) H'):Ff A vs H Q E
def Ou(T:Txt K mg A D):jK P w K mg base CX0 3 A.abN D.abN ["self", "pieces"] (Ff A):=by
 refine T.adU.ok wQ (by walk_at "v") (λ_ _ _ s H vs Q E hr h=>?_)
 ·obtain⟨x,⟨n,s,p,c⟩,p',rfl,⟨dx,hx⟩,m1,m2,k⟩:=h
  refine ⟨_,(iu (iU (i:=2) wQ.nd rfl orl (pcg (Fd T) hr T.adO (Iw T) (ir (fv K 0) (pav 1 (ir (fv K 0) iw)))))
   (iu (iU (i:=3) wQ.nd rfl orl (lK T.agZ (jR (K:=K) T) (hr.mono (by decide)) (by rfl) T.afm (jX T) .nil jC (ir (fv K 0) (ir (fv K 0) (pav 1 (pav 2 iw))))))
   (iu (jT (iY (mU) (pvD 1) (fv K 0) (jf _)) (iB (iR (mj (pav 3 (ir nj iw))))) jo)
   (iB (iR (mj (pav 3 (ir (lK T.agZ (jR (K:=K) T) (hr.mono (by decide)) (by rfl) T.afm (jX T) .nil jC (ir (fv K 0) (ir (fv K 0) (ir (jb pD (fv K 0) (pvD 1)) (ir (jb pD (fv K 0) (pvD 2)) iw))))) iw)))))))),?_⟩
  simp only[start_eq];walk_at "m";refine rd hx T.agx T.agB (by rfl) (rd hx T.agx T.agA (by rfl) ⟨c,p',p,rfl,m1,m2,?_⟩);walk_at "m";refine rd hx T.agx T.agy (by rfl) (rd hx T.agx T.agz (by rfl) (λy dy hy ab _=>?_));refine qe (A:=A) ⟨n,s,p',c*p'/p⟩ hy ab λH1 s1 hY=>?_;have q:=s1 _ _ hx;walk_at "m";refine rd q T.agx T.agA (by rfl) ⟨rfl,?_⟩;by_cases e:p'=p
  ·rw[zg (by simp[e])]
   refine⟨sz,λt ht=>k t y .non _ (s1.trans (iH ht)) (s1.free ht) iC (hY.same (iH ht)) (λ_=>rfl) λh=>(h e).elim⟩
  ·rw[zc (by simp[e])]
   refine rd q T.agx T.agy (by rfl) (rd q T.agx T.agz (by rfl) (rd q T.agx T.agA (by rfl) ⟨_,rfl,rd q T.agx T.agB (by rfl) ⟨_,rfl,λz dz hz aa _=>?_⟩⟩));refine qe (A:=A) ⟨n,s,p - p',c - c*p'/p⟩ hz aa λH2 s2 hZ=>⟨sz,λt ht=>?_⟩;exact k t y (.ref z) _ (s1.trans (s2.trans (iH ht))) ((s1.trans s2).free ht) iC (hY.same (s2.trans (iH ht))) (λh=>(e h).elim) λ_=>⟨z,rfl,hZ.same (iH ht)⟩
noncomputable def shares(a W:Int):Int->List Int->List Int
 |_,[]=>[]
 |t,w::r=>(a*(t+w)/W - a*t/W)::shares a W (t+w) r
theorem HX(a W:Int):∀(t:Int)(l:List Int)(x:Int),shares a W t (l++[x])=shares a W t l++[a*(t+l.sum+x)/W - a*(t+l.sum)/W]
 |t,[],x=>by simp[shares]
 |t,y::r,x=>by
  show _::shares a W (t+y) (r++[x])=_::shares a W (t+y) r++_;rw[HX a W (t+y) r x,zK,zzV t y r.sum];rfl
theorem xT(a W:Int):∀(t:Int)(l:List Int),(shares a W t l).length=l.length
 |_,[]=>rfl
 |t,y::r=>congrArg (·+1) (xT a W (t+y) r)
theorem LQ(a W:Int):∀(t:Int)(l:List Int),(shares a W t l).sum=a*(t+l.sum)/W - a*t/W
 |t,[]=>by simp[shares]
 |t,y::r=>by
  show((a*(t+y)/W - a*t/W)::shares a W (t+y) r).sum=_;rw[zK,LQ a W (t+y) r,zK,zzV t y r.sum];omega
theorem El:∀{l:List Int},(∀x∈l,0<=x)->0<=l.sum
 |[],_=>by simp
 |x::r,h=>by
  have h1:=h x zk;have h2:=El (l:=r) λy q=>h y (zt _ q);rw[zK];omega
def Ri{l:List Int}(h:∀x∈l,0<=x)(i:Nat):0<=(l.take i).sum/\(l.take i).sum<=l.sum:=by
 have h1:0<=(l.take i).sum:=El λx q=>h x (List.mem_of_mem_take q);have h2:0<=(l.drop i).sum:=El λx q=>h x (List.mem_of_mem_drop q);have z:l.sum=(l.take i).sum+(l.drop i).sum:=by rw[<-yH,yW]
 omega
inductive tL(K:Fg_)(vs:List V)(H:Hp)(Q:VK)(E:XK):Prop
 |mk (l:Addr) (ws:List Int) (_:vs=[.ref l]) (_:SqL K H l (ws.map V.int)) (_:(∀x∈ws,0<=x)) (_:0<ws.sum) (_:ws.length<=1000) (_:∀H',Same H H'->Q (.int ws.sum) H'):tL K vs H Q E
def Em(T:Txt K mg A D):jK P w K mg base CX0 1 A.abG D.abG ["weights"] (tL K):=by
 refine T.adN.F.okv tO λ_ _ _ _ H vs Q E hr h=>?_
 ·obtain⟨l,ws,rfl,hS,h0,hp,hl,k⟩:=h
  refine ⟨_,(iu (jT (nO (jm (Ot (K:=K) rfl) (by rfl) T.ae2 (by decide+kernel) (ir (jW (cap:=[none]) (N':=["weight"]) rfl (by walk_at "c") (jM (K:=K) (pv 0)) (λ_ _ _ _=>(iK (i:=0) nd1 rfl orl orr)) (λ_ _ _ _=>jN) (λ_ _ _ _=>(uP (Mx) (pvD 0) iz (jf _)))) iw))) (iB (mC)) jo)
   (iu (iU (i:=1) tO.nd rfl orl (jm (ql (K:=K) rfl) (by rfl) T.ae3 (by decide+kernel) (pav 0 iw)))
   (iu (jT (iY (mU) (pvD 1) iz (jf _)) (iB (mC)) jo)
   (iB (iR (pvD 1)))))),?_⟩
  walk_at "a";refine⟨⟨_,hS⟩,?_⟩;refine lq.list (xs:=ws.map V.int) (λσ=>∃v,σ=[v]) (λ_=>true) (λv=>match v with|.int z=> .bl (decide (z<0))|_=> .non) hS ⟨none,rfl⟩ (by rw[za,zq];omega) ?_ ?_
  ·rintro x hx σ H5 R1 R2 ⟨v,rfl⟩ sm k1 k2
   obtain⟨c,_,rfl⟩:=zj.mp hx;walk_at "a";exact k1 rfl _ _ ⟨_,rfl⟩ (same_refl _)
  ·intro Da H' hD sm e
   rw[JM,zx]at e;walk_at "i";refine⟨ws.map λz=>decide (z<0),iI (by rw[e,zx];rfl),?_⟩
   have q:(ws.map λz=>decide (z<0)).any id=false:=by
    rw[List.any_eq_false];intro b hb;obtain⟨z,hz,rfl⟩:=zj.mp hb;have:=h0 z hz;simp only[id,decide_eq_true_eq];omega
   rw[q];walk_at "a";refine⟨ws,sm.seq hS,?_⟩;rw[zc (by omega)];exact k H' sm
inductive Ui(K:Fg_)(vs:List V)(H:Hp)(Q:VK)(E:XK):Prop
 |mk (a:Int) (l:Addr) (ws:List Int) (_:vs=[.int a,.ref l]) (_:SqL K H l (ws.map V.int)) (_:(∀x∈ws,0<=x)) (_:0<ws.sum) (_:ws.length<=1000) (_:ws.sum<2^63) (_:YC H Q (shares a ws.sum 0 ws)):Ui K vs H Q E
def Ue(T:Txt K mg A D):jK P w K mg base CX0 2 A.abI D.abI ["amount", "weights"] (Ui K):=by
 refine T.adP.F.okv pZ λ_ _ _ _ H vs Q E hr h=>?_
 ·obtain⟨a,l,ws,rfl,hS,h0,hp,hl,hw,k⟩:=h
  refine ⟨_,(iu (iU (i:=2) pZ.nd rfl orl (pcg (Em T) hr T.adN (Gm T) (pav 1 iw)))
   (iu (iU (i:=3) pZ.nd rfl orl (kZ iw))
   (iu (iU (i:=4) pZ.nd rfl orl iz)
   (iu (iU (i:=5) pZ.nd rfl orl iz)
   (iu (nQ zO rfl (jM (K:=K) (pv 1)) (iK (i:=6) pZ.nd rfl orl)
    (iu (iU (i:=4) pZ.nd rfl orl (jb jD (pvD 4) (pvD 6)))
    (iu (iU (i:=7) pZ.nd rfl orl (pcg (Fd T) hr T.adO (Iw T) (pav 0 (pav 4 (pav 2 iw)))))
    (iu (jj (tZ (K:=K) zL zQ zR lY (pvD 3) (ir (jb pD (pvD 7) (pvD 5)) iw)))
    (iB (iU (i:=5) pZ.nd rfl orl (pvD 7)))))))
   (iB (iR (pvD 3)))))))),?_⟩
  walk_at "a";refine⟨l,ws,rfl,hS,h0,hp,hl,λH1 s1=>?_⟩;walk_at "a";refine⟨zJ _,λp aa=>⟨⟨_,(s1.trans (iH aa)).seq hS⟩,?_⟩⟩;have q:H p=none:=s1.free aa;have hd:Oi 0 ws.sum:=⟨hp,aaB (show ws.sum.natAbs<2^63 by omega) (by decide)⟩
  refine Cr (xs:=ws.map V.int) (λi σ H2=>(∃v6 v7,σ=[some (.int a),some (.ref l),some (.int ws.sum),some (.ref p),some (.int (ws.take i).sum),some (.int (a*(ws.take i).sum/ws.sum)),v6,v7])/\Same H H2/\H2 p=some (.lst ((shares a ws.sum 0 (ws.take i)).map V.int)))
   ⟨⟨none,none,by simp⟩,s1.upd q,by rw[iC];simp[shares]⟩ (λi σ H2 _ ⟨_,s2,_⟩=>s2.seq hS) ?_ ?_
  ·rintro i y σ H2 hi ⟨⟨v6,v7,rfl⟩,s2,h2⟩
   obtain⟨x,rfl,ab⟩:=En hi;have ac:i<ws.length:=(zp.mp ab).1;have ht:ws.take (i+1)=ws.take i++[x]:=by rw[zS,ab];rfl
   have z:(ws.take (i+1)).sum=(ws.take i).sum+x:=by rw[ht,yH];simp
   have hb:=Ri h0 (i+1);rw[z]at hb;walk_at "a";refine⟨a,(ws.take i).sum+x,ws.sum,rfl,rG (by omega) (by omega),hd,?_⟩;walk_at "a";refine⟨tyL (iI h2),_,h2,?_,by rw[z],by rw[z],s2.upd q,?_⟩
   ·rw[za,xT,z0]
    exact Wz (by omega)
   ·rw[iC,ht,HX,zu,zzG]
    rfl
  ·rintro σ H2 ⟨⟨v6,v7,rfl⟩,s2,h2⟩
   rw[za,zU]at h2;walk_at "a";exact k p H2 s2 q h2
def Dt{ls:RL}{f:Addr×jq->Int}{acc:List V}(hl:acc.length=ls.length)(h:∀(i:Nat) v,acc[i]? =some v->∃l,ls[i]? =some l/\v=.int (f l)):acc=(ls.map f).map V.int:=by
 refine zzv (by simp[hl]) λi h1 h2=>?_;obtain⟨l,q,z⟩:=h i acc[i] (by simp);rw[z];have h3:i<ls.length:=by omega
 have:ls[i]=l:=by
  rw[zh h3]at q;exact zw q
 simp[this]
inductive LR(A:Adr)(vs:List V)(H:Hp)(Q:VK)(E:XK):Prop
 |mk (q:Addr) (ls:RL) (_:vs=[.ref q]) (_:H q=some (.lst (jt ls))) (_:kE A H ls) (_:ls.length<=100) (_:∀H',Same H H'->Q (.int ((ls.map (·.2)).map jq.c).sum) H'):LR A vs H Q E
def Vw(T:Txt K mg A D):jK P w K mg base CX0 1 A.abL D.abL ["lots"] (LR A):=by
 refine T.adS.F.okv Vs λ_ _ _ _ H vs Q E hr h=>?_
 ·obtain⟨q,ls,rfl,hq,hL,hl,k⟩:=h
  refine⟨_,(iB (iR (jm (ql (K:=K) rfl) (by rfl) T.ae3 (by decide+kernel) (ir (jW (cap:=[none]) (N':=["lot"]) rfl (by walk_at "c") (jM (K:=K) (pv 0)) (λ_ _ _ _=>(iK (i:=0) nd1 rfl orl orr)) (λ_ _ _ _=>jN) (λ_ _ _ _=>(fv K 0))) iw)))),?_⟩;walk_at "a";refine⟨⟨_,iI hq⟩,?_⟩;refine lq.listE (K:=K) (λσ=>∃a,σ=[a]) (λi v _=>∃l,ls[i]? =some l/\v=.int l.2.c) (iI hq) ⟨_,rfl⟩ (by rw[iW,zq];omega) ?_ ?_
  ·rintro Da i x hx σ H5 R ⟨_,rfl⟩ sm hD _ kk
   obtain⟨l,aa,rfl⟩:=jQ hx;obtain⟨dx,ab⟩:=(hL l (get_mem aa)).same sm;walk_at "i";exact rd ab T.agx T.agB (by rfl) (kk _ _ H5 ⟨_,rfl⟩ (same_refl _) λH' _=>⟨l,aa,rfl⟩)
  ·intro Da H' acc hD sm hA z hF
   rw[Dt (f:=λl=>l.2.c) (by rw[z,iW]) hF]at hA;have ec:(ls.map (·.2)).map jq.c=ls.map (λl=>l.2.c):=by rw[zx];rfl
   rw[ec]at k;walk_at "a";exact⟨_,iI hA,k H' sm⟩
inductive FN(A:Adr)(vs:List V)(H:Hp)(Q:VK)(E:XK):Prop
 |mk (q:Addr) (ls:RL) (_:vs=[.ref q]) (_:H q=some (.lst (jt ls))) (_:kE A H ls) (_:ls.length<=100) (_:∀H',Same H H'->Q (.int ((ls.map (·.2)).map jq.p).sum) H'):FN A vs H Q E
def Pz(T:Txt K mg A D):jK P w K mg base CX0 1 A.acf D.acf ["lots"] (FN A):=by
 refine T.ael.F.okv Pg λ_ _ _ _ H vs Q E hr h=>?_
 ·obtain⟨q,ls,rfl,hq,hL,hl,k⟩:=h
  refine⟨_,(iB (iR (jm (ql (K:=K) rfl) (by rfl) T.ae3 (by decide+kernel) (ir (jW (cap:=[none]) (N':=["lot"]) rfl (by walk_at "c") (jM (K:=K) (pv 0)) (λ_ _ _ _=>(iK (i:=0) nd1 rfl orl orr)) (λ_ _ _ _=>jN) (λ_ _ _ _=>(fv K 0))) iw)))),?_⟩;walk_at "a";refine⟨⟨_,iI hq⟩,?_⟩;refine lq.listE (K:=K) (λσ=>∃a,σ=[a]) (λi v _=>∃l,ls[i]? =some l/\v=.int l.2.p) (iI hq) ⟨_,rfl⟩ (by rw[iW,zq];omega) ?_ ?_
  ·rintro Da i x hx σ H5 R ⟨_,rfl⟩ sm hD _ kk
   obtain⟨l,aa,rfl⟩:=jQ hx;obtain⟨dx,ab⟩:=(hL l (get_mem aa)).same sm;walk_at "i";exact rd ab T.agx T.agA (by rfl) (kk _ _ H5 ⟨_,rfl⟩ (same_refl _) λH' _=>⟨l,aa,rfl⟩)
  ·intro Da H' acc hD sm hA z hF
   rw[Dt (f:=λl=>l.2.p) (by rw[z,iW]) hF]at hA;have ec:(ls.map (·.2)).map jq.p=ls.map (λl=>l.2.p):=by rw[zx];rfl
   rw[ec]at k;walk_at "a";exact⟨_,iI hA,k H' sm⟩
theorem aaG{H:Hp}:∀{acc:List V}{ls:RL},acc.length=ls.length->(∀(i:Nat) v,acc[i]? =some v->∃b l d,ls[i]? =some l/\v=.ref b/\mD A H b d/\d.n=l.2.n/\d.p=l.2.p)->∃q:RL,acc=jt q/\kE A H q/\Sim ls q
 |[],ls,hl,_=>by
  cases ls with
  |nil=>exact⟨[],rfl,λr h=>(zo h).elim,rfl⟩
  |cons _ _=>simp at hl
 |v::acc,ls,hl,h=>by
  cases ls with
  |nil=>simp at hl
  |cons l ls=>
   obtain⟨b,l',d,e,rfl,hb,e1,e2⟩:=h 0 v rfl;cases e;obtain⟨q,g1,g2,g3⟩:=aaG (acc:=acc) (ls:=ls) (by simpa using hl) λi v hv=>h (i+1) v hv;refine⟨(b,d)::q,by rw[g1];rfl,λr z=>?_,?_⟩
   ·rcases zv.mp z with rfl|z
    ·exact hb
    ·exact g2 r z
   ·show Vr (b,d)::q.map Vr=Vr l::ls.map Vr
    rw[g3];unfold Vr;rw[e1,e2]
inductive QK(A:Adr)(vs:List V)(H:Hp)(Q:VK)(E:XK):Prop
 |mk (x q:Addr) (ls:RL) (_:vs=[.ref x,.ref q]) (_:H q=some (.lst (jt ls))) (_:kE A H ls) (_:ls.length<=100) (_:(∀l∈ls,1<=l.2.p)) (_:pcs ls<2^60) (_:∀p ms H',Same H H'->H p=none->H' p=some (.lst (jt ms))->kE A H' ms->Sim ls ms->Q (.ref p) H'):QK A vs H Q E
def qD(T:Txt K mg A D):jK P w K mg base CX0 1 A.abK D.abK ["self", "lots"] (QK A):=by
 refine T.adR.okv Ht λ_ _ _ _ H vs Q E hr h=>?_
 ·obtain⟨x,q,ls,rfl,hq,hL,hl,z,hs,k⟩:=h
  refine⟨_,(iB (iR (nu (xR (K:=K)) (by rfl) T.aeZ (by decide+kernel) (pav 1 iw)))),?_⟩;simp only[start_eq];walk_at "i";exact⟨_,.inl (iI hq),λp z=>k p ls _ (iH z) z iC (hL.same (iH z)) rfl⟩
def Gq(T:Txt K mg A D):jK P w K mg base CX0 3 A.abM D.abM ["self", "lots"] (QK A):=by
 refine T.adT.okv uX λ_ _ _ _ H vs Q E hr h=>?_
 ·obtain⟨x,q,ls,rfl,hq,hL,hl,hp,hs,k⟩:=h
  refine ⟨_,(iu (jT (iY (mU) (jm (mG (K:=K)) (by rfl) T.aeY (by decide+kernel) (pav 1 iw)) iz (jf _)) (iB (iR (kZ iw))) jo)
   (iu (iU (i:=2) uX.nd rfl orl (pcg (Ue T) hr T.adP (Xo T) (ir (pcg (Vw T) hr T.adS (Xr T) (pav 1 iw)) (ir (jW (cap:=[none]) (N':=["lot"]) rfl (by walk_at "c") (jM (K:=K) (pv 1)) (λ_ _ _ _=>(iK (i:=0) nd1 rfl orl orr)) (λ_ _ _ _=>jN) (λ_ _ _ _=>(fv K 0))) iw))))
   (iB (iR (jW (cap:=[none,none]) (N':=["lot", "cost"]) rfl (by walk_at "c") (Le (K:=K) (by rfl) T.ae1 (pav 1 (pav 2 iw))) (λ_ _ _ _=>(mZ (K:=K) (n:=2) rfl (jk (iK (i:=0) (show(["lot", "cost"]:List Str).Nodup from by decide+kernel) rfl orl orr) (jk (iK (i:=1) (show(["lot", "cost"]:List Str).Nodup from by decide+kernel) rfl orl orr) mX)))) (λ_ _ _ _=>jN) (λ_ _ _ _=>(lK T.agZ (jR (K:=K) T) (hr.mono (by decide)) (by rfl) T.afm (jX T) .nil jC (ir (fv K 0) (ir (fv K 0) (ir (fv K 0) (pav 1 iw))))))))))),?_⟩
  simp only[start_eq];walk_at "n";refine⟨_,.inl (iI hq),?_⟩;rw[iW];have lz:∀n:Nat,n<=1000->n<=sizeLine:=λn h=>by rw[zq];omega
  by_cases h0:ls=[]
  ·subst h0
   rw[zg (by simp)];exact⟨lz _ (by decide),λp hp=>k p [] _ (iH hp) hp iC (λr h=>(zo h).elim) rfl⟩
  ·have ar:0<ls.length:=yj.mpr h0
   rw[zc (by omega)];have ae:=BW hp;walk_at "n";refine⟨q,ls,rfl,hq,hL,hl,λH1 s1=>⟨⟨_,iI (s1 _ _ hq)⟩,?_⟩⟩;refine lq.listE (K:=K) (λσ=>∃a,σ=[a]) (λi v _=>∃l,ls[i]? =some l/\v=.int l.2.p) (iI (s1 _ _ hq)) ⟨_,rfl⟩ (lz _ (by rw[iW];omega)) ?_ ?_
   ·rintro Da i x hx σ H5 R ⟨_,rfl⟩ sm hD _ kk
    obtain⟨l,ab,rfl⟩:=jQ hx;obtain⟨dx,aa⟩:=(hL l (get_mem ab)).same (s1.trans sm);walk_at "i";exact rd aa T.agx T.agA (by rfl) (kk _ _ H5 ⟨_,rfl⟩ (same_refl _) λH' _=>⟨l,ab,rfl⟩)
   ·intro Da H2 acc hD sm hA ah ap
    rw[Dt (f:=λl=>l.2.p) (by rw[ah,iW]) ap]at hA;have S2:=s1.trans sm;refine⟨_,Da,_,rfl,iI hA,λy hy=>?_,by show 0<pcs ls;omega,by rw[za];omega,by show pcs ls<2^63;omega,λpc H3 s3 au ad=>?_⟩
    ·obtain⟨l,ab,rfl⟩:=zj.mp hy
     have:=hp l ab;omega
    have S3:=S2.trans s3
    try dsimp only
    rw[ap_ret];walk_at "i";refine⟨⟨_,iI (S3 _ _ hq)⟩,⟨_,iI ad⟩,?_⟩;obtain⟨cs,ag⟩:∃cs,cs=shares ((ls.map (·.2)).map jq.c).sum (ls.map λl=>l.2.p).sum 0 (ls.map λl=>l.2.p):=⟨_,rfl⟩;have aj:cs.length=ls.length:=by rw[ag,xT,za]
    rw[<-ag]at ad;refine lq.zipE (K:=K) (λσ=>∃a b,σ=[a,b]) (λi v H'=>∃b l d,ls[i]? =some l/\v=.ref b/\mD A H' b d/\d.n=l.2.n/\d.p=l.2.p) (iI (S3 _ _ hq)) (iI ad) (by rw[iW,za,aj]) ⟨_,_,rfl⟩ (lz _ (by rw[iW];omega)) ?_ ?_
    ·rintro Db i x y hx hy σ H5 p R ⟨_,_,rfl⟩ ak ai ⟨aiM,ao⟩ hp kk
     obtain⟨l,ab,rfl⟩:=jQ hx;obtain⟨c,rfl,hc⟩:=En hy;obtain⟨dx,aa⟩:=(hL l (get_mem ab)).same (S3.trans ak);have aa:=iH (o:=.tup [V.ref l.1,V.int c]) hp _ _ aa;have ae:(upd H5 p (.tup [V.ref l.1,V.int c])) p=some (.tup [V.ref l.1,V.int c]):=iC;have af:=iH (o:=.tup [V.ref l.1,V.int c]) hp _ _ ao;generalize upd H5 p (.tup [V.ref l.1,V.int c])=H6 at aa ae af kk;walk_at "i";refine⟨_,jG ae,rfl,_,_,rfl,_,_,rfl,rfl,?_⟩;refine rd aa T.agx T.agy (by rfl) (rd aa T.agx T.agz (by rfl) (rd aa T.agx T.agA (by rfl) (λz dz hz al _=>?_)));exact qe (A:=A) ⟨l.2.n,l.2.s,l.2.p,c⟩ hz al λH7 s7 hZ=>kk (.ref z) _ H7 ⟨_,_,rfl⟩ s7 λH' hb=>⟨z,l,_,ab,rfl,hZ.but (λe=>by rw[e,af]at hz;cases hz) hb,rfl,rfl⟩
    ·intro Db H4 as ai an am ac aq
     rw[iW]at ac;obtain⟨ms,q1,q2,q3⟩:=aaG ac aq;exact k Db ms H4 (S3.trans an) (S3.free ai) (q1▸am) q2 q3
inductive vq(A:Adr)(vs:List V)(H:Hp)(Q:VK)(E:XK):Prop
 |mk (x y:Addr) (d e:jq) (_:vs=[.ref x,.ref y]) (_:mD A H x d) (_:mD A H y e) (_:Ab d.c e.p) (_:Ab e.c d.p) (_:Q (.bl (decide (d.c*e.p>e.c*d.p))) H):vq A vs H Q E
def GK(T:Txt K mg A D):jK P w K mg base CX0 1 A.abS D.abS ["self", "other"] (vq A):=by
 refine T.adZ.ok Gn (by walk_at "v") (λ_ _ _ s H vs Q E hr h=>?_)
 ·obtain⟨x,y,⟨n,s,p,c⟩,⟨n',s',p',c'⟩,rfl,⟨dx,z⟩,⟨dy,q⟩,m1,m2,k⟩:=h
  refine⟨_,(iB (iR (uP (Ku) (jb lN (fv K 0) (fv K 1)) (jb lN (fv K 1) (fv K 0)) (jf _)))),?_⟩;walk_at "a";refine rd z T.agx T.agB (by rfl) (?_);refine rd q T.agx T.agA (by rfl) (?_);exact⟨_,rfl,_,rfl,m1,rd q T.agx T.agB (by rfl) (rd z T.agx T.agA (by rfl) ⟨_,rfl,_,rfl,m2,k⟩)⟩
abbrev PL:=List (Addr×Int×Int)
noncomputable def Kw(ps:PL):List V:=ps.map λr=>V.ref r.1
noncomputable def akX(H:Hp)(ps:PL):Prop:=∀r∈ps,H r.1=some (.tup [.int r.2.1,.int r.2.2])
def Xq{ps:PL}{i:Nat}{y:V}(h:(Kw ps)[i]? =some y):∃r,ps[i]? =some r/\y=.ref r.1:=by
 unfold Kw at h;rw[zf]at h
 cases e:ps[i]? with
 |none=>rw[e]at h;cases h
 |some r=>rw[e]at h;exact⟨r,rfl,(zw h).symm⟩
def QD(ps:PL):(Kw ps).length=ps.length:=by unfold Kw;rw[za]
noncomputable def KZ:List jq->Int->List (Int×Int)
 |[],_=>[]
 |d::ds,w=>if w<=0 then[]else(d.n,min d.p w)::KZ ds (w - min d.p w)
def aaj{ds:List jq}{w:Int}(h:w<=0):KZ ds w=[]:=by
 cases ds with
 |nil=>rfl
 |cons d ds=>rw[KZ,zg h]
inductive uZ(A:Adr)(vs:List V)(H:Hp)(Q:VK)(E:XK):Prop
 |mk (q:Addr) (ls:RL) (w:Int) (_:vs=[.ref q,.int w]) (_:H q=some (.lst (jt ls))) (_:kE A H ls) (_:ls.length<=100) (_:∀pk ps H',Same H H'->H pk=none->H' pk=some (.lst (Kw ps))->akX H' ps->ps.map (·.2)=KZ (ls.map (·.2)) w->Q (.ref pk) H'):uZ A vs H Q E
def pJ(T:Txt K mg A D):jK P w K mg base CX0 1 A.abP D.abP ["lots", "pieces"] (uZ A):=by
 refine T.adW.F.okv lw λ_ _ _ _ H vs Q E hr h=>?_
 ·obtain⟨q,ls,w,rfl,hq,hL,hl,k⟩:=h
  refine ⟨_,(iu (iU (i:=2) lw.nd rfl orl (kZ iw))
   (iu (iU (i:=3) lw.nd rfl orl (pvD 1))
   (iu (nQ zO rfl (jM (K:=K) (pv 0)) (iK (i:=4) lw.nd rfl orl)
    (iu (jT (iY (MN) (pvD 3) iz (jf _)) (iB (aag)) jo)
    (iu (iU (i:=5) lw.nd rfl orl (jm (JV rfl) (by rfl) T.ae5 (by decide+kernel) (ir (fv K 4) (pav 3 iw))))
    (iu (jj (tZ (K:=K) zL zQ zR lY (pvD 2) (ir (mj (ir (fv K 4) (pav 5 iw))) iw)))
    (iB (iU (i:=3) lw.nd rfl orl (jb pD (pvD 3) (pvD 5))))))))
   (iB (iR (pvD 2)))))),?_⟩
  simp only[start_eq];walk_at "m";refine⟨sz,λpk aa=>?_⟩;have S1:=iH (o:=.lst []) aa;have h1:(upd H pk (.lst [])) pk=some (.lst []):=iC;generalize upd H pk (.lst [])=H1 at S1 h1;walk_at "m";rw[ap_seq,ap_for];walk_at "i";refine⟨⟨_,iI (S1 _ _ hq)⟩,?_⟩
  refine Bw.listN (K:=K) (a:=q) (xs:=jt ls) (λi σ Hx=>∃(ps:PL)(wx:Int)(v4 v5:Option V),σ=[some (.ref q),some (.int w),some (.ref pk),some (.int wx),v4,v5]/\Same H Hx/\Hx pk=some (.lst (Kw ps))/\akX Hx ps/\ps.length=i/\ps.map (·.2)++KZ ((ls.map (·.2)).drop i) wx=KZ (ls.map (·.2)) w)
   ⟨[],w,_,_,rfl,S1,h1,λr h=>(zo h).elim,rfl,rfl⟩ (λi σ Hx _ ⟨_,_,_,_,_,s,_⟩=>iI (s _ _ hq)) ?_ ?_
  ·rintro i y σ Hx hy ⟨ps,wx,v4,v5,rfl,Sx,z,hP,ae,he⟩ N hN
   obtain⟨l,ac,rfl⟩:=jQ hy;obtain⟨dy,ad⟩:=(hL l (get_mem ac)).same Sx;have af:i<ls.length:=(zp.mp ac).1
   have hd:(ls.map (·.2)).drop i=l.2::(ls.map (·.2)).drop (i+1):=by
    rw[zzN (by simpa using af)];congr 1;rw[yF,(zp.mp ac).2]
   walk_at "i";walk_at "m";by_cases hw:wx<=0
   ·rw[zg hw]
    refine k pk ps Hx Sx aa z hP ?_;rw[aaj hw,yn]at he;exact he
   ·rw[zc hw]
    walk_at "m";refine rd ad T.agx T.agA (by rfl) (?_);refine⟨_,_,rfl,?_⟩;walk_at "m";refine⟨.inl ⟨rfl,_,iI z⟩,rd ad T.agx T.agy (by rfl) ⟨sz,λt ht=>⟨_,iH ht _ _ z,by rw[QD,zq];omega,?_⟩⟩⟩;have em:(if wx<l.2.p then wx else l.2.p)=min l.2.p wx:=by split<;>omega
    rw[em];have ab:=iH (o:=.tup [V.int l.2.n,V.int (min l.2.p wx)]) ht;have ag:pk≠t:=jE z ht;refine hN _ _ ⟨ps++[(t,l.2.n,min l.2.p wx)],_,_,_,rfl,(Sx.trans ab).upd aa,?_,λr hr=>?_,by rw[zB,ae];rfl,?_⟩
    ·rw[iC];unfold Kw;rw[zu];rfl
    ·rcases zI.mp hr with hr|hr
     ·have e1:=hP r hr
      exact(iQ λe=>by rw[e,z]at e1;cases e1).trans (ab _ _ e1)
     ·obtain rfl:=zy.mp hr
      exact(iQ ag.symm).trans iC
    ·rw[hd,KZ,zc hw]at he
     rw[zu,zzk,<-he];rfl
  ·rintro σ Hx ⟨ps,wx,v4,v5,rfl,Sx,z,hP,ae,he⟩
   walk_at "a";refine k pk ps Hx Sx aa z hP ?_;rw[zzm (by rw[za,iW];exact zm _),KZ,yn]at he;exact he
structure PkS(ls:RL)(ks:List (Int×Int))(w:Int):Prop where
 u:(ks.map (·.1)).Nodup
 h:∀k∈ks,∃l∈ls,l.2.n=k.1/\1<=k.2/\k.2<=l.2.p
 s:(ks.map (·.2)).sum=w
def PkS.perm{ls q:RL}{ks:List (Int×Int)}{w:Int}(h:PkS ls ks w)(p:ls.Perm q):PkS q ks w:=⟨h.u,λk z=>let⟨l,a,b⟩:=h.h k z;⟨l,p.mem_iff.mp a,b⟩,h.s⟩
theorem xP:∀{ls:RL}{w:Int},(ls.map (·.2.n)).Nodup->(∀l∈ls,1<=l.2.p)->0<=w->w<=pcs ls->PkS ls (KZ (ls.map (·.2)) w) w
 |[],w,_,_,h0,h1=>by
  have:w=0:=by have:pcs []=0:=rfl;omega
  subst this;exact⟨.nil,λk h=>(zo h).elim,rfl⟩
 |l::ls,w,hu,hp,h0,h1=>by
  rw[zi,KZ];split
  ·have:w=0:=by omega
   subst this;exact⟨.nil,λk h=>(zo h).elim,rfl⟩
  ·rename_i hw
   have hl:=hp l (.head _);rw[Mt]at h1;have hu':=zP.mp hu;have aa:=BW (ls:=ls) λq hq=>hp q (.tail _ hq);have ih:=xP (ls:=ls) (w:=w - min l.2.p w) hu'.2 (λq hq=>hp q (.tail _ hq)) (by omega) (by omega);refine⟨zP.mpr ⟨λz=>?_,ih.u⟩,λk hk=>?_,?_⟩
   ·obtain⟨k,hk,e⟩:=zj.mp z
    obtain⟨q,hq,e2,_⟩:=ih.h k hk;exact hu'.1 (zj.mpr ⟨q,hq,e2.trans e⟩)
   ·rcases zv.mp hk with rfl|hk
    ·exact⟨l,.head _,rfl,by show 1<=min l.2.p w;omega,by show min l.2.p w<=_;omega⟩
    ·obtain⟨q,hq,r⟩:=ih.h k hk
     exact⟨q,.tail _ hq,r⟩
   ·rw[zi,zK,ih.s]
    show min l.2.p w+_=w;omega
inductive vd(A:Adr)(vs:List V)(H:Hp)(Q:VK)(E:XK):Prop
 |mk (q:Addr) (ls:RL) (_:vs=[.ref q]) (_:H q=some (.lst (jt ls))) (_:kE A H ls) (_:ls.length<=100) (_:(∀l∈ls,1<=l.2.p/\l.2.p<2^60)) (_:∀p ms H',Same H H'->H p=none->H' p=some (.lst (jt ms))->kE A H' ms->ms.Perm ls->Q (.ref p) H'):vd A vs H Q E
def GD(T:Txt K mg A D):jK P w K mg base CX0 2 A.abT D.abT ["lots"] (vd A):=by
 refine T.ad0.F.okv nA λ_ _ _ _ H vs Q E hr h=>?_
 ·obtain⟨q,ls,rfl,hq,hL,hl,hp,k⟩:=h
  refine ⟨_,(iu (iU (i:=1) nA.nd rfl orl (kZ iw))
   (iu (nQ zO rfl (jM (K:=K) (pv 0)) (iK (i:=2) nA.nd rfl orr)
    (iu (oO (i:=3) nA.nd rfl rfl (cap:=[none,none,some 2]) (N':=["place", "other", "lot"]) rfl (by walk_at "c") (ajl (K:=K) (by rfl) T.ae7 (pav 1 iw)) (λ_ _ _ _=>(mZ (K:=K) (n:=2) rfl (jk (iK (i:=0) (show(["place", "other", "lot"]:List Str).Nodup from by decide+kernel) rfl orl orr) (jk (iK (i:=1) (show(["place", "other", "lot"]:List Str).Nodup from by decide+kernel) rfl orl orr) mX)))) (λ_ _ _ _=>(HW (nO (jx (pv 2) (mc T.agx T.ahj (GK T) hr (Ji T) .nil) jC (pav 1 iw))))) (λ_ _ _ _=>(pvD 0)))
    (iB (jj (tZ (K:=K) zL PySem.F.slot_list_insert PySem.F.type_list_insert Xx (pvD 1) (ir (aah (K:=K) (by rfl) (aiB rfl (by rfl) T.ae5 (pav 3 iw) (jm (mG (K:=K)) (by rfl) T.aeY (by decide+kernel) (pav 1 iw)))) (pav 2 iw)))))))
   (iB (iR (pvD 1))))),?_⟩
  simp only[start_eq];walk_at "n";refine⟨sz,λpt ad=>?_⟩;have S1:=iH (o:=.lst []) ad;have h1:(upd H pt (.lst [])) pt=some (.lst []):=iC;generalize upd H pt (.lst [])=H1 at S1 h1
  try dsimp only
  rw[ap_seq,ap_for];walk_at "i";refine⟨⟨_,iI (S1 _ _ hq)⟩,?_⟩
  refine Bw.listN (K:=K) (a:=q) (xs:=jt ls) (λi σ Hx=>∃(ts:RL)(v2 v3:Option V),σ=[some (.ref q),some (.ref pt),v2,v3]/\Same H Hx/\Hx pt=some (.lst (jt ts))/\ts.Perm (ls.take i))
   ⟨[],_,_,rfl,S1,h1,.refl _⟩ (λi σ Hx _ ⟨_,_,_,_,s,_⟩=>iI (s _ _ hq)) ?_ ?_
  ·rintro i y σ Hx hi ⟨ts,v2,v3,rfl,Sx,hx,aa⟩ N hN
   obtain⟨l,ac,rfl⟩:=jQ hi;obtain⟨dy,ah⟩:=(hL l (get_mem ac)).same Sx;have ao:i<ls.length:=(zp.mp ac).1;have aq:ts.length<=100:=by rw[aa.length_eq,z0];omega
   have al:∀m∈ts,m∈ls:=λm hm=>List.mem_of_mem_take (aa.mem_iff.mp hm);walk_at "n";refine⟨⟨_,iI hx⟩,?_⟩;refine lq.enumI (K:=K) (λσ=>∃a b,σ=[a,b,some (.ref l.1)]) (λj=>((ts.map (·.2))[j]?).any λe=>decide (l.2.c*e.p>e.c*l.2.p)) (iI hx) ⟨_,_,rfl⟩ (by rw[iW,zq];omega) ?_ ?_
   ·rintro j x an σ H5 qt R1 R2 ⟨_,_,rfl⟩ s5 ak k1 k2
    obtain⟨m,hm,rfl⟩:=jQ an;have ag:=al m (get_mem hm);have p1:=hp l (get_mem ac);have p2:=hp m ag;walk_at "i";refine⟨_,jG ak,rfl,_,_,rfl,_,_,rfl,rfl,md (s5 _ _ ah) zk (by rfl) ⟨l.1,m.1,l.2,m.2,rfl,⟨dy,s5 _ _ ah⟩,(hL m ag).same (Sx.trans s5),rG (by omega) (by omega),rG (by omega) (by omega),_,rfl,?_⟩⟩;have ai:(((ts.map (·.2))[j]?).any λe=>decide (l.2.c*e.p>e.c*l.2.p))=decide (l.2.c*m.2.p>m.2.c*l.2.p):=by rw[zf,hm];rfl
    by_cases c:l.2.c*m.2.p>m.2.c*l.2.p
    ·rw[zg (zD c)]
     exact k1 (ai.trans (zD c)) _ H5 ⟨_,_,rfl⟩ (same_refl _)
    ·rw[zc (λz=>c (z8 z))]
     exact k2 (ai.trans (zF c)) _ H5 ⟨_,_,rfl⟩ (same_refl _)
   ·intro Dc H2 hD s2 af
    rw[iW]at af;obtain⟨js,ae⟩:∃js,js=(List.range ts.length).filter λj=>((ts.map (·.2))[j]?).any λe=>decide (l.2.c*e.p>e.c*l.2.p):=⟨_,rfl⟩;have am:∀j∈js,j<ts.length:=λj hj=>yu.mp (yB.mp (ae▸hj)).1;have aj:js.Pairwise (·<·):=ae▸List.pairwise_lt_range.filter _;rw[<-ae]at af;have ab:=s2 _ _ hx
    (try dsimp only)
    walk_at "i";refine⟨.inl ⟨rfl,_,iI ab⟩,_,.inl (iI ab),js.map λi:Nat=>(i:Int),iI (by rw[af,zx];rfl),zT.mpr (aj.imp λh=>by omega),?_⟩;rw[iW]
    obtain ⟨n0,e0,ap⟩:∃n0:Nat,(js.map λi:Nat=>(i:Int)).headD (ts.length:Int)=n0/\n0<=ts.length:=by
     cases js with
     |nil=>exact⟨ts.length,rfl,zm _⟩
     |cons j js=>exact⟨j,rfl,zz3 (am j (.head _))⟩
    rw[e0];refine⟨pt,jt ts,(n0:Int),.ref l.1,rfl,rfl,ab,by omega,by rw[iW];omega,by omega,by rw[iW,zq];omega,hN _ _ ⟨ts.take n0++l::ts.drop n0,_,_,rfl,(Sx.trans s2).upd ad,?_,?_⟩⟩
    ·rw[iC,zzP]
     unfold jt;rw[zu,zi,List.map_take,List.map_drop]
    ·rw[zS,ac]
     refine List.Perm.trans ?_ (aa.append_right _);refine List.perm_middle.trans ?_;rw[yW];exact(List.perm_append_singleton _ _).symm
  ·rintro σ Hx ⟨ts,v2,v3,rfl,Sx,hx,aa⟩
   walk_at "a";rw[iW,zU]at aa;exact k pt ts Hx Sx ad hx (λr hr=>(hL r (aa.mem_iff.mp hr)).same Sx) aa
inductive Cz(A:Adr)(vs:List V)(H:Hp)(Q:VK)(E:XK):Prop
 |mk (x q:Addr) (ls:RL) (w:Int) (_:vs=[.ref x,.ref q,.int w]) (_:H q=some (.lst (jt ls))) (_:kE A H ls) (_:ls.length<=100) (_:(ls.map (·.2.n)).Nodup) (_:(∀l∈ls,1<=l.2.p/\l.2.p<2^60)) (_:0<=w) (_:w<=pcs ls) (_:∀pk ps H',Same H H'->H pk=none->H' pk=some (.lst (Kw ps))->akX H' ps->PkS ls (ps.map (·.2)) w->Q (.ref pk) H'):Cz A vs H Q E
def wz(T:Txt K mg A D):jK P w K mg base CX0 2 A.abQ D.abQ ["self", "lots", "pieces"] (Cz A):=by
 refine T.adX.okv JN λ_ _ _ _ H vs Q E hr h=>?_
 ·obtain⟨x,q,ls,w,rfl,hq,hL,z,hu,hp,h0,h1,k⟩:=h
  refine⟨_,(iB (iR (pcg (pJ T) hr T.adW (qT T) (pav 1 (pav 2 iw))))),?_⟩;simp only[start_eq];walk_at "i";exact⟨q,ls,w,rfl,hq,hL,z,λpk ps H' s hn h hP e=>k pk ps H' s hn h hP (e▸xP hu (λl z=>(hp l z).1) h0 h1)⟩
def Jf(T:Txt K mg A D):jK P w K mg base CX0 2 A.abR D.abR ["self", "lots", "pieces"] (Cz A):=by
 refine T.adY.okv JT λ_ _ _ _ H vs Q E hr h=>?_
 ·obtain⟨x,q,ls,w,rfl,hq,hL,hl,hu,hp,h0,h1,k⟩:=h
  refine⟨_,(iB (iR (pcg (pJ T) hr T.adW (qT T) (ir (RT (K:=K) (by rfl) (Vd rfl (by rfl) T.aeZ (by rfl) T.ae6 (pav 1 iw))) (pav 2 iw))))),?_⟩;simp only[start_eq];walk_at "i";refine⟨_,iI hq,λl aa=>?_⟩;have z:=List.reverse_perm ls;have s1:=iH (o:=.lst (jt ls).reverse) aa;refine⟨l,ls.reverse,w,rfl,by rw[iC];unfold jt;rw[List.map_reverse],λr hr=>(hL r (z.mem_iff.mp hr)).same s1,by rw[z.length_eq];exact hl,λpk ps H' s hn h hP e=>k pk ps H' (s1.trans s) (s1.free hn) h hP (e▸(xP ((z.map (λl:Addr×jq=>l.2.n)).nodup_iff.mpr hu) (λl hl=>(hp l (z.mem_iff.mp hl)).1) h0 (by rw[Uo z];exact h1)).perm z)⟩
def Gw(T:Txt K mg A D):jK P w K mg base CX0 3 A.abU D.abU ["self", "lots", "pieces"] (Cz A):=by
 refine T.ad1.okv GQ λ_ _ _ _ H vs Q E hr h=>?_
 ·obtain⟨x,q,ls,w,rfl,hq,hL,hl,hu,hp,h0,h1,k⟩:=h
  refine⟨_,(iB (iR (pcg (pJ T) hr T.adW (qT T) (ir (pcg (GD T) hr T.ad0 (IV T) (pav 1 iw)) (pav 2 iw))))),?_⟩;simp only[start_eq];walk_at "i";refine⟨q,ls,rfl,hq,hL,hl,hp,λp ms H1 s1 ac aa ab z=>?_⟩;refine⟨p,ms,w,rfl,aa,ab,by rw[z.length_eq];exact hl,λpk ps H' s hn h hP e=>k pk ps H' (s1.trans s) (s1.free hn) h hP (e▸(xP ((z.map (λl:Addr×jq=>l.2.n)).nodup_iff.mpr hu) (λl hl=>(hp l (z.mem_iff.mp hl)).1) h0 (by rw[Uo z];exact h1)).perm z)⟩
abbrev Pk:=List (Int×Int)
noncomputable def nY(ks:Pk)(d:jq):jq:=match ks.lookup d.n with
 |some w=>⟨d.n,d.s,d.p - w,d.c - d.c*w/d.p⟩
 |none=>d
noncomputable def Ds(ds:List jq)(k:Int×Int):jq:=match ds.find? (λd=>d.n==k.1)with
 |some d=>⟨d.n,d.s,k.2,d.c*k.2/d.p⟩
 |none=>⟨0,0,0,0⟩
noncomputable def Nv(ks:Pk)(ds:List jq):List jq:=(ds.map (nY ks)).filter λd=>decide (0<d.p)
structure QW(ds:List jq):Prop where
 u:(ds.map jq.n).Nodup
 g:∀d∈ds,1<=d.p/\d.p<=100000000000
 l:ds.length<=60
structure ajz(ds:List jq)(ks:Pk):Prop where
 u:(ks.map (·.1)).Nodup
 h:∀k∈ks,∃d∈ds,d.n=k.1/\1<=k.2/\k.2<=d.p
noncomputable def kz(ds:List jq)(vs:List V):List (Key×V):=List.zipWith (λd v=>((Sum.inl d.n:Key),v)) ds vs
theorem Wk:∀{ds:List jq}{vs:List V}{j:Nat}{d:jq}{v:V},(ds.map jq.n).Nodup->ds[j]? =some d->vs[j]? =some v->pF (kz ds vs) (Sum.inl d.n)=some v
 |[],_,_,_,_,_,h,_=>by simp at h
 |_::_,[],_,_,_,_,_,h=>by simp at h
 |d0::ds,v0::vs,0,d,v,_,h1,h2=>by
  cases h1;cases h2;exact lH rfl
 |d0::ds,v0::vs,j+1,d,v,hu,h1,h2=>by
  rw[zi,zP]at hu;have h1':ds[j]? =some d:=h1
  have q:¬((Sum.inl d0.n:Key)=Sum.inl d.n):=λe=>hu.1 (by
   have e':d0.n=d.n:=zzO e;rw[e'];exact zj.mpr ⟨d,zn h1',rfl⟩)
  show pF ((Sum.inl d0.n,v0)::kz ds vs) _=_;rw[lC q];exact Wk hu.2 h1' h2
theorem aaK:∀{ds:List jq}{vs:List V}{j:Nat}{d:jq}{v':V},(ds.map jq.n).Nodup->ds[j]? =some d->(kz ds vs).map (λq=>if q.1=(Sum.inl d.n:Key)then(q.1,v')else q)=kz ds (vs.set j v')
 |[],_,_,_,_,_,h=>by simp at h
 |d0::ds,[],j,d,v',_,_=>by simp[kz]
 |d0::ds,v0::vs,0,d,v',hu,h1=>by
  cases h1;rw[zi,zP]at hu;show(if(Sum.inl d0.n:Key)=Sum.inl d0.n then((Sum.inl d0.n:Key),v')else _)::(kz ds vs).map _=(Sum.inl d0.n,v')::kz ds vs;rw[zg rfl];congr 1;refine(yd λq aa=>?_).trans (List.map_id _);rw[zc]
  ·rfl
  ·intro e
   obtain⟨i,hi,e2⟩:=zZ aa;have hd:i<ds.length:=by simp[kz]at hi;omega
   have:q.1=Sum.inl ds[i].n:=by rw[<-e2];simp[kz]
   rw[this]at e;exact hu.1 (by rw[<-zzO e];exact zj.mpr ⟨ds[i],yE hd,rfl⟩)
 |d0::ds,v0::vs,j+1,d,v',hu,h1=>by
  rw[zi,zP]at hu;have h1':ds[j]? =some d:=h1
  have z:¬((Sum.inl d0.n:Key)=Sum.inl d.n):=λe=>hu.1 (by
   have e':d0.n=d.n:=zzO e;rw[e'];exact zj.mpr ⟨d,zn h1',rfl⟩)
  show(if(Sum.inl d0.n:Key)=Sum.inl d.n then _ else((Sum.inl d0.n:Key),v0))::(kz ds vs).map _=(Sum.inl d0.n,v0)::kz ds (vs.set j v');rw[zc z,aaK hu.2 h1']
def akU{ds:List jq}{vs:List V}{j:Nat}{d:jq}{v z:V}(q:(ds.map jq.n).Nodup)(h1:ds[j]? =some d)(h2:vs[j]? =some v):putK (kz ds vs) (Sum.inl d.n) z=kz ds (vs.set j z):=by
 unfold putK;rw[zg (by rw[ph,Wk q h1 h2];rfl)];exact aaK q h1
theorem XM:∀{ds:List jq}{vs:List V}{n:Int},n∉ds.map jq.n->pF (kz ds vs) (Sum.inl n)=none
 |[],_,_,_=>rfl
 |_::_,[],_,_=>rfl
 |d::ds,v::vs,n,h=>by
  rw[zi,zv,not_or]at h;show pF ((Sum.inl d.n,v)::kz ds vs) _=_;rw[lC (λe=>h.1 (zzO e).symm)];exact XM h.2
def akn{ds:List jq}{vs:List V}{d:jq}{v:V}(q:vs.length=ds.length)(h:d.n∉ds.map jq.n):putK (kz ds vs) (Sum.inl d.n) v=kz (ds++[d]) (vs++[v]):=by
 unfold putK;rw[zc (by rw[ph,XM h];simp)];unfold kz;rw[List.zipWith_append q.symm];rfl
theorem XS:∀{ds:List jq}{vs:List V},vs.length=ds.length->(kz ds vs).map (·.2)=vs
 |[],[],_=>rfl
 |[],_::_,h=>by simp at h
 |_::_,[],h=>by simp at h
 |d::ds,v::vs,h=>by
  show v::(kz ds vs).map (·.2)=_;rw[XS (by simpa using h)]
def aaM{ds:List jq}{vs:List V}(h:vs.length=ds.length):(kz ds vs).length=ds.length:=by simp[kz,h]
def Nx{ks:Pk}{n:Int}(h:n∉ks.map (·.1)):ks.lookup n=none:=by
 induction ks with
 |nil=>rfl
 |cons k ks ih=>
  rw[zi,zv,not_or]at h;have e:(n==k.1)=false:=by simpa using h.1
  obtain⟨a,b⟩:=k;show(match n==a with|true=>some b|false=>ks.lookup n)=_;rw[show(n==a)=false from e];exact ih h.2
def Ny{ks:Pk}{n w:Int}(m:Int):(ks++[(n,w)]).lookup m=match ks.lookup m with|some x=>some x|none=>if m=n then some w else none:=by
 induction ks with
 |nil=>
  show(match m==n with|true=>some w|false=>none)=_;by_cases e:m=n
  ·simp[e]
  ·have e':(m==n)=false:=by simpa using e
   rw[e'];simp[e]
 |cons k ks ih=>
  obtain⟨a,b⟩:=k;show(match m==a with|true=>some b|false=>(ks++[(n,w)]).lookup m)=match(match m==a with|true=>some b|false=>ks.lookup m)with|some x=>some x|none=>_
  cases m==a with
  |true=>rfl
  |false=>exact ih
def Jh{ks:Pk}{n w:Int}{d:jq}(h:d.n≠n):nY (ks++[(n,w)]) d=nY ks d:=by
 unfold nY;rw[Ny]
 cases ks.lookup d.n with
 |none=>simp[h]
 |some x=>rfl
def Ud{ks:Pk}{w:Int}{d:jq}(h:d.n∉ks.map (·.1)):nY (ks++[(d.n,w)]) d=⟨d.n,d.s,d.p - w,d.c - d.c*w/d.p⟩:=by
 unfold nY;rw[Ny,Nx h];simp
def Tn{ks:Pk}{d:jq}(h:d.n∉ks.map (·.1)):nY ks d=d:=by
 unfold nY;rw[Nx h]
def some_at{ds:List jq}{d:jq}{w:Int}(q:(ds.map jq.n).Nodup)(h:d∈ds):Ds ds (d.n,w)=⟨d.n,d.s,w,d.c*w/d.p⟩:=by
 have:ds.find? (λe=>e.n==d.n)=some d:=by
  induction ds with
  |nil=>cases h
  |cons e ds ih=>
   rw[zi,zP]at q;rcases zv.mp h with rfl|h
   ·simp
   ·have:e.n≠d.n:=λz=>q.1 (by rw[z];exact zj.mpr ⟨d,h,rfl⟩)
    rw[List.find?_cons_of_neg (by simpa using this)];exact ih q.2 h
 unfold Ds;rw[this]
def Tc{ks:Pk}{i:Nat}{k:Int×Int}(h:(ks.map (·.1)).Nodup)(e:ks[i]? =some k):k.1∉(ks.take i).map (·.1):=by
 intro hm;have h2:ks.map (·.1)=(ks.take i).map (·.1)++(ks.drop i).map (·.1):=by rw[<-zu,yW]
 rw[h2]at h;exact(yX.mp h).2.2 _ hm k.1 (zj.mpr ⟨k,by rw[List.mem_iff_getElem?];exact⟨0,by rw[List.getElem?_drop];exact e⟩,rfl⟩) rfl
theorem Qz:∀{l k:List Int},l.Nodup->(∀x∈l,x∈k)->l.length<=k.length
 |[],_,_,_=>zJ _
 |x::l,k,h,s=>by
  have h':=zP.mp h;have z:x∈k:=s x (.head _);have:=Qz (l:=l) (k:=k.erase x) h'.2 λy q=>(List.mem_erase_of_ne (λe=>by subst e;exact h'.1 q)).mpr (s y (.tail _ q));rw[List.length_erase_of_mem z]at this;have hp:0<k.length:=List.length_pos_of_mem z;rw[zM];omega
def mD.put{H:Hp}{x l:Addr}{d:jq}{o:HO}(h:mD A H x d)(q:∀C dx fs,H l≠some (.ins C dx fs)):mD A (upd H l o) x d:=by
 obtain⟨dx,e⟩:=h;exact⟨dx,(iQ λz=>q _ _ _ (z▸e)).trans e⟩
noncomputable def OkV(A:Adr)(H:Hp)(d:jq)(v:V):Prop:=(0<d.p/\∃x,v=.ref x/\mD A H x d)\/(d.p=0/\v=.non)
theorem OkV.same{H H':Hp}{d:jq}{v:V}(h:OkV A H d v)(s:Same H H'):OkV A H' d v:=h.imp (fun⟨a,x,e,l⟩=>⟨a,x,e,l.same s⟩) id
theorem OkV.put{H:Hp}{d:jq}{v:V}{l:Addr}{o:HO}(h:OkV A H d v)(q:∀C dx fs,H l≠some (.ins C dx fs)):OkV A (upd H l o) d v:=h.imp (fun⟨a,x,e,i⟩=>⟨a,x,e,i.put q⟩) id
theorem Wq{H:Hp}:∀{ds:List jq}{vs:List V},vs.length=ds.length->(∀(j:Nat) d v,ds[j]? =some d->vs[j]? =some v->OkV A H d v)->∃q:RL,(vs.filter λv=>decide (v≠.non))=jt q/\q.map (·.2)=(ds.filter λd=>decide (0<d.p))/\kE A H q
 |[],[],_,_=>⟨[],rfl,rfl,λr h=>(zo h).elim⟩
 |[],_::_,h,_=>by simp at h
 |_::_,[],h,_=>by simp at h
 |d::ds,v::vs,hl,h=>by
  obtain⟨q,e1,e2,e3⟩:=Wq (ds:=ds) (vs:=vs) (by simpa using hl) λj d v h1 h2=>h (j+1) d v h1 h2;rcases h 0 d v rfl rfl with⟨z,x,rfl,hx⟩|⟨z,rfl⟩
  ·refine⟨(x,d)::q,?_,?_,λr hr=>?_⟩
   ·rw[yq (by simp),e1];rfl
   ·rw[yq (by simpa using z),zi,e2]
   ·rcases zv.mp hr with rfl|hr
    ·exact hx
    ·exact e3 r hr
  ·refine⟨q,?_,?_,e3⟩
   ·rw[yr (by simp),e1]
   ·rw[yr (by simp[z]),e2]
noncomputable def kfH(H:Hp):V->Key
 |.ref b=>match H b with
  |some (.tup [.int n,_])=>Sum.inl n
  |_=>Sum.inl 0
 |_=>Sum.inl 0
noncomputable def vfH(H:Hp):V->V
 |.ref b=>match H b with
  |some (.tup [_,v])=>v
  |_=> .non
 |_=> .non
def aic{H:Hp}{b:Addr}{n:Int}{v:V}(h:H b=some (.tup [.int n,v])):kfH H (.ref b)=Sum.inl n:=by
 show(match H b with|some (.tup [.int n,_])=>Sum.inl n|_=>Sum.inl 0)=_;rw[h]
def aaX{H:Hp}{b:Addr}{n:Int}{v:V}(h:H b=some (.tup [.int n,v])):vfH H (.ref b)=v:=by
 show(match H b with|some (.tup [_,v])=>v|_=> .non)=_;rw[h]
theorem Wo{H:Hp}:∀{ls:RL}{ys:List V}{pre:RL},ys.length=ls.length->(∀(i:Nat) y,ys[i]? =some y->∃b l,ls[i]? =some l/\y=.ref b/\H b=some (.tup [.int l.2.n,.ref l.1]))->((pre++ls).map λr=>r.2.n).Nodup->
  ys.foldl (λa y=>putK a (kfH H y) (vfH H y)) (kz (pre.map (·.2)) (jt pre))=kz ((pre++ls).map (·.2)) (jt (pre++ls))
 |[],[],pre,_,_,_=>by rw[yn];rfl
 |[],_::_,_,h,_,_=>by simp at h
 |_::_,[],_,h,_,_=>by simp at h
 |l::ls,y::ys,pre,hl,h,hu=>by
  obtain⟨b,l',e1,rfl,z⟩:=h 0 y rfl;cases e1;rw[zza,aic z,aaX z]
  have hn:l.2.n∉(pre.map (·.2)).map jq.n:=by
   rw[zu,zi]at hu;intro hm;rw[zx]at hm;exact(yX.mp hu).2.2 _ hm _ zk rfl
  rw[akn (by rw[iW,za]) hn];have e2:pre.map (·.2)++[l.2]=(pre++[l]).map (·.2):=by rw[zu];rfl
  have e3:jt pre++[V.ref l.1]=jt (pre++[l]):=by unfold jt;rw[zu];rfl
  have q:pre++l::ls=(pre++[l])++ls:=by simp
  rw[e2,e3,q];exact Wo (by simpa using hl) (λi y hy=>h (i+1) y hy) (q▸hu)
inductive Av(A:Adr)(vs:List V)(H:Hp)(Q:VK)(E:XK):Prop
 |mk (q pk:Addr) (ls:RL) (ps:PL) (_:vs=[.ref q,.ref pk]) (_:H q=some (.lst (jt ls))) (_:kE A H ls) (_:H pk=some (.lst (Kw ps))) (_:akX H ps) (_:QW (ls.map (·.2))) (_:ajz (ls.map (·.2)) (ps.map (·.2))) (_:∀t la lb l1 l2 H',Same H H'->H' t=some (.tup [.ref la,.ref lb])->H' la=some (.lst (jt l1))->H' lb=some (.lst (jt l2))->kE A H' l1->kE A H' l2->l1.map (·.2)=(ps.map (·.2)).map (Ds (ls.map (·.2)))->l2.map (·.2)=Nv (ps.map (·.2)) (ls.map (·.2))->H la=none->H lb=none->la≠lb->Q (.ref t) H'):Av A vs H Q E
def Kq(T:Txt K mg A D):jK P w K mg base CX0 4 A.abO D.abO ["lots", "picks"] (Av A):=by
 refine T.adV.F.okv lF λ_ _ _ _ H vs Q E hr h=>?_
 ·obtain⟨q,pk,ls,ps,rfl,hq,hL,be,hP,hR,hK,k⟩:=h
  refine ⟨_,(iu (iU (i:=2) lF.nd rfl orl (nu (qm (K:=K) rfl) (by rfl) T.ae4 (by decide+kernel) (ir (jW (cap:=[none]) (N':=["lot"]) rfl (by walk_at "c") (jM (K:=K) (pv 0)) (λ_ _ _ _=>(iK (i:=0) nd1 rfl orl orr)) (λ_ _ _ _=>jN) (λ_ _ _ _=>(mj (ir (fv K 0) (pav 0 iw))))) iw)))
   (iu (iU (i:=3) lF.nd rfl orl (kZ iw))
   (iu (nQ zO rfl (jM (K:=K) (pv 1)) (mZ (K:=K) (n:=2) rfl (jk (iK (i:=4) lF.nd rfl orl) (jk (iK (i:=5) lF.nd rfl orl) mX)))
    (iu (iU (i:=6) lF.nd rfl orl (Zn (oV hr) (pvD 2) (pvD 4) ⟨rfl,rfl,rfl,rfl⟩))
    (iu (jT (PW.pt (DN (iY (Aj) (pvD 6) nj (jf _)) (Ai (iY (Mx) (fv K 6) (pvD 5) (jf _))))) (iB (mC)) jo)
    (iu (iU (i:=7) lF.nd rfl orl (jx (pv 6) (mc T.agx T.ahi (Ou T) hr (Ro T) .nil) jC (pav 5 iw)))
    (iu (jj (tZ (K:=K) zL zQ zR lY (pvD 3) (ir (jy (je (K:=K)) (pvD 7) iz (λ_ _=>rfl)) iw)))
    (iB (uE (oV hr) (pvD 2) (pvD 4) (jy (je (K:=K)) (pvD 7) iz (λ_ _=>rfl)) rfl)))))))
   (iB (iR (mj (pav 3 (ir (jW (cap:=[none]) (N':=["lot"]) rfl (by walk_at "c") (aix (JW (K:=K) yg PySem.F.slot_dict_values PySem.F.type_dict_values Xd (pvD 2))) (λ_ _ _ _=>(iK (i:=0) nd1 rfl orl orr)) (λ_ _ _ _=>(HW (iY (WL) (pvD 0) nj (jf _)))) (λ_ _ _ _=>(pvD 0))) iw)))))))),?_⟩
  simp only[start_eq];walk_at "m";have bz:ls.length<=60:=by have:=hR.l;rwa [za]at this
  refine⟨⟨_,iI hq⟩,?_⟩;refine lq.listE (K:=K) (λσ=>∃a,σ=[a]) (λi v H'=>∃b l,ls[i]? =some l/\v=.ref b/\H' b=some (.tup [.int l.2.n,.ref l.1])) (iI hq) ⟨_,rfl⟩ (by rw[iW,zq];omega) ?_ ?_
  ·rintro Da i x hx σ H5 R ⟨_,rfl⟩ sm hD ⟨acc,hA⟩ kk
   obtain⟨l,bn,rfl⟩:=jQ hx;obtain⟨dx,ak⟩:=(hL l (get_mem bn)).same sm;walk_at "i";exact rd ak T.agx T.agy (by rfl) ⟨sz,λt ht=>kk (.ref t) _ _ ⟨_,rfl⟩ (iH ht) λH' hb=>⟨t,l,bn,rfl,hb _ _ (λe=>by rw[e,hA]at ht;cases ht) iC⟩⟩
  ·intro Da H1 acc hD s1 hA ap hF
   rw[iW]at ap;walk_at "i";obtain⟨ds,ab⟩:∃ds,ls.map (·.2)=ds:=⟨_,rfl⟩;obtain⟨ks,ai⟩:∃ks,ps.map (·.2)=ks:=⟨_,rfl⟩;rw[ab,ai]at hK;rw[ab]at hR;rw[ab,ai]at k;have bu:ds.length=ls.length:=by rw[<-ab,za]
   refine⟨_,iI hA,by omega,kfH H1,vfH H1,λy hy=>?_,λpd bq=>?_⟩
   ·obtain⟨i,hi,e⟩:=zZ hy
    obtain⟨b,l,_,h2,h3⟩:=hF i y (by rw[zh hi,e]);subst h2;exact⟨b,rfl,by rw[aic h3,aaX h3];exact jG h3⟩
   have ez:Mf (kfH H1) (vfH H1) acc=kz ds (jt ls):=by
    rw[<-ab];refine Wo (pre:=[]) ap hF ?_;have:=hR.u;rw[<-ab,zx]at this;exact this
   rw[ez];have S2:=s1.trans (iH (o:=.dK (kz ds (jt ls))) bq);have au:(upd H1 pd (.dK (kz ds (jt ls)))) pd=some (.dK (kz ds (jt ls))):=iC;have bi:=s1.free bq;generalize upd H1 pd _=H2 at S2 au;walk_at "m";refine⟨sz,λpt al=>?_⟩;have S3:=S2.trans (iH (o:=.lst []) al);have bf:(upd H2 pt (.lst [])) pt=some (.lst []):=iC;have bj:=iH (o:=.lst []) al _ _ au;have bm:=S2.free al;have aq:pd≠pt:=jE au al;generalize upd H2 pt _=H3 at S3 bf bj;rw[ap_seq,ap_for];walk_at "i";refine⟨⟨_,iI (S3 _ _ be)⟩,?_⟩
   refine Bw.listN (K:=K) (a:=pk) (xs:=Kw ps) (λi σ Hx=>∃(vs:List V)(l1:RL)(w4 w5 w6 w7:Option V),σ=[some (.ref q),some (.ref pk),some (.ref pd),some (.ref pt),w4,w5,w6,w7]/\Same H Hx/\vs.length=ds.length/\Hx pd=some (.dK (kz ds vs))/\Hx pt=some (.lst (jt l1))/\kE A Hx l1/\
    l1.map (·.2)=(ks.take i).map (Ds ds)/\∀(j:Nat) d v,ds[j]? =some d->vs[j]? =some v->OkV A Hx (nY (ks.take i) d) v) ⟨jt ls,[],_,_,_,_,rfl,S3,by rw[iW,bu],bj,bf,λr h=>(zo h).elim,rfl,λj d v h1 h2=>?_⟩ (λi σ Hx _ ⟨_,_,_,_,_,_,_,s,_⟩=>s.seq (iI be)) ?_ ?_
   ·obtain⟨l,e1,rfl⟩:=jQ h2
    have e2:ds[j]? =some l.2:=by rw[<-ab,zf,e1];rfl
    rw[h1]at e2;cases e2;refine .inl ⟨?_,l.1,rfl,(hL l (get_mem e1)).same S3⟩;have:=(hR.g l.2 (zn h1)).1;show 0<l.2.p;omega
   ·rintro i y σ H4 hy ⟨vs,l1,w4,w5,w6,w7,rfl,S4,ac,aa,aj,aw,ag,af⟩ N hN
    obtain⟨r,bp,rfl⟩:=Xq hy;have ay:ks[i]? =some r.2:=by rw[<-ai,zf,bp];rfl
    obtain⟨d,hd,ax,b1,b2⟩:=hK.h r.2 (zn ay);obtain⟨j,hj,ej⟩:=zZ hd;have ae:ds[j]? =some d:=by rw[zh hj,ej]
    have ba:vs[j]? =some (vs[j]'(by omega)):=by simp
    have an:d.n∉(ks.take i).map (·.1):=by rw[ax];exact Tc hK.u ay
    have hg:=hR.g d hd;have bb:=af j d _ ae ba;rw[Tn an]at bb;have ao:=Wk (v:=vs[j]'(by omega)) hR.u ae ba
    obtain ⟨x,ex,hx⟩:∃x,vs[j]'(by omega)=.ref x/\mD A H4 x d:=by
     rcases bb with⟨_,x,e,h⟩|⟨e,_⟩
     ·exact⟨x,e,h⟩
     ·omega
    rw[ex]at ao;obtain⟨dx,ak⟩:=id hx;have bl:=S4 _ _ (hP r (zn bp));rw[<-ax]at bl;walk_at "i";refine⟨_,jG bl,rfl,_,_,rfl,_,_,rfl,rfl,?_⟩;walk_at "m";refine⟨.inl ⟨_,.inl aa⟩,_,rF (k:=Sum.inl d.n) aa,?_⟩;rw[ao];simp only[Option.getD_some];walk_at "m";refine rd ak T.agx T.agA (by rfl) ⟨_,rfl,?_⟩;rw[zc (by show¬(d.p<r.2.2);omega)];walk_at "m";refine md ak zk (by rfl) ⟨x,d,r.2.2,rfl,hx,rG (by omega) (by omega),⟨by omega,?_⟩,λt y v' H5 s5 bo ad hY f1 f2=>?_⟩
    ·have:d.p.natAbs<2^40:=by omega
     exact zH this (yJ (by decide) (by decide))
    walk_at "m";have S5:=S4.trans s5;have as:=s5 _ _ aj;have br:=s5 _ _ aa;have bw:t≠pt:=λe=>by rw[e,aj]at bo;cases bo
    have bd:(upd H5 pt (.lst (jt l1++[V.ref y]))) pd=some (.dK (kz ds vs)):=(iQ aq).trans br;have am:∀C dx fs,H5 pt≠some (.ins C dx fs):=λ_ _ _=>by rw[as];simp
    have ah:∀C dx fs,(upd H5 pt (.lst (jt l1++[V.ref y]))) pd≠some (.ins C dx fs):=λ_ _ _=>by rw[bd];simp
    have er:r.2=(d.n,r.2.2):=by rw[ax]
    have bc:ks.take (i+1)=ks.take i++[(d.n,r.2.2)]:=by rw[zS,ay,<-er];rfl
    have b0:l1.length<=60:=by
     have e1:=congrArg List.length ag;rw[za,za,z0]at e1
     have e2:ks.length<=ds.length:=by
      have:=Qz (l:=ks.map (·.1)) (k:=ds.map jq.n) hK.u λz hz=>by
       obtain⟨k0,bt,rfl⟩:=zj.mp hz;obtain⟨d0,bx,e0,_⟩:=hK.h k0 bt;exact zj.mpr ⟨d0,bx,e0⟩
      rwa [za,za]at this
     have:=hR.l;omega
    refine ⟨.inl ⟨rfl,_,iI as⟩,_,jG ad,_,rfl,_,as,by rw[iW,zq];omega,_,jG ((iQ bw).trans ad),_,rfl,_,.inl ⟨_,Sum.inl d.n,bd,rfl,by rw[aaM ac,zq];have:=hR.l;omega,by rw[akU hR.u ae ba]⟩,
     hN _ _ ⟨vs.set j v',l1++[(y,Ds ds (d.n,r.2.2))],_,_,_,_,rfl,(S5.upd bm).upd bi,by rw[List.length_set,ac],iC,?_,λz hz=>?_,?_,λj' d' v0 h1 h2=>?_⟩⟩
    ·rw[iQ aq.symm,iC];unfold jt;rw[zu];rfl
    ·rcases zI.mp hz with hz|hz
     ·exact(((aw z hz).same s5).put am).put ah
     ·obtain rfl:=zy.mp hz
      rw[some_at hR.u hd];exact(hY.put am).put ah
    ·rw[zu,ag,bc,zu];rfl
    ·rw[bc]
     by_cases az:j'=j
     ·subst az
      rw[ae]at h1;cases h1;rw[zzg (by omega)]at h2;cases h2;rw[Ud an];by_cases ew:r.2.2=d.p
      ·exact .inr ⟨by show d.p - r.2.2=0;omega,f1 ew⟩
      ·obtain⟨z,ez,hz⟩:=f2 ew
       exact .inl ⟨by show 0<d.p - r.2.2;omega,z,ez,(hz.put am).put ah⟩
     ·rw[zzz (λe=>az e.symm)]at h2
      have bs:d'.n≠d.n:=λe=>az (by
       have hl1':j'<(ds.map jq.n).length:=by rw[za];exact(zp.mp h1).1
       refine(zzj hl1' hR.u).mp ?_;rw[zf,zf,h1,ae];show some d'.n=some d.n;rw[e])
      rw[Jh bs];exact(((af j' d' v0 h1 h2).same s5).put am).put ah
   ·rintro σ H4 ⟨vs,l1,w4,w5,w6,w7,rfl,S4,ac,aa,aj,aw,ag,af⟩
    rw[QD,show ps.length=ks.length by rw[<-ai,za],zU]at ag af;walk_at "i";refine⟨.inr (.inr (.inl ⟨rfl,.inl ⟨_,aa⟩⟩)),_,aa,λv hv=>⟨pd,iC,_,(iQ (jE aa hv)).trans aa,λo=>?_⟩⟩;have sv:=iH (o:=Cv v pd) hv;have bv:=sv _ _ aa;have ni:∀C dx fs,(upd H4 v (Cv v pd)) pd≠some (.ins C dx fs):=λ_ _ _=>by rw[bv];simp
    have S5:Same H (upd (upd H4 v (Cv v pd)) pd (.frz o (.dK (kz ds vs)))):=(S4.trans sv).upd bi;have ad:(upd (upd H4 v (Cv v pd)) pd (.frz o (.dK (kz ds vs)))) pt=some (.lst (jt l1)):=(iQ aq.symm).trans (sv _ _ aj);have bk:kE A (upd (upd H4 v (Cv v pd)) pd (.frz o (.dK (kz ds vs)))) l1:=λz hz=>((aw z hz).same sv).put ni;have bg:(upd (upd H4 v (Cv v pd)) pd (.frz o (.dK (kz ds vs)))) pd=some (.frz o (.dK (kz ds vs))):=iC
    have bh:∀(j:Nat) d v0,(ds.map (nY ks))[j]? =some d->vs[j]? =some v0->OkV A (upd (upd H4 v (Cv v pd)) pd (.frz o (.dK (kz ds vs)))) d v0:=λj d v0 h1 h2=>by
     rw[zf]at h1
     cases e:ds[j]? with
     |none=>rw[e]at h1;cases h1
     |some d0=>
      rw[e]at h1;cases h1;exact((af j d0 v0 e h2).same sv).put ni
    generalize upd (upd H4 v (Cv v pd)) pd (.frz o (.dK (kz ds vs)))=H5 at S5 ad bk bg bh;refine lq.vals (λσ=>∃a,σ=[a]) (λv=>decide (v≠.non)) id bg ⟨_,rfl⟩ (by rw[aaM ac,zq];have:=hR.l;omega) ?_ ?_
    ·rintro x hx σ H6 R1 R2 ⟨_,rfl⟩ sm k1 k2
     walk_at "i";by_cases e:x=.non
     ·rw[zc (by simp[e])]
      exact k2 (by simp[e]) _ _ ⟨_,rfl⟩ (same_refl _)
     ·rw[zg (by simp[e])]
      exact k1 (by simp[e]) _ _ ⟨_,rfl⟩ (same_refl _)
    ·intro Da H6 av s6 ar
     rw[XS ac,List.map_id]at ar;obtain⟨l2,e1,e2,e3⟩:=Wq (A:=A) (H:=H5) (ds:=ds.map (nY ks)) (vs:=vs) (by rw[za,ac]) bh;rw[e1]at ar;refine⟨sz,λt ht=>?_⟩;have st:=iH (o:=.tup [V.ref pt,V.ref Da]) ht;have S6:=S5.trans (s6.trans st);exact k t pt Da l1 l2 _ S6 iC ((s6.trans st) _ _ ad) (st _ _ ar) (bk.same (s6.trans st)) (e3.same (s6.trans st)) ag e2 bm (S5.free av) (λe=>by rw[<-e,ad]at av;cases av)
def akK{ds:List jq}(hu:(ds.map jq.n).Nodup){i j:Nat}{d e:jq}(h1:ds[i]? =some d)(h2:ds[j]? =some e)(q:i≠j):d.n≠e.n:=λz=>q (by
 have hl:i<(ds.map jq.n).length:=by rw[za];exact(zp.mp h1).1
 refine(zzj hl hu).mp ?_;rw[zf,zf,h1,h2];show some d.n=some e.n;rw[z])
def Zz{ks:Pk}{n w:Int}(h:ks.lookup n=some w):(n,w)∈ks:=by
 induction ks with
 |nil=>cases h
 |cons k ks ih=>
  obtain⟨a,b⟩:=k;have h':(match n==a with|true=>some b|false=>ks.lookup n)=some w:=h;by_cases e:n=a
  ·have e':(n==a)=true:=by simpa using e
   rw[e']at h';cases h';rw[e];exact zk
  ·have e':(n==a)=false:=by simpa using e
   rw[e']at h';exact zt _ (ih h')
def ajE{ds:List jq}(hu:(ds.map jq.n).Nodup){d e:jq}(h1:d∈ds)(h2:e∈ds)(h:d.n=e.n):d=e:=by
 obtain⟨i,hi,q⟩:=zZ h1;obtain⟨j,hj,ej⟩:=zZ h2
 have:i=j:=by
  by_cases z:i=j
  ·exact z
  ·exact(akK hu (by rw[zh hi,q]) (by rw[zh hj,ej]) z h).elim
 subst this;rw[<-q,<-ej]
def xQ{ds:List jq}{ks:Pk}(q:QW ds)(hK:ajz ds ks){d:jq}(hd:d∈ds):(nY ks d).n=d.n/\(0<=(nY ks d).p/\(nY ks d).p<=100000000000)/\(¬0<(nY ks d).p->(nY ks d).p=0/\(nY ks d).c=0):=by
 have hg:=q.g d hd;unfold nY
 cases e:ks.lookup d.n with
 |none=>exact⟨rfl,⟨by show 0<=d.p;omega,hg.2⟩,λh=>absurd (show 0<d.p by omega) h⟩
 |some w=>
  obtain⟨d',h1,h2,z,h4⟩:=hK.h _ (Zz e);obtain rfl:=ajE q.u h1 hd h2;have h4:w<=d'.p:=h4;have z:1<=w:=z;refine⟨rfl,⟨by show 0<=d'.p - w;omega,by show d'.p - w<=_;omega⟩,λh=>?_⟩;have h:¬0<d'.p - w:=h;have ew:w=d'.p:=by omega
  refine⟨by show d'.p - w=0;omega,?_⟩;show d'.c - d'.c*w/d'.p=0;rw[ew,Int.mul_ediv_cancel _ (by omega)];omega
theorem xV{f g:jq->Int}:∀{ds:List jq}{d0:jq},(ds.map jq.n).Nodup->d0∈ds->(∀d∈ds,d.n≠d0.n->f d=g d)->(ds.map f).sum=(ds.map g).sum - g d0+f d0
 |[],_,_,h,_=>by cases h
 |d::ds,d0,hu,h,hf=>by
  rw[zi,zP]at hu;rw[zi,zi,zK,zK];rcases zv.mp h with rfl|h
  ·have:ds.map f=ds.map g:=yd λe q=>hf e (zt _ q) λz=>hu.1 (by rw[<-z];exact zj.mpr ⟨e,q,rfl⟩)
   rw[this];omega
  ·have h1:=xV hu.2 h λe q=>hf e (zt _ q)
   have h2:=hf d zk λz=>hu.1 (by rw[z];exact zj.mpr ⟨d0,h,rfl⟩);rw[h1,h2];omega
theorem Qs{ds:List jq}{ks:Pk}(hR:QW ds)(hK:ajz ds ks):∀i:Nat,i<=ks.length->
  (((ks.take i).map (Ds ds)).map jq.p).sum+((ds.map (nY (ks.take i))).map jq.p).sum=(ds.map jq.p).sum/\(((ks.take i).map (Ds ds)).map jq.c).sum+((ds.map (nY (ks.take i))).map jq.c).sum=(ds.map jq.c).sum
 |0,_=>by
  have e:ds.map (nY [])=ds:=(yd λd _=>rfl).trans (List.map_id _);rw[List.take_zero,e];exact⟨by simp,by simp⟩
 |i+1,hi=>by
  obtain⟨h1,h2⟩:=Qs hR hK i (by omega);have aa:ks[i]? =some ks[i]:=by simp
  obtain⟨d,hd,z,hw⟩:=hK.h ks[i] (yE _);have q:d.n∉(ks.take i).map (·.1):=by rw[z];exact Tc hK.u aa
  have er:ks[i]=(d.n,ks[i].2):=by rw[z]
  generalize ks[i].2=w at er hw;have ab:ks.take (i+1)=ks.take i++[(d.n,w)]:=by rw[zS,aa,er];rfl
  have c1:=xV (f:=λe=>(nY (ks.take i++[(d.n,w)]) e).p) (g:=λe=>(nY (ks.take i) e).p) hR.u hd λe _ he=>by rw[Jh he]
  have c2:=xV (f:=λe=>(nY (ks.take i++[(d.n,w)]) e).c) (g:=λe=>(nY (ks.take i) e).c) hR.u hd λe _ he=>by rw[Jh he]
  simp only[Ud q,Tn q]at c1 c2;have es:=some_at (w:=w) hR.u hd;rw[ab];simp only[zx,zu,yH,zi,y6,zK,List.sum_nil,Function.comp_def,es]at h1 h2 c1 c2⊢;rw[c1,c2];omega
theorem RG{f:jq->Int}:∀{l:List jq},(∀d∈l,¬0<d.p->f d=0)->((l.filter λd=>decide (0<d.p)).map f).sum=(l.map f).sum
 |[],_=>rfl
 |d::l,h=>by
  have q:=RG (l:=l) λe z=>h e (zt _ z);by_cases e:0<d.p
  ·rw[yq (by simpa using e),zi,zi,zK,zK,q]
  ·rw[yr (by simpa using e),zi,zK,q,h d zk e]
   omega
def aaz{ds:List jq}{ks:Pk}(hR:QW ds)(hK:ajz ds ks):((ks.map (Ds ds)).map jq.p).sum+((Nv ks ds).map jq.p).sum=(ds.map jq.p).sum/\((ks.map (Ds ds)).map jq.c).sum+((Nv ks ds).map jq.c).sum=(ds.map jq.c).sum:=by
 have h:=Qs hR hK ks.length (zm _);rw[zU]at h
 have hz:∀e∈ds.map (nY ks),¬0<e.p->e.p=0/\e.c=0:=λe q=>by
  obtain⟨d,hd,rfl⟩:=zj.mp q;exact(xQ hR hK hd).2.2
 unfold Nv;rw[RG (f:=jq.p) λe q z=>(hz e q z).1,RG (f:=jq.c) λe q z=>(hz e q z).2];exact h
def aiu{ds:List jq}{ks:Pk}(q:QW ds)(hK:ajz ds ks):QW (Nv ks ds):=by
 have e:(ds.map (nY ks)).map jq.n=ds.map jq.n:=by
  rw[zx];exact yd λd hd=>(xQ q hK hd).1
 refine⟨?_,λz hz=>?_,?_⟩
 ·refine zzL ?_ q.u
  rw[<-e];exact List.Sublist.map _ List.filter_sublist
 ·obtain⟨h1,h2⟩:=yB.mp hz
  obtain⟨d,hd,rfl⟩:=zj.mp h1;have hs:=xQ q hK hd;have h2:0<(nY ks d).p:=by simpa using h2
  exact⟨by omega,hs.2.1.2⟩
 ·have:=yk (λd:jq=>decide (0<d.p)) (ds.map (nY ks))
  rw[za]at this;have:=q.l;unfold Nv;omega
def aaD{ns:List Int}{ls:RL}(h:Shp ns ls)(hn:ns.length<=60)(z:pcs ls<=1000000000):QW (ls.map (·.2)):=by
 refine⟨by rw[zx];exact h.u,λd hd=>?_,by rw[za];exact zV h.len hn⟩;obtain⟨l,q,rfl⟩:=zj.mp hd;have h1:=h.p l q;have h2:=Rn h.p q;exact⟨h1,by omega⟩
def akB{ls:RL}{ks:Pk}{w:Int}(h:PkS ls ks w):ajz (ls.map (·.2)) ks:=⟨h.u,λk q=>let⟨l,a,b⟩:=h.h k q;⟨l.2,zj.mpr ⟨l,a,rfl⟩,b⟩⟩
def Vz{ns:List Int}{ls l1 l2:RL}{ks:Pk}{w:Int}(h:Shp ns ls)(hn:ns.length<=60)(hp:pcs ls<=1000000000)(hk:PkS ls ks w)(e1:l1.map (·.2)=ks.map (Ds (ls.map (·.2))))(e2:l2.map (·.2)=Nv ks (ls.map (·.2))):
  l1.map Vr=ks/\Shp ns l2/\pcs l2=pcs ls - w:=by
 have hR:=aaD h hn hp;have hK:=akB hk
 have hs:∀k∈ks,(Ds (ls.map (·.2)) k).n=k.1/\(Ds (ls.map (·.2)) k).p=k.2:=λk z=>by
  obtain⟨d,hd,e,_⟩:=hK.h k z;have:=some_at (w:=k.2) hR.u hd;rw[e]at this;rw[this];exact⟨rfl,rfl⟩
 have ab:l1.map Vr=ks:=by
  have:l1.map Vr=(l1.map (·.2)).map λd=>(d.n,d.p):=by rw[zx];rfl
  rw[this,e1,zx]
  exact Hh λk z=>by
   show((Ds _ k).n,(Ds _ k).p)=k;rw[(hs k z).1,(hs k z).2]
 have aa:=(aaz hR hK).1;rw[<-e1,<-e2]at aa
 have f1:((l1.map (·.2)).map jq.p).sum=w:=by
  have:(l1.map (·.2)).map jq.p=ks.map (·.2):=by
   rw[<-ab,zx,zx];rfl
  rw[this,hk.s]
 have f2:∀ms:RL,((ms.map (·.2)).map jq.p).sum=pcs ms:=λms=>by unfold pcs;rw[zx];rfl
 rw[f1,f2,f2]at aa;have hok:=aiu hR hK;rw[<-e2]at hok;refine⟨ab,⟨?_,λl hl=>(hok.g l.2 (zj.mpr ⟨l,hl,rfl⟩)).1,λl hl=>?_⟩,by omega⟩
 ·have:=hok.u
  rwa [zx]at this
 ·have h1:l.2∈Nv ks (ls.map (·.2)):=e2▸zj.mpr ⟨l,hl,rfl⟩
  obtain⟨h2,_⟩:=yB.mp h1;obtain⟨d,hd,e⟩:=zj.mp h2;obtain⟨q,hq,rfl⟩:=zj.mp hd;rw[<-e,(xQ hR hK hd).1];exact h.m q hq
inductive Tu(A:Adr):Addr->Prop
 |e:Tu A A.acM
 |n:Tu A A.acN
 |d:Tu A A.acO
 |m:Tu A A.acP
def akV{C:Addr}(q:Tu A C):(C,QK A)∈[(A.acM,QK A),(A.acN,QK A),(A.acO,QK A),(A.acP,QK A)]:=by cases q<;>simp
def aan{C:Addr}(q:Tu A C):(C,Cz A)∈[(A.acM,Cz A),(A.acN,Cz A),(A.acO,Cz A),(A.acP,Cz A)]:=by cases q<;>simp
inductive Fp(A:Adr)(vs:List V)(H:Hp)(Q:VK)(E:XK):Prop
 |mk (x C dx q:Addr) (ns:List Int) (ls:RL) (w:Int) (_:vs=[.ref x,.ref q,.int w,.non]) (_:H x=some (.ins C dx [])) (_:Tu A C) (_:H q=some (.lst (jt ls))) (_:kE A H ls) (_:Shp ns ls) (_:ns.length<=60) (_:pcs ls<=1000000000) (_:1<=w) (_:w<=pcs ls) (_:∀t la lb l1 l2 H',Same H H'->H' t=some (.tup [.ref la,.ref lb])->H' la=some (.lst (jt l1))->H' lb=some (.lst (jt l2))->kE A H' l1->kE A H' l2->Shp ns l1->pcs l1=w->l1≠[]->Shp ns l2->pcs l2=pcs ls - w->H la=none->H lb=none->la≠lb->Q (.ref t) H'):Fp A vs H Q E
def Qd(T:Txt K mg A D):jK P w K mg base CX0 5 A.abV D.abV ["way", "lots", "pieces", "named"] (Fp A):=by
 refine T.ad2.F.okv vX λ_ _ _ _ H vs Q E hr h=>?_
 ·obtain⟨x,C,dx,q,ns,ls,w,rfl,hx,hC,hq,hL,hS,hn,hp,h0,h1,k⟩:=h
  refine ⟨_,(iu (iU (i:=4) vX.nd rfl orl (jx (pv 0) (mc T.afy T.ahk (qD T) hr (sJ T) (mc T.afz T.ahl (qD T) hr (sJ T) (mc T.afA T.ahm (qD T) hr (sJ T) (mc T.afB T.ahn (Gq T) hr (JX T) .nil)))) jC (pav 1 iw)))
   (iu (iU (i:=5) vX.nd rfl orl (uK (iY (Aj) (pvD 3) nj (jf _)) (jx (pv 0) (mc T.afy T.aho (wz T) hr (Ao T) (mc T.afz T.ahp (Jf T) hr (KC T) (mc T.afA T.ahq (Gw T) hr (Ho T) (mc T.afB T.ahr (wz T) hr (Ao T) .nil)))) jC (pav 4 (pav 2 iw))) (pvD 3)))
   (iB (iR (pcg (Kq T) hr T.adV (Nq T) (pav 4 (pav 5 iw))))))),?_⟩
  have ab:ls.length<=100:=by have:=hS.len;omega
  simp only[start_eq];walk_at "n";refine⟨C,dx,_,hx,_,akV hC,by rfl,x,q,ls,rfl,hq,hL,ab,hS.p,by omega,λl ms H1 s1 hl h2 ae ac=>?_⟩;have aa:=ac.shp hS;have aj:=ac.pcs;walk_at "n";refine⟨C,dx,_,s1 _ _ hx,_,aan hC,by rfl,x,l,ms,w,rfl,h2,ae,by rw[ac.len];exact ab,aa.u,λq hq=>⟨aa.p q hq,by have:=Rn aa.p hq;omega⟩,by omega,by omega,λpk ps H2 s2 ak h3 hP hK=>?_⟩
  try dsimp only
  rw[ap_ret];walk_at "i";refine⟨l,pk,ms,ps,rfl,s2 _ _ h2,ae.same s2,h3,hP,aaD aa hn (by omega),akB hK,λt la lb l1 l2 H3 s3 ht g1 g2 g3 g4 e1 e2 f1 f2 f3=>?_⟩;obtain⟨k1,k2,k3⟩:=Vz aa hn (by omega) hK e1 e2;have S2:=s1.trans s2;have ag:l1.map (·.2.n)=(ps.map (·.2)).map (·.1):=by rw[<-k1,zx];rfl
  have ad:l1.map (·.2.p)=(ps.map (·.2)).map (·.2):=by rw[<-k1,zx];rfl
  have af:pcs l1=w:=by unfold pcs;rw[ad];exact hK.s
  have ai:Shp ns l1:=by
   refine⟨by rw[ag];exact hK.u,λr hr=>?_,λr hr=>?_⟩
   ·have:Vr r∈ps.map (·.2):=k1▸zj.mpr ⟨r,hr,rfl⟩
    obtain⟨q,_,_,a,_⟩:=hK.h _ this;exact a
   ·have:Vr r∈ps.map (·.2):=k1▸zj.mpr ⟨r,hr,rfl⟩
    obtain⟨q,ah,e,_⟩:=hK.h _ this;have e:q.2.n=r.2.n:=e;exact e▸aa.m q ah
  refine k t la lb l1 l2 H3 (S2.trans s3) ht g1 g2 g3 g4 ai af (λz=>?_) k2 (by omega) (S2.free f1) (S2.free f2) f3;rw[z]at af;have:pcs []=0:=rfl;omega
inductive uW(A:Adr)(vs:List V)(H:Hp)(Q:VK)(E:XK):Prop
 |mk (x:Addr) (d:jq) (p c:Int) (_:vs=[.ref x,.int p,.int c]) (_:mD A H x d) (_:∀y H',Same H H'->H y=none->mD A H' y ⟨d.n,d.s,d.p+p,d.c+c⟩->Q (.ref y) H'):uW A vs H Q E
def uV(T:Txt K mg A D):jK P w K mg base CX0 3 A.abt D.abt ["self", "pieces", "cost"] (uW A):=by
 refine T.adA.ok Gp (by walk_at "v") (λ_ _ _ s H vs Q E hr h=>?_)
 ·obtain⟨x,⟨n,s,p,c⟩,p',c',rfl,⟨dx,q⟩,k⟩:=h
  refine⟨_,(iB (iR (lK T.agZ (jR (K:=K) T) (hr.mono (by decide)) (by rfl) T.afm (jX T) .nil jC (ir (fv K 0) (ir (fv K 0) (ir (jb jD (fv K 0) (pvD 1)) (ir (jb jD (fv K 0) (pvD 2)) iw))))))),?_⟩;walk_at "a";refine rd q T.agx T.agy (by rfl) (?_);refine rd q T.agx T.agz (by rfl) (?_);refine rd q T.agx T.agA (by rfl) (?_);refine⟨_,rfl,rd q T.agx T.agB (by rfl) ⟨_,rfl,λy dy hy z _=>?_⟩⟩;exact qe ⟨n,s,p+p',c+c'⟩ hy z λH' sm hL=>k y H' sm hy hL
noncomputable def toI:V->Int
 |.int i=>i
 |_=>0
inductive xu(A:Adr)(vs:List V)(H:Hp)(Q:VK)(E:XK):Prop
 |mk (x:Addr) (d:jq) (_:vs=[.ref x]) (_:mD A H x d) (_:∀t,H t=none->Q (.ref t) (upd H t (.tup [.int d.s,.int d.n]))):xu A vs H Q E
def JK(T:Txt K mg A D):jK P w K mg base CX0 1 A.abq D.abq ["lot"] (xu A):=by
 refine T.ady.F.okv Ia λ_ _ _ _ H vs Q E hr h=>?_
 ·obtain⟨x,d,rfl,⟨dx,q⟩,k⟩:=h
  refine⟨_,(iB (iR (mj (ir (fv K 0) (ir (fv K 0) iw))))),?_⟩;walk_at "a";refine rd q T.agx T.agz (by rfl) (rd q T.agx T.agy (by rfl) (?_));exact⟨sz,λt z=>k t z⟩
def Xb{ls:RL}{f:Addr×jq->Bool}{acc:List V}(hl:acc.length=ls.length)(h:∀(i:Nat) v,acc[i]? =some v->∃l,ls[i]? =some l/\v=.bl (f l)):acc=(ls.map f).map V.bl:=by
 refine zzv (by simp[hl]) λi h1 h2=>?_;obtain⟨l,q,z⟩:=h i acc[i] (by simp);rw[z];have h3:i<ls.length:=by omega
 have:ls[i]=l:=by
  rw[zh h3]at q;exact zw q
 simp[this]
noncomputable def Ac(d e:jq):jq:=if e.n=d.n then⟨e.n,e.s,e.p+d.p,e.c+d.c⟩else e
noncomputable def kfL(H:Hp):V->List Int
 |.ref b=>match H b with
  |some (.ins _ _ fs)=>[toI ((fs.lookup ("since" :Str)).getD .non),toI ((fs.lookup ("number" :Str)).getD .non)]
  |_=>[]
 |_=>[]
def aik{H:Hp}{b:Addr}{d:jq}(h:mD A H b d):kfL H (.ref b)=[d.s,d.n]:=by
 obtain⟨dx,e⟩:=h;unfold kfL
 try dsimp only
 rw[e];rfl
inductive Jk(A:Adr)(vs:List V)(H:Hp)(Q:VK)(E:XK):Prop
 |mk (q x:Addr) (ls:RL) (d:jq) (_:vs=[.ref q,.ref x]) (_:H q=some (.lst (jt ls))) (_:kE A H ls) (_:mD A H x d) (_:ls.length<=58) (_:(ls.map (·.2.n)).Nodup) (_:∀l ls' H',Same H H'->H l=none->H' l=some (.lst (jt ls'))->kE A H' ls'->(d.n∈ls.map (·.2.n)->ls'.map (·.2)=(ls.map (·.2)).map (Ac d))->(d.n∉ls.map (·.2.n)->(ls'.map (·.2)).Perm (ls.map (·.2)++[d]))->Q (.ref l) H'):Jk A vs H Q E
def Sh(T:Txt K mg A D):jK P w K mg base CX0 4 A.abu D.abu ["lots", "lot"] (Jk A):=by
 refine T.adB.F.okv Rt λ_ _ _ _ H vs Q E hr h=>?_
 ·obtain⟨q,x,ls,d,rfl,hq,hL,⟨dx,hx⟩,hl,hu,k⟩:=h
  refine ⟨_,(iu (jT (nO (jm (Ot (K:=K) rfl) (by rfl) T.ae2 (by decide+kernel) (ir (jW (cap:=[none,some 1]) (N':=["one", "lot"]) rfl (by walk_at "c") (jM (K:=K) (pv 0)) (λ_ _ _ _=>(iK (i:=0) (show(["one", "lot"]:List Str).Nodup from by decide+kernel) rfl orl orr)) (λ_ _ _ _=>jN) (λ_ _ _ _=>(uP (mU) (fv K 0) (fv K 1) (jf _)))) iw))) (iB (iR (jW (cap:=[none,some 1]) (N':=["one", "lot"]) rfl (by walk_at "c") (jM (K:=K) (pv 0)) (λ_ _ _ _=>(iK (i:=0) (show(["one", "lot"]:List Str).Nodup from by decide+kernel) rfl orl orr)) (λ_ _ _ _=>jN) (λ_ _ _ _=>(uK (iY (mU) (fv K 0) (fv K 1) (jf _)) (jx (pv 0) (mc T.agx T.ag7 (uV T) hr (wB T) .nil) jC (ir (fv K 1) (ir (fv K 1) iw))) (pvD 0)))))) jo)
   (iB (iR (Iu (K:=K) (by rfl) (Lr (JK (K:=K) T) (hr.mono (by decide)) (KR T) (by rfl) T.ae0 (by decide+kernel) (by rfl) T.ady.m (ir (jb Za (pvD 0) (kZ (pav 1 iw))) iw)))))),?_⟩
  simp only[start_eq];walk_at "m";have au:mD A H x d:=⟨dx,hx⟩;refine⟨⟨_,iI hq⟩,?_⟩;refine lq.listE (K:=K) (λσ=>∃a,σ=[a,some (.ref x)]) (λi v _=>∃l,ls[i]? =some l/\v=.bl (decide (l.2.n=d.n))) (iI hq) ⟨_,rfl⟩ (by rw[iW,zq];omega) ?_ ?_
  ·rintro Da i y hy σ H5 R ⟨_,rfl⟩ sm hD _ kk
   obtain⟨l,ab,rfl⟩:=jQ hy;obtain⟨dy,aa⟩:=(hL l (get_mem ab)).same sm;walk_at "i";refine rd aa T.agx T.agy (by rfl) (rd (sm _ _ hx) T.agx T.agy (by rfl) (?_));exact⟨rfl,kk _ _ H5 ⟨_,rfl⟩ (same_refl _) λH' _=>⟨l,ab,by simp⟩⟩
  ·intro Da H1 acc hD sm hA al hF
   have am:acc=(ls.map λl=>decide (l.2.n=d.n)).map V.bl:=Xb (by rw[al,iW]) hF;rw[am]at hA;walk_at "i";refine⟨_,iI hA,?_⟩;have aq:=hL.same sm;have as:=sm _ _ hx;have ag:=sm _ _ hq;by_cases hm:d.n∈ls.map (·.2.n)
   ·obtain⟨l0,ah,e0⟩:=zj.mp hm
    rw[zg (yz.mpr ⟨true,zj.mpr ⟨l0,ah,zD e0⟩,rfl⟩)];refine⟨⟨_,iI ag⟩,?_⟩;refine lq.listE (K:=K) (λσ=>∃a,σ=[a,some (.ref x)]) (λi v H'=>∃b l,ls[i]? =some l/\v=.ref b/\mD A H' b (Ac d l.2)) (iI ag) ⟨_,rfl⟩ (by rw[iW,zq];omega) ?_ ?_
    ·rintro Db i y hy σ H5 R ⟨_,rfl⟩ ak ap ⟨aiM,ao⟩ kk
     obtain⟨l,ab,rfl⟩:=jQ hy;obtain⟨dy,aa⟩:=(aq l (get_mem ab)).same ak;have af:=ak _ _ as;walk_at "i";refine rd aa T.agx T.agy (by rfl) (rd af T.agx T.agy (by rfl) ⟨rfl,?_⟩);by_cases e:l.2.n=d.n
     ·rw[zg (by simp[e])]
      refine md aa zk (by rfl) (rd af T.agx T.agA (by rfl) (rd af T.agx T.agB (by rfl) ⟨l.1,l.2,d.p,d.c,rfl,⟨dy,aa⟩,λz H6 s6 hz hZ=>kk (.ref z) _ H6 ⟨_,rfl⟩ s6 λH' hb=>⟨z,l,ab,rfl,?_⟩⟩));unfold Ac;rw[zg e];exact hZ.but (λe=>by rw[e,ao]at hz;cases hz) hb
     ·rw[zc (by simp[e])]
      refine kk (.ref l.1) _ H5 ⟨_,rfl⟩ (same_refl _) λH' hb=>⟨l.1,l,ab,rfl,?_⟩;unfold Ac;rw[zc e];exact mD.but ⟨dy,aa⟩ (λe=>by rw[e,ao]at aa;cases aa) hb
    ·intro Db H4 an ap aw av ac az
     rw[iW]at ac
     obtain ⟨ay,q1,q2,q3⟩:=RD (λ_ H r=>mD A H r.1 r.2) (H:=H4) (acc:=an) (ds:=(ls.map (·.2)).map (Ac d)) (by rw[ac,za,za]) λi v hv=>by
      obtain⟨b,l,h1,h2,h3⟩:=az i v hv;exact⟨b,_,by rw[zf,zf,h1];rfl,h2,h3⟩
     exact k Db ay H4 (sm.trans aw) (sm.free ap) (q1▸av) q3 (λ_=>q2) λh=>(h hm).elim
   ·rw[zc (λh=>hm ?_)]
    ·obtain⟨os,ad⟩:∃os:RL,os=ls++[(x,d)]:=⟨_,rfl⟩
     have ai:jt ls++[V.ref x]=jt os:=by rw[ad];unfold jt;rw[zu];rfl
     refine⟨sz,λp hp=>⟨_,iH hp _ _ ag,_,iC,by rw[iW,zq];show ls.length+1<=_;omega,λp1 ax=>?_⟩⟩;rw[ai];have s2:=sm.trans ((iH (o:=.lst [V.ref x]) hp).trans (iH (o:=.lst (jt os)) ax));have h2:(upd (upd H1 p (.lst [V.ref x])) p1 (.lst (jt os))) p1=some (.lst (jt os)):=iC;generalize upd (upd H1 p (.lst [V.ref x])) p1 (.lst (jt os))=H2 at s2 h2
     have hO:kE A H2 os:=λo ho=>by
      rw[ad]at ho;rcases zI.mp ho with ho|ho
      ·exact(hL o ho).same s2
      ·obtain rfl:=zy.mp ho
       exact au.same s2
     have bb:os.length<=59:=by rw[ad,zB,yV];omega
     refine⟨_,iI h2,by rw[iW];omega,kfL H2,λy hy=>?_,λp2 zs H3 s3 hn hz ae ba=>?_⟩
     ·obtain⟨o,ho,rfl⟩:=zj.mp hy
      rw[aik (hO o ho)];refine⟨by simp,λH5 s5 R hR=>⟨o.1,o.2,rfl,(hO o ho).same s5,λt ht=>hR t _ (iH ht) ?_⟩⟩;rw[aik (hO o ho)];exact iC
     ·obtain⟨ar,rfl,aj⟩:=Eh (f:=λr:Addr×jq=>V.ref r.1) ae rfl
      refine k p2 ar H3 (s2.trans s3) (s2.free hn) hz (λr hr=>(hO r (aj.mem_iff.mp hr)).same s3) (λh=>(hm h).elim) λ_=>?_;have:=aj.map (·.2);rw[ad,zu]at this;exact this
    ·obtain⟨b,hb,eb⟩:=yz.mp h
     obtain⟨l0,ah,e0⟩:=zj.mp hb;have eb:b=true:=eb;rw[eb]at e0;exact zj.mpr ⟨l0,ah,z8 e0⟩
def Vv{ns:List Int}{ls ms:RL}{d:jq}(h:Shp ns ls)(hd:1<=d.p)(hn:d.n∈ns)(e1:d.n∈ls.map (·.2.n)->ms.map (·.2)=(ls.map (·.2)).map (Ac d))(e2:d.n∉ls.map (·.2.n)->(ms.map (·.2)).Perm (ls.map (·.2)++[d])):Shp ns ms/\pcs ms=pcs ls+d.p:=by
 have fn:∀l:RL,l.map (·.2.n)=(l.map (·.2)).map jq.n:=λl=>by rw[zx];rfl
 have fp:∀l:RL,pcs l=((l.map (·.2)).map jq.p).sum:=λl=>by unfold pcs;rw[zx];rfl
 by_cases hm:d.n∈ls.map (·.2.n)
 ·have e:=e1 hm
  have ab:ms.map (·.2.n)=ls.map (·.2.n):=by
   rw[fn,fn,e,zx];exact yd λx _=>by show(Ac d x).n=x.n;unfold Ac;split<;>rfl
  refine⟨⟨by rw[ab];exact h.u,λl hl=>?_,λl hl=>?_⟩,?_⟩
  ·have:l.2∈(ls.map (·.2)).map (Ac d):=e▸zj.mpr ⟨l,hl,rfl⟩
   obtain⟨x,hx,e'⟩:=zj.mp this;obtain⟨q,hq,rfl⟩:=zj.mp hx;have:=h.p q hq;rw[<-e'];unfold Ac;split
   ·show 1<=q.2.p+d.p;omega
   ·exact this
  ·have:l.2.n∈ms.map (·.2.n):=zj.mpr ⟨l,hl,rfl⟩
   rw[ab]at this;obtain⟨q,hq,e'⟩:=zj.mp this;exact e'▸h.m q hq
  ·rw[fp,fp,e]
   obtain⟨q,hq,eq⟩:=zj.mp hm;have hu:=h.u;rw[fn]at hu
   have c:=xV (f:=λx=>(Ac d x).p) (g:=jq.p) hu (zj.mpr ⟨q,hq,rfl⟩) λx _ ac=>by
    show(Ac d x).p=x.p;unfold Ac;rw[zc (λz=>ac (z.trans eq.symm))]
   rw[zx];show((ls.map (·.2)).map λx=>(Ac d x).p).sum=_;rw[c];show _ - q.2.p+(Ac d q.2).p=_;unfold Ac;rw[zg eq];show _ - q.2.p+(q.2.p+d.p)=_;omega
 ·have e:=e2 hm
  have aa:=e.map jq.n;rw[zu,<-fn,<-fn]at aa;refine⟨⟨aa.nodup_iff.mpr (yX.mpr ⟨h.u,zP.mpr ⟨zo,.nil⟩,λa ha b hb=>?_⟩),λl hl=>?_,λl hl=>?_⟩,?_⟩
  ·have:b=d.n:=zy.mp hb
   rw[this];exact λz=>hm (z▸ha)
  ·rcases zI.mp (e.mem_iff.mp (zj.mpr ⟨l,hl,rfl⟩))with g|g
   ·obtain⟨q,hq,e'⟩:=zj.mp g
    exact e'▸h.p q hq
   ·rw[zy.mp g];exact hd
  ·rcases zI.mp (e.mem_iff.mp (zj.mpr ⟨l,hl,rfl⟩))with g|g
   ·obtain⟨q,hq,e'⟩:=zj.mp g
    exact e'▸h.m q hq
   ·rw[zy.mp g];exact hn
  ·rw[fp,fp,SJ (e.map jq.p),zu,yH]
   simp
noncomputable def Yh(m o:Int)(ps:List Int)(i:Nat):Int:=(ps.take (i+1)).sum*m/o - (ps.take i).sum*m/o
noncomputable def Yb(m o:Int)(ps:List Int):List Int:=(List.range ps.length).map (Yh m o ps)
def TQ(m o:Int)(ps:List Int):(Yb m o ps).length=ps.length:=by unfold Yb;simp
def Tt{m o:Int}{ps:List Int}{i:Nat}(h:i<ps.length):(Yb m o ps)[i]? =some (Yh m o ps i):=by
 unfold Yb;rw[zf,List.getElem?_range h];rfl
def YM{m o:Int}{ps:List Int}{i:Nat}(h:i<ps.length):(Yb m o ps).take (i+1)=(Yb m o ps).take i++[Yh m o ps i]:=by
 rw[zS,Tt h];rfl
def Ss{ps:List Int}{i:Nat}{p:Int}(h:ps[i]? =some p):(ps.take (i+1)).sum=(ps.take i).sum+p:=by
 rw[zS,h];simp
structure Mo(m o:Int):Prop where
 a:1<=m/\m<=10000000
 b:1<=o/\o<=10000000
def Mo.mul{m o x:Int}(h:Mo m o):Ab x m:=rG (by have:=h.a;omega) (by have:=h.a;omega)
def Mo.div{m o x:Int}(h:Mo m o):Oi x o:=⟨by have:=h.b;omega,yx (show o.natAbs<=10000000 by have:=h.b;omega) (zH (show 10000000<2^24 by decide) (yJ (by decide) (by decide)))⟩
noncomputable def stp(st:List jq×Int)(d:jq)(c:Int):List jq×Int:=if c=0 then(st.1,st.2+d.c)else(st.1++[⟨d.n,d.s,c,d.c+st.2⟩],0)
noncomputable def stI(m o:Int)(ds:List jq):Nat->List jq×Int
 |0=>([],0)
 |i+1=>match ds[i]? with
  |some d=>stp (stI m o ds i) d (Yh m o (ds.map jq.p) i)
  |none=>stI m o ds i
def TV{m o:Int}{ds:List jq}{i:Nat}{d:jq}(h:ds[i]? =some d):stI m o ds (i+1)=stp (stI m o ds i) d (Yh m o (ds.map jq.p) i):=by
 rw[stI,h]
noncomputable def aiG(st:List jq×Int):List jq:=match st.1.getLast? with
 |some d=>st.1.dropLast++[⟨d.n,d.s,d.p,d.c+st.2⟩]
 |none=>[]
def QF(r:List jq)(d:jq)(g:Int):aiG (r++[d],g)=r++[⟨d.n,d.s,d.p,d.c+g⟩]:=by
 unfold aiG;simp
inductive wj(A:Adr)(vs:List V)(H:Hp)(Q:VK)(E:XK):Prop
 |mk (q:Addr) (ls:RL) (m o:Int) (_:vs=[.ref q,.int m,.int o]) (_:H q=some (.lst (jt ls))) (_:kE A H ls) (_:ls.length<=100) (_:Mo m o) (_:∀p H',Same H H'->H p=none->H' p=some (.lst ((Yb m o (ls.map λl=>l.2.p)).map V.int))->Q (.ref p) H'):wj A vs H Q E
def Jv(T:Txt K mg A D):jK P w K mg base CX0 1 A.abZ D.abZ ["lots", "many", "of"] (wj A):=by
 refine T.ad6.F.okv jY λ_ _ _ _ H vs Q E hr h=>?_
 ·obtain⟨q,ls,m,o,rfl,hq,hL,hl,hM,k⟩:=h
  refine ⟨_,(iu (iU (i:=3) jY.nd rfl orl (kZ iw))
   (iu (iU (i:=4) jY.nd rfl orl iz)
   (iu (iU (i:=5) jY.nd rfl orl iz)
   (iu (nQ zO rfl (jM (K:=K) (pv 0)) (iK (i:=6) jY.nd rfl orl)
    (iu (iU (i:=4) jY.nd rfl orl (jb jD (pvD 4) (fv K 6)))
    (iu (iU (i:=7) jY.nd rfl orl (jb oY (jb lN (pvD 4) (pvD 1)) (pvD 2)))
    (iu (jj (tZ (K:=K) zL zQ zR lY (pvD 3) (ir (jb pD (pvD 7) (pvD 5)) iw)))
    (iB (iU (i:=5) jY.nd rfl orl (pvD 7)))))))
   (iB (iR (pvD 3))))))),?_⟩
  simp only[start_eq];walk_at "m";refine⟨sz,λp hp=>?_⟩;have s1:=iH (o:=.lst []) hp;have h1:(upd H p (.lst [])) p=some (.lst []):=iC;generalize upd H p (.lst [])=H1 at s1 h1
  iterate 2 walk_at "m"
  rw[ap_seq,ap_for];walk_at "i";refine⟨⟨_,iI (s1 _ _ hq)⟩,?_⟩;obtain⟨ps,aa⟩:∃ps,(ls.map λl=>l.2.p)=ps:=⟨_,rfl⟩;have ad:ps.length=ls.length:=by rw[<-aa,za]
  rw[aa]at k
  refine Bw.listN (K:=K) (a:=q) (xs:=jt ls) (λi σ H2=>(∃v6 v7,σ=[some (.ref q),some (.int m),some (.int o),some (.ref p),some (.int (ps.take i).sum),some (.int ((ps.take i).sum*m/o)),v6,v7])/\Same H H2/\H2 p=some (.lst (((Yb m o ps).take i).map V.int)))
   ⟨⟨none,none,by simp⟩,s1,h1⟩ (λi σ H2 _ ⟨_,s2,_⟩=>s2.seq (iI hq)) ?_ ?_
  ·rintro i y σ H2 hy ⟨⟨v6,v7,rfl⟩,s2,h2⟩ N hN
   obtain⟨l,z,rfl⟩:=jQ hy;have ae:i<ls.length:=(zp.mp z).1;have ac:ps[i]? =some l.2.p:=by rw[<-aa,zf,z];rfl
   obtain⟨dx,ab⟩:=(hL l (get_mem z)).same s2;walk_at "i";walk_at "m";refine rd ab T.agx T.agA (by rfl) ⟨_,rfl,?_⟩;rw[<-Ss ac];walk_at "m";refine⟨hM.mul,hM.div,?_⟩;walk_at "m";refine⟨.inl ⟨rfl,_,iI h2⟩,_,h2,?_,?_⟩
   ·rw[za,z0,zq];omega
   refine hN _ _ ⟨⟨_,_,rfl⟩,s2.upd hp,?_⟩;rw[iC,YM (by omega),zu];rfl
  ·rintro σ H2 ⟨⟨v6,v7,rfl⟩,s2,h2⟩
   rw[iW,<-ad,<-TQ m o ps,zU]at h2;walk_at "a";exact k p H2 s2 hp h2
theorem Pa{m o:Int}(z:Mo m o){ds:List jq}(h:∀d∈ds,1<=d.p):∀i,i<=ds.length->((stI m o ds i).1.map jq.n).Sublist ((ds.take i).map jq.n)/\(∀d∈(stI m o ds i).1,1<=d.p)/\((stI m o ds i).1.map jq.p).sum=((ds.map jq.p).take i).sum*m/o
 |0,_=>⟨List.nil_sublist _,λd hd=>(zo hd).elim,by simp[stI]⟩
 |i+1,hi=>by
  obtain⟨i1,i2,i3⟩:=Pa z h i (by omega);obtain⟨d,hd⟩:∃d,ds[i]? =some d:=⟨_,zh (by omega)⟩;have ab:=h d (zn hd);have hs:=Ss (ps:=ds.map jq.p) (i:=i) (p:=d.p) (by rw[zf,hd];rfl)
  have hc:0<=Yh m o (ds.map jq.p) i:=by
   unfold Yh;have:(((ds.map jq.p).take i).sum*m)/o<=(((ds.map jq.p).take (i+1)).sum*m)/o:=Int.ediv_le_ediv (by have:=z.b;omega) (Int.mul_le_mul_of_nonneg_right (by omega) (by have:=z.a;omega));omega
  have aa:((ds.map jq.p).take (i+1)).sum*m/o=((ds.map jq.p).take i).sum*m/o+Yh m o (ds.map jq.p) i:=by unfold Yh;omega
  rw[TV hd,aa,<-i3];have ht:ds.take (i+1)=ds.take i++[d]:=by rw[zS,hd];rfl
  generalize Yh m o (ds.map jq.p) i=c at hc;rw[ht,zu];unfold stp;split
  ·next e=>exact⟨i1.trans (y9 _ _),i2,by rw[e,zW]⟩
  ·next e=>
   refine⟨?_,λx q=>?_,?_⟩
   ·show(((stI m o ds i).1++[_]).map jq.n).Sublist _
    rw[zu];exact i1.append (yY _)
   ·rcases zI.mp q with q|q
    ·exact i2 x q
    ·rw[zy.mp q]
     show 1<=c;omega
   ·show(((stI m o ds i).1++[_]).map jq.p).sum=_
    rw[zu,yH];simp
def XR(r:List jq)(g:Int):(aiG (r,g)).map jq.n=r.map jq.n/\(aiG (r,g)).map jq.p=r.map jq.p:=by
 rcases List.eq_nil_or_concat r with rfl|⟨q,z,rfl⟩
 ·exact⟨rfl,rfl⟩
 ·rw[List.concat_eq_append,QF]
  exact⟨by simp,by simp⟩
def Rr{m o:Int}(hM:Mo m o){ns:List Int}{ls:RL}(hS:Shp ns ls)(hw:1<=pcs ls*m/o):(stI m o (ls.map (·.2)) ls.length).1≠[]/\∀{z:RL},z.map (·.2)=aiG (stI m o (ls.map (·.2)) ls.length)->Shp ns z/\pcs z=pcs ls*m/o:=by
 have fn:∀l:RL,l.map (·.2.n)=(l.map (·.2)).map jq.n:=λl=>by rw[zx];rfl
 have fp:∀l:RL,pcs l=((l.map (·.2)).map jq.p).sum:=λl=>by unfold pcs;rw[zx];rfl
 obtain⟨a,b,c⟩:=Pa hM (ds:=ls.map (·.2)) (λd hd=>by obtain⟨l,hl,rfl⟩:=zj.mp hd;exact hS.p l hl) ls.length (by rw[za];omega);rw[z3 (by rw[za];omega)]at a;rw[z3 (by rw[za,za];omega),<-fp]at c;generalize stI m o (ls.map (·.2)) ls.length=st at a b c;obtain⟨r,g⟩:=st;refine⟨λe=>?_,fun{z} e=>?_⟩
 ·have e:r=[]:=e
  subst e;have c:(0:Int)=_:=c;omega
 ·obtain⟨f1,f2⟩:=XR r g
  have hn:z.map (·.2.n)=r.map jq.n:=by rw[fn,e,f1]
  have hp:(z.map (·.2)).map jq.p=r.map jq.p:=by rw[e,f2]
  refine⟨⟨by rw[hn];exact zzL a (fn ls▸hS.u),λl hl=>?_,λl hl=>?_⟩,by rw[fp,hp];exact c⟩
  ·have:l.2.p∈(z.map (·.2)).map jq.p:=zj.mpr ⟨l.2,zj.mpr ⟨l,hl,rfl⟩,rfl⟩
   rw[hp]at this;obtain⟨x,hx,e'⟩:=zj.mp this;exact e'▸b x hx
  ·have:l.2.n∈z.map (·.2.n):=zj.mpr ⟨l,hl,rfl⟩
   rw[hn]at this;have:=a.subset this;rw[<-fn]at this;obtain⟨q,hq,e'⟩:=zj.mp this;exact e'▸hS.m q hq
inductive Gb(A:Adr)(vs:List V)(H:Hp)(Q:VK)(E:XK):Prop
 |mk (q:Addr) (ls:RL) (m o:Int) (ns:List Int) (_:vs=[.ref q,.int m,.int o]) (_:H q=some (.lst (jt ls))) (_:kE A H ls) (_:ls.length<=100) (_:Mo m o) (_:Shp ns ls) (_:(ls=[]\/1<=pcs ls*m/o)) (_:∀l l' H',Same H H'->H l=none->H' l=some (.lst (jt l'))->kE A H' l'->Shp ns l'->pcs l'=pcs ls*m/o->Q (.ref l) H'):Gb A vs H Q E
def NP(T:Txt K mg A D):jK P w K mg base CX0 4 A.ab0 D.ab0 ["lots", "many", "of"] (Gb A):=by
 refine T.ad7.F.okv lR λ_ _ _ _ H vs Q E hr h=>?_
 ·obtain⟨q,ls,m,o,ns,rfl,hq,hL,hl,hM,hS,hw,kk⟩:=h
  refine ⟨_,(iu (jT (iY (mU) (jm (mG (K:=K)) (by rfl) T.aeY (by decide+kernel) (pav 0 iw)) iz (jf _)) (iB (iR (kZ iw))) jo)
   (iu (iU (i:=3) lR.nd rfl orl (kZ iw))
   (iu (iU (i:=4) lR.nd rfl orl iz)
   (iu (nQ zO rfl (Le (K:=K) (by rfl) T.ae1 (pav 0 (ir (pcg (Jv T) hr T.ad6 (Kh T) (pav 0 (pav 1 (pav 2 iw)))) iw))) (mZ (K:=K) (n:=2) rfl (jk (iK (i:=5) lR.nd rfl orl) (jk (iK (i:=6) lR.nd rfl orl) mX)))
    (iB (jT (iY (mU) (pvD 6) iz (jf _)) (iB (iU (i:=4) lR.nd rfl orl (jb jD (pvD 4) (fv K 5)))) (iu (jj (tZ (K:=K) zL zQ zR lY (pvD 3) (ir (lK T.agZ (jR (K:=K) T) (hr.mono (by decide)) (by rfl) T.afm (jX T) .nil jC (ir (fv K 5) (ir (fv K 5) (pav 6 (ir (jb jD (fv K 5) (pvD 4)) iw))))) iw)))
     (iB (iU (i:=4) lR.nd rfl orl iz))))))
   (iu (jT (iY (mU) (jm (mG (K:=K)) (by rfl) T.aeY (by decide+kernel) (pav 3 iw)) iz (jf _)) (iB (mC)) jo)
   (iu (iU (i:=7) lR.nd rfl orl (JW (K:=K) zL PySem.F.slot_list_pop PySem.F.type_list_pop aks (pvD 3)))
   (iu (jj (tZ (K:=K) zL zQ zR lY (pvD 3) (ir (jx (pv 7) (mc T.agx T.ag7 (uV T) hr (wB T) .nil) jC (ir iz (pav 4 iw))) iw)))
   (iB (iR (pvD 3)))))))))),?_⟩
  simp only[start_eq];walk_at "m";refine⟨_,.inl (iI hq),?_⟩;rw[iW];by_cases h0:ls=[]
  ·subst h0
   rw[zg (by simp)];exact⟨sz,λp hp=>kk p [] _ (iH hp) hp iC (λr h=>(zo h).elim) .nil (by unfold pcs;simp)⟩
  ·have bh:0<ls.length:=yj.mpr h0
   have hw:1<=pcs ls*m/o:=hw.resolve_left h0;obtain⟨ar,aq⟩:=Rr hM hS hw;have k:∀l l' H',Same H H'->H l=none->H' l=some (.lst (jt l'))->kE A H' l'->l'.map (·.2)=aiG (stI m o (ls.map (·.2)) ls.length)->Q (.ref l) H':=λl l' H' a b c d e=>kk l l' H' a b c d (aq e).1 (aq e).2;rw[zc (by omega)];walk_at "m";refine⟨sz,λpr ac=>?_⟩;have s1:=iH (o:=.lst []) ac;have h1:(upd H pr (.lst [])) pr=some (.lst []):=iC;generalize upd H pr (.lst [])=H1 at s1 h1;walk_at "m";rw[ap_seq,ap_for];walk_at "i";have ep:(ls.map λl=>l.2.p)=(ls.map (·.2)).map jq.p:=by rw[zx];rfl
   obtain⟨ds,an⟩:∃ds,ls.map (·.2)=ds:=⟨_,rfl⟩;have bc:ds.length=ls.length:=by rw[<-an,za]
   rw[an]at ep k ar;refine⟨q,ls,m,o,rfl,s1 _ _ hq,hL.same s1,hl,hM,λpc H2 s2 ae am=>⟨pc,rfl,⟨_,iI (s2 _ _ (s1 _ _ hq))⟩,⟨_,iI am⟩,?_⟩⟩;rw[ep]at am;have S2:=s1.trans s2;have ay:pr≠pc:=λe=>by rw[<-e,h1]at ae;cases ae
   have af:(jt ls).length=((Yb m o (ds.map jq.p)).map V.int).length:=by rw[iW,za,TQ,za,bc]
   refine Bw.zipN (K:=K) (a:=q) (b:=pc) (xs:=jt ls) (ys:=(Yb m o (ds.map jq.p)).map V.int) (λi σ H3=>∃(r:RL)(v5 v6 v7:Option V),σ=[some (.ref q),some (.int m),some (.int o),some (.ref pr),some (.int (stI m o ds i).2),v5,v6,v7]/\Same H H3/\H3 pr=some (.lst (jt r))/\H3 pc=some (.lst ((Yb m o (ds.map jq.p)).map V.int))/\kE A H3 r/\r.map (·.2)=(stI m o ds i).1/\r.length<=i) af
    ⟨[],none,none,none,rfl,S2,s2 _ _ h1,am,λr h=>(zo h).elim,rfl,zJ _⟩ (λi σ H3 _ ⟨_,_,_,_,_,s3,_,h3,_⟩=>⟨s3.seq (iI hq),iI h3⟩) ?_ ?_
   ·rintro i x y σ H3 pt hx hy ⟨r,v5,v6,v7,rfl,s3,h3,ap,ad,aa,ai⟩ be N hN
    obtain⟨l,ak,rfl⟩:=jQ hx;obtain⟨c,rfl,ax⟩:=En hy;have bl:i<ls.length:=(zp.mp ak).1;have bf:ds[i]? =some l.2:=by rw[<-an,zf,ak];rfl
    rw[Tt (by rw[za];omega)]at ax;obtain rfl:=zw ax;obtain⟨dx,bd⟩:=(hL l (get_mem ak)).same s3;have aw:=TV (m:=m) (o:=o) bf;generalize bi:Yh m o (ds.map jq.p) i=c at aw;rw[aw]at hN;generalize stI m o ds i=st0 at aa hN⊢;obtain⟨r0,g0⟩:=st0;have aa:r.map (·.2)=r0:=aa
    try dsimp only
    have n4:=iH (o:=.tup [V.ref l.1,V.int c]) be;have as:(upd H3 pt (.tup [V.ref l.1,V.int c])) pt=some (.tup [V.ref l.1,V.int c]):=iC;have S4:=s3.trans n4;have h4:=n4 _ _ h3;have ag:=n4 _ _ ap;have ah:=ad.same n4;have ab:=n4 _ _ bd;generalize upd H3 pt (.tup [V.ref l.1,V.int c])=H4 at S4 h4 ag ah ab as;walk_at "i";refine⟨_,jG as,rfl,_,_,rfl,_,_,rfl,rfl,?_⟩;unfold stp at hN;by_cases ao:c=0
    ·subst ao
     rw[zg rfl]at hN;refine⟨rfl,?_⟩;rw[zg rfl];exact rd ab T.agx T.agB (by rfl) ⟨_,rfl,hN _ _ ⟨r,_,_,_,rfl,S4,h4,ag,ah,aa,by omega⟩⟩
    ·rw[zc ao]at hN
     refine⟨rfl,?_⟩;rw[zc (by simpa using ao)];walk_at "m";refine⟨.inl ⟨rfl,_,iI h4⟩,rd ab T.agx T.agy (by rfl) (rd ab T.agx T.agz (by rfl) (rd ab T.agx T.agB (by rfl) ⟨_,rfl,λz dz hz bg _=>?_⟩))⟩;refine qe (A:=A) ⟨l.2.n,l.2.s,c,l.2.c+g0⟩ hz bg λH5 s5 hZ=>?_;have h5:=s5 _ _ h4;refine⟨_,h5,by rw[iW,zq];omega,?_⟩;refine hN _ _ ⟨r++[(z,⟨l.2.n,l.2.s,c,l.2.c+g0⟩)],_,_,_,rfl,(S4.trans s5).upd ac,?_,(iQ ay.symm).trans (s5 _ _ ag),λx hx=>?_,by rw[zu,aa];rfl,by rw[zB];show r.length+1<=_;omega⟩
     ·rw[iC];unfold jt;rw[zu];rfl
     ·have hx':mD A H5 x.1 x.2:=by
       rcases zI.mp hx with hx|hx
       ·exact(ah x hx).same s5
       ·obtain rfl:=zy.mp hx
        exact hZ
      obtain⟨al,e⟩:=hx';exact⟨al,(iQ λz=>by rw[z,h5]at e;cases e).trans e⟩
   ·rintro σ H3 ⟨r,v5,v6,v7,rfl,s3,h3,ap,ad,aa,ai⟩
    rw[iW]at aa ai⊢;walk_at "m";refine⟨_,.inl (iI h3),?_⟩;rw[iW];have e:r≠[]:=λz=>ar (by rw[z]at aa;exact aa.symm);have bj:0<r.length:=yj.mpr e;rw[zc (by omega)];obtain⟨r',z,rfl⟩:∃r' z,r=r'++[z]:=⟨_,_,(List.dropLast_concat_getLast e).symm⟩;generalize stI m o ds ls.length=az at aa k;obtain⟨st,g⟩:=az;have aa:(r'++[z]).map (·.2)=st:=aa;subst aa;rw[zu]at k
    try dsimp only
    have ba:∃dz,H3 z.1=some (.ins A.acY dz z.2.fs):=ad z (zG _ zk);obtain⟨dz,hz⟩:=ba;walk_at "m";refine⟨.inl ⟨rfl,_,iI h3⟩,pr,_,.ref z.1,rfl,rfl,h3,?_,?_⟩
    ·unfold jt;simp
    have bb:(jt (r'++[z])).dropLast=jt r':=by unfold jt;simp
    rw[bb];have h5:(upd H3 pr (.lst (jt r'))) pr=some (.lst (jt r')):=iC;have S5:=s3.upd (o:=.lst (jt r')) ac;have au:∀{b:Addr}{u:HO},H3 b=some u->(∀xs,u≠.lst xs)->b≠pr:=λe n z=>by rw[z,h3]at e;exact n _ (zw e).symm
    have aj:(upd H3 pr (.lst (jt r'))) z.1=some (.ins A.acY dz z.2.fs):=(iQ (au hz λ_ z=>by cases z)).trans hz
    have av:kE A (upd H3 pr (.lst (jt r'))) r':=λx hx=>by
     obtain⟨dx,e⟩:=ad x (yI _ hx);exact⟨dx,(iQ (au e λ_ z=>by cases z)).trans e⟩
    generalize upd H3 pr (.lst (jt r'))=H5 at h5 S5 aj av
    try dsimp only
    walk_at "m";refine⟨.inl ⟨rfl,_,iI h5⟩,md aj zk (by rfl) ⟨z.1,z.2,0,g,rfl,⟨dz,aj⟩,λy H6 s6 bk hY=>?_⟩⟩;have h6:=s6 _ _ h5;have bm:r'.length<101:=by rw[zB]at ai;omega
    refine⟨_,h6,by rw[iW,zq];omega,k pr (r'++[(y,⟨z.2.n,z.2.s,z.2.p+0,z.2.c+g⟩)]) _ ((S5.trans s6).upd ac) ac ?_ (λx hx=>?_) ?_⟩
    ·rw[iC];unfold jt;rw[zu];rfl
    ·have hx':mD A H6 x.1 x.2:=by
      rcases zI.mp hx with hx|hx
      ·exact(av x hx).same s6
      ·obtain rfl:=zy.mp hx
       exact hY
     obtain⟨al,e⟩:=hx';exact⟨al,(iQ λz=>by rw[z,h6]at e;cases e).trans e⟩
    ·rw[zu]
     show _=aiG (r'.map (·.2)++[z.2],g);rw[QF,zW];rfl
noncomputable def prt(sh wh:Int)(d:jq):jq:=⟨d.n,d.s,d.p,d.c*sh/wh⟩
noncomputable def rst(sh wh:Int)(d:jq):jq:=⟨d.n,d.s,d.p,d.c - d.c*sh/wh⟩
structure Shr(sh wh:Int):Prop where
 a:0<=sh/\sh<=10000000
 b:1<=wh/\wh<=10000000
def Shr.mul{q z c:Int}(h:Shr q z):Ab c q:=rG (by have:=h.a;omega) (by have:=h.a;omega)
def Shr.div{z q:Int}(h:Shr z q):Oi 0 q:=⟨by have:=h.b;omega,yx (show q.natAbs<=10000000 by have:=h.b;omega) (zH (show 10000000<2^24 by decide) (yJ (by decide) (by decide)))⟩
inductive Du(A:Adr)(vs:List V)(H:Hp)(Q:VK)(E:XK):Prop
 |mk (q:Addr) (ls:RL) (sh wh:Int) (_:vs=[.ref q,.int sh,.int wh]) (_:H q=some (.lst (jt ls))) (_:kE A H ls) (_:ls.length<=100) (_:Shr sh wh) (_:∀t q1 q2 l1 l2 H',Same H H'->H q1=none->H q2=none->q1≠q2->H' t=some (.tup [.ref q1,.ref q2])->H' q1=some (.lst (jt l1))->H' q2=some (.lst (jt l2))->kE A H' l1->kE A H' l2->l1.map (·.2)=(ls.map (·.2)).map (rst sh wh)->l2.map (·.2)=(ls.map (·.2)).map (prt sh wh)->Q (.ref t) H'):Du A vs H Q E
def MT(T:Txt K mg A D):jK P w K mg base CX0 3 A.ab2 D.ab2 ["lots", "share", "whole"] (Du A):=by
 refine T.ad9.F.okv qb λ_ _ _ _ H vs Q E hr h=>?_
 ·obtain⟨q,ls,sh,wh,rfl,hq,hL,hl,hW,k⟩:=h
  refine ⟨_,(iu (oO (i:=3) qb.nd rfl rfl (cap:=[none,some 1,some 2]) (N':=["lot", "share", "whole"]) rfl (by walk_at "c") (jM (K:=K) (pv 0)) (λ_ _ _ _=>(iK (i:=0) (show(["lot", "share", "whole"]:List Str).Nodup from by decide+kernel) rfl orl orr)) (λ_ _ _ _=>jN) (λ_ _ _ _=>(pcg (Fd T) hr T.adO (Iw T) (ir (fv K 0) (pav 1 (pav 2 iw))))))
   (iu (oO (i:=4) qb.nd rfl rfl (cap:=[none,none]) (N':=["lot", "part"]) rfl (by walk_at "c") (Le (K:=K) (by rfl) T.ae1 (pav 0 (pav 3 iw))) (λ_ _ _ _=>(mZ (K:=K) (n:=2) rfl (jk (iK (i:=0) (show(["lot", "part"]:List Str).Nodup from by decide+kernel) rfl orl orr) (jk (iK (i:=1) (show(["lot", "part"]:List Str).Nodup from by decide+kernel) rfl orl orr) mX)))) (λ_ _ _ _=>jN) (λ_ _ _ _=>(lK T.agZ (jR (K:=K) T) (hr.mono (by decide)) (by rfl) T.afm (jX T) .nil jC (ir (fv K 0) (ir (fv K 0) (ir (fv K 0) (ir (jb pD (fv K 0) (pvD 1)) iw)))))))
   (iu (oO (i:=5) qb.nd rfl rfl (cap:=[none,none]) (N':=["lot", "part"]) rfl (by walk_at "c") (Le (K:=K) (by rfl) T.ae1 (pav 0 (pav 3 iw))) (λ_ _ _ _=>(mZ (K:=K) (n:=2) rfl (jk (iK (i:=0) (show(["lot", "part"]:List Str).Nodup from by decide+kernel) rfl orl orr) (jk (iK (i:=1) (show(["lot", "part"]:List Str).Nodup from by decide+kernel) rfl orl orr) mX)))) (λ_ _ _ _=>jN) (λ_ _ _ _=>(lK T.agZ (jR (K:=K) T) (hr.mono (by decide)) (by rfl) T.afm (jX T) .nil jC (ir (fv K 0) (ir (fv K 0) (ir (fv K 0) (pav 1 iw)))))))
   (iB (iR (mj (pav 4 (pav 5 iw)))))))),?_⟩
  simp only[start_eq];walk_at "m";refine⟨⟨_,iI hq⟩,?_⟩;refine lq.listE (K:=K) (λσ=>∃a,σ=[a,some (.int sh),some (.int wh)]) (λi v _=>∃l,ls[i]? =some l/\v=.int (l.2.c*sh/wh)) (iI hq) ⟨_,rfl⟩ (by rw[iW,zq];omega) ?_ ?_
  ·rintro Da i x hx σ H5 R ⟨_,rfl⟩ sm hD _ kk
   obtain⟨l,ab,rfl⟩:=jQ hx;obtain⟨dx,aa⟩:=(hL l (get_mem ab)).same sm;walk_at "i";exact rd aa T.agx T.agB (by rfl) ⟨_,_,_,rfl,hW.mul,hW.div,kk _ _ H5 ⟨_,rfl⟩ (same_refl _) λH' _=>⟨l,ab,rfl⟩⟩
  ·intro Da H1 acc hD s1 hA al hF
   rw[Dt (f:=λl=>l.2.c*sh/wh) (by rw[al,iW]) hF]at hA;walk_at "m";refine⟨⟨_,iI (s1 _ _ hq)⟩,⟨_,iI hA⟩,?_⟩;refine lq.zipE (K:=K) (λσ=>∃a b,σ=[a,b]) (λi v H'=>∃b l,ls[i]? =some l/\v=.ref b/\mD A H' b (rst sh wh l.2)) (iI (s1 _ _ hq)) (iI hA) (by rw[iW,za,za]) ⟨_,_,rfl⟩ (by rw[iW,zq];omega) ?_ ?_
   ·rintro Db i x y hx hy σ H5 p R ⟨_,_,rfl⟩ ah ao ⟨aiM,ak⟩ hp kk
    obtain⟨l,ab,rfl⟩:=jQ hx;obtain⟨c,rfl,hc⟩:=En hy;rw[zf,ab]at hc;obtain rfl:=zw hc;obtain⟨dx,aa⟩:=(hL l (get_mem ab)).same (s1.trans ah);have aa:=iH (o:=.tup [V.ref l.1,V.int (l.2.c*sh/wh)]) hp _ _ aa;have af:(upd H5 p (.tup [V.ref l.1,V.int (l.2.c*sh/wh)])) p=some (.tup [V.ref l.1,V.int (l.2.c*sh/wh)]):=iC;have ac:=iH (o:=.tup [V.ref l.1,V.int (l.2.c*sh/wh)]) hp _ _ ak;generalize upd H5 p (.tup [V.ref l.1,V.int (l.2.c*sh/wh)])=H6 at aa af ac kk;walk_at "i";refine⟨_,jG af,rfl,_,_,rfl,_,_,rfl,rfl,?_⟩;refine rd aa T.agx T.agy (by rfl) (rd aa T.agx T.agz (by rfl) (rd aa T.agx T.agA (by rfl) (rd aa T.agx T.agB (by rfl) ⟨_,rfl,_,rfl,λz dz hz ai _=>?_⟩)));refine qe (A:=A) (rst sh wh l.2) hz ai λH7 s7 hZ=>kk (.ref z) _ H7 ⟨_,_,rfl⟩ s7 λH' hb=>⟨z,l,ab,rfl,hZ.but (λe=>by rw[e,ac]at hz;cases hz) hb⟩
   ·intro Db H2 am ao s2 aj ad aq
    rw[iW]at ad
    obtain ⟨l1,q1,q2,q3⟩:=RD (λ_ H r=>mD A H r.1 r.2) (H:=H2) (acc:=am) (ds:=(ls.map (·.2)).map (rst sh wh)) (by rw[ad,za,za]) λi v hv=>by
     obtain⟨b,l,h1,h3,h4⟩:=aq i v hv;refine⟨b,_,?_,h3,h4⟩;rw[zf,zf,h1];rfl
    subst q1;have S2:=s1.trans s2;walk_at "m";refine⟨⟨_,iI (S2 _ _ hq)⟩,⟨_,iI (s2 _ _ hA)⟩,?_⟩;refine lq.zipE (K:=K) (λσ=>∃a b,σ=[a,b]) (λi v H'=>∃b l,ls[i]? =some l/\v=.ref b/\mD A H' b (prt sh wh l.2)) (iI (S2 _ _ hq)) (iI (s2 _ _ hA)) (by rw[iW,za,za]) ⟨_,_,rfl⟩ (by rw[iW,zq];omega) ?_ ?_
    ·rintro Dc i x y hx hy σ H5 p R ⟨_,_,rfl⟩ ah ag ⟨aiM,ak⟩ hp kk
     obtain⟨l,ab,rfl⟩:=jQ hx;obtain⟨c,rfl,hc⟩:=En hy;rw[zf,ab]at hc;obtain rfl:=zw hc;obtain⟨dx,aa⟩:=(hL l (get_mem ab)).same (S2.trans ah);have aa:=iH (o:=.tup [V.ref l.1,V.int (l.2.c*sh/wh)]) hp _ _ aa;have af:(upd H5 p (.tup [V.ref l.1,V.int (l.2.c*sh/wh)])) p=some (.tup [V.ref l.1,V.int (l.2.c*sh/wh)]):=iC;have ac:=iH (o:=.tup [V.ref l.1,V.int (l.2.c*sh/wh)]) hp _ _ ak;generalize upd H5 p (.tup [V.ref l.1,V.int (l.2.c*sh/wh)])=H6 at aa af ac kk;walk_at "i";refine⟨_,jG af,rfl,_,_,rfl,_,_,rfl,rfl,?_⟩;refine rd aa T.agx T.agy (by rfl) (rd aa T.agx T.agz (by rfl) (rd aa T.agx T.agA (by rfl) (λz dz hz ai _=>?_)));refine qe (A:=A) (prt sh wh l.2) hz ai λH7 s7 hZ=>kk (.ref z) _ H7 ⟨_,_,rfl⟩ s7 λH' hb=>⟨z,l,ab,rfl,hZ.but (λe=>by rw[e,ac]at hz;cases hz) hb⟩
    ·intro Dc H3 an ag s3 ap ae ar
     rw[iW]at ae
     obtain ⟨l2,p1,p2,p3⟩:=RD (λ_ H r=>mD A H r.1 r.2) (H:=H3) (acc:=an) (ds:=(ls.map (·.2)).map (prt sh wh)) (by rw[ae,za,za]) λi v hv=>by
      obtain⟨b,l,h1,h3,h4⟩:=ar i v hv;refine⟨b,_,?_,h3,h4⟩;rw[zf,zf,h1];rfl
     subst p1;have S3:=S2.trans s3;refine⟨sz,λt ht=>?_⟩;have st:=iH (o:=.tup [V.ref Db,V.ref Dc]) ht;exact k t Db Dc l1 l2 _ (S3.trans st) (s1.free ao) (S2.free ag) (λe=>by rw[e]at aj;rw[aj]at ag;cases ag) iC (st _ _ (s3 _ _ aj)) (st _ _ ap) ((kE.same q3 s3).same st) (kE.same p3 st) q2 p2
def Ye{f:jq->jq}(hf:∀d,(f d).n=d.n/\(f d).p=d.p){ls z:RL}(h:z.map (·.2)=(ls.map (·.2)).map f):Sim ls z:=by
 have q:∀l:RL,l.map Vr=(l.map (·.2)).map λd=>(d.n,d.p):=λl=>by rw[zx];rfl
 unfold Sim;rw[q,q,h,zx];refine yd λd _=>?_;obtain⟨a,b⟩:=hf d;show((f d).n,(f d).p)=_;rw[a,b]
structure Va(kvs:List (Key×V)):Prop where
 k:∀kv∈kvs,∃(z:Str)(i:Int),kv=(Sum.inr z,.int i)/\1<=i
 u:(kvs.map (·.1)).Nodup
def Va.val{kvs:List (Key×V)}(h:Va kvs)(z:Str):pF kvs (Sum.inr z)=if 0<jA kvs z then some (.int (jA kvs z))else none:=by
 unfold jA
 cases e:pF kvs (Sum.inr z)with
 |none=>rfl
 |some v=>
  obtain⟨y,i,q,hi⟩:=h.k _ (Eg e);cases q;rw[zg (show(0:Int)<i by omega)]
def Va.nn{kvs:List (Key×V)}(h:Va kvs)(z:Str):0<=jA kvs z:=by
 have:=h.val z;by_cases e:0<jA kvs z
 ·omega
 ·rw[zc e]at this
  unfold jA;rw[this];exact zzQ _
def DR{kvs:List (Key×V)}(h:Va kvs)(z:Str):(pF kvs (Sum.inr z)).getD (.int 0)=.int (jA kvs z):=by
 rw[h.val z];have:=h.nn z;split
 ·rfl
 ·show V.int 0=V.int (jA kvs z)
  congr 1;omega
noncomputable def posK(kv:Key×V):Bool:=match kv.2 with
 |.int i=>decide (0<i)
 |_=>false
def aiy(kvs:List (Key×V))(k:Key)(v:V):(putK kvs k v).length<=kvs.length+1:=by
 unfold putK;split
 ·rw[za];omega
 ·rw[zB];exact zm _
noncomputable def Gv(kvs:List (Key×V))(z:Str)(n:Int):List (Key×V):=(putK kvs (Sum.inr z) (.int n)).filter posK
def XF{kvs:List (Key×V)}(h:Va kvs)(z:Str)(n:Int):Va (Gv kvs z n):=by
 refine⟨λkv q=>?_,zzL (List.filter_sublist.map _) (Qt h.u)⟩;obtain⟨h1,h2⟩:=yB.mp q;rcases RM h1 with rfl|h1
 ·have h2:decide (0<n)=true:=h2
  exact⟨z,n,rfl,by have:=z8 h2;omega⟩
 ·exact h.k kv h1
theorem MJ:∀(ps:List (Key×V))(acc:List (Key×V)),((acc++ps).map (·.1)).Nodup->ps.foldl (λa p=>putK a p.1 p.2) acc=acc++ps
 |[],acc,_=>by rw[yn];rfl
 |p::ps,acc,hu=>by
  have q:pF acc p.1=none:=by
   cases h:pF acc p.1 with
   |none=>rfl
   |some v=>
    rw[zu,zi]at hu;exact absurd rfl ((yX.mp hu).2.2 p.1 (zj.mpr ⟨(p.1,v),Eg h,rfl⟩) p.1 zk)
  rw[zza]
  have e:putK acc p.1 p.2=acc++[p]:=by
   unfold putK;rw[zc (by rw[ph,q];simp)]
  rw[e,MJ ps (acc++[p]) (by rw[zzk];exact hu),zzk];rfl
noncomputable def vK:V->Key
 |.str z=>Sum.inr z
 |.int i=>Sum.inl i
 |_=>Sum.inl 0
def alx(k:Key):vK (kV k)=k:=by cases k<;>rfl
noncomputable def kfD(H:Hp):V->Key
 |.ref b=>match H b with
  |some (.tup [x,_])=>vK x
  |_=>Sum.inl 0
 |_=>Sum.inl 0
noncomputable def vfD(H:Hp):V->V
 |.ref b=>match H b with
  |some (.tup [_,y])=>y
  |_=> .non
 |_=> .non
def Wd{H:Hp}{b:Addr}{q:Key×V}(h:H b=some (.tup [kV q.1,q.2])):kfD H (.ref b)=q.1:=by
 unfold kfD
 try dsimp only
 rw[h];exact alx _
def WT{H:Hp}{b:Addr}{q:Key×V}(h:H b=some (.tup [kV q.1,q.2])):vfD H (.ref b)=q.2:=by
 unfold vfD
 try dsimp only
 rw[h]
def XD{H:Hp}{ps:List (Key×V)}{acc:List V}(hl:acc.length=ps.length)(h:∀(i:Nat) v,acc[i]? =some v->∃q,ps[i]? =some q/\∃b,v=.ref b/\H b=some (.tup [kV q.1,q.2]))(hu:(ps.map (·.1)).Nodup):Mf (kfD H) (vfD H) acc=ps:=by
 have e:acc.map (λy=>(kfD H y,vfD H y))=ps:=by
  refine zzl λi=>?_;rw[zf];by_cases hi:i<acc.length
  ·obtain⟨q,h1,b,h2,z⟩:=h i _ (zh hi)
   rw[zh hi,h2,h1];show some (kfD H (.ref b),vfD H (.ref b))=some q;rw[Wd z,WT z]
  ·rw[z5 (by omega),z5 (by omega)]
   rfl
 have:=MJ (acc.map λy=>(kfD H y,vfD H y)) [] (by rw[zzb,e];exact hu);rw[List.foldl_map,zzb]at this;unfold Mf;rw[this,e]
inductive wO(vs:List V)(H:Hp)(Q:VK)(E:XK):Prop
 |mk (a:Addr) (kvs:List (Key×V)) (z:Str) (n:Int) (_:vs=[.ref a,.str z,.int n]) (_:Rd H a (.dK kvs)) (_:Va kvs) (_:kvs.length<=100) (_:∀p H',Same H H'->H p=none->H' p=some (.dK (Gv kvs z n))->Q (.ref p) H'):wO vs H Q E
def wG(T:Txt K mg A D):jK P w K mg base CX0 1 A.ab5 D.ab5 ["held", "ware", "pieces"] (wO):=by
 refine T.aec.F.okv Fv λ_ _ _ _ H vs Q E hr h=>?_
 ·obtain⟨a,kvs,z,n,rfl,ha,hH,hl,k⟩:=h
  refine ⟨_,(iu (iU (i:=3) Fv.nd rfl orl (nu Jp (by rfl) T.ae4 (by decide+kernel) (pav 0 iw)))
   (iu (uE (oV hr) (pvD 3) (pvD 1) (pvD 2) rfl)
   (iB (iR (nu (qm (K:=K) rfl) (by rfl) T.ae4 (by decide+kernel) (ir (jW (cap:=[none,none]) (N':=["name", "count"]) rfl (by walk_at "c") (Th (JW (K:=K) yg zzf PySem.F.type_dict_items Uj (pvD 3))) (λ_ _ _ _=>(mZ (K:=K) (n:=2) rfl (jk (iK (i:=0) (show(["name", "count"]:List Str).Nodup from by decide+kernel) rfl orl orr) (jk (iK (i:=1) (show(["name", "count"]:List Str).Nodup from by decide+kernel) rfl orl orr) mX)))) (λ_ _ _ _=>(HW (iY (Ku) (pvD 1) iz (jf _)))) (λ_ _ _ _=>(mj (pav 0 (pav 1 iw))))) iw)))))),?_⟩
  simp only[start_eq];walk_at "m";refine⟨_,ha,λq ab=>?_⟩;have n1:=iH (o:=.dK kvs) ab;have h1:(upd H q (.dK kvs)) q=some (.dK kvs):=iC;generalize upd H q (.dK kvs)=H1 at n1 h1;walk_at "m";obtain⟨P,hP⟩:∃P,putK kvs (Sum.inr z) (.int n)=P:=⟨_,rfl⟩;have ag:P.length<=101:=by rw[<-hP];have:=aiy kvs (Sum.inr z) (.int n);omega
  have ae:∀kv∈P,∃(y:Str)(i:Int),kv=(Sum.inr y,.int i):=λkv aa=>by
   rw[<-hP]at aa;rcases RM aa with rfl|h0
   ·exact⟨z,n,rfl⟩
   ·obtain⟨y,i,e,_⟩:=hH.k kv h0
    exact⟨y,i,e⟩
  refine⟨_,vm (k:=Sum.inr z) h1 (by rw[zq];omega),?_⟩;rw[hP];have s2:Same H (upd H1 q (.dK P)):=n1.upd ab;have h2:(upd H1 q (.dK P)) q=some (.dK P):=iC;generalize upd H1 q (.dK P)=H2 at s2 h2;refine⟨.inr (.inr (.inl ⟨rfl,.inl ⟨_,h2⟩⟩)),_,h2,λv hv=>⟨q,iC,P,?_,λo=>?_⟩⟩
  ·exact(iQ (jE h2 hv)).trans h2
  have s3:Same H (upd (upd H2 v (Gy v q)) q (.frz o (.dK P))):=(s2.trans (iH hv)).upd ab;have h3:(upd (upd H2 v (Gy v q)) q (.frz o (.dK P))) q=some (.frz o (.dK P)):=iC;generalize upd (upd H2 v (Gy v q)) q (.frz o (.dK P))=H3 at s3 h3;refine lq.itemsF (λσ=>∃a b,σ=[a,b]) posK (λkv v H'=>∃b,v=.ref b/\H' b=some (.tup [kV kv.1,kv.2])) h3 ⟨_,_,rfl⟩ (by rw[zq];omega) ?_ ?_
  ·rintro D i kv aa σ H5 p R1 R2 ⟨_,_,rfl⟩ s5 hD ⟨acc,hA⟩ hp k1 k2
   obtain⟨y,j,rfl⟩:=ae kv (zn aa);have h6:(upd H5 p (.tup [kV (Sum.inr y),.int j])) p=some (.tup [.str y,.int j]):=iC;have ac:=iH (o:=.tup [kV (Sum.inr y),.int j]) hp _ _ hA;generalize upd H5 p (.tup [kV (Sum.inr y),.int j])=H6 at h6 ac k1 k2;walk_at "i";refine⟨_,jG h6,rfl,_,_,rfl,_,_,rfl,rfl,_,rfl,?_⟩;by_cases hj:0<j
   ·rw[zg hj]
    exact⟨sz,λt ht=>k1 (zD hj) _ _ _ ⟨_,_,rfl⟩ (iH ht) λH' hb=>⟨t,rfl,hb _ _ (λe=>by rw[e,ac]at ht;cases ht) iC⟩⟩
   ·rw[zc hj]
    exact k2 (zF hj) _ _ ⟨_,_,rfl⟩ (same_refl _)
  ·intro D H4 acc hD s4 hA ad hF
   have hF':∀(i:Nat) v,acc[i]? =some v->∃kv,(P.filter posK)[i]? =some kv/\∃b,v=.ref b/\H4 b=some (.tup [kV kv.1,kv.2]):=hF
   have af:((P.filter posK).map (·.1)).Nodup:=by
    have:=(XF hH z n).u;unfold Gv at this
    rwa [hP]at this
   have ah:(P.filter posK).length<=101:=zV (yk _ _) ag;rw[ap_dictPairs];refine⟨acc,kfD H4,vfD H4,iI hA,by omega,λy hy=>?_,λp hp=>?_⟩
   ·obtain⟨i,hi,e⟩:=zZ hy
    obtain⟨kv,_,b,rfl,hb⟩:=hF' i y (by rw[zh hi,e]);exact⟨b,rfl,by rw[Wd hb,WT hb];exact jG hb⟩
   ·rw[XD ad hF' af]
    have S:=s3.trans s4;refine k p _ (S.trans (iH hp)) (S.free hp) ?_;rw[iC];unfold Gv;rw[hP]
inductive uw(vs:List V)(H:Hp)(Q:VK)(E:XK):Prop
 |mk (a:Addr) (kvs:List (Key×V)) (z:Str) (n:Int) (_:vs=[.ref a,.str z,.int n]) (_:Rd H a (.dK kvs)) (_:Va kvs) (_:kvs.length<=100) (_:∀p H',Same H H'->H p=none->H' p=some (.dK (Gv kvs z (jA kvs z+n)))->Q (.ref p) H'):uw vs H Q E
def oN(T:Txt K mg A D):jK P w K mg base CX0 2 A.ab6 D.ab6 ["held", "ware", "pieces"] (uw):=by
 refine T.aed.F.okv Ey λ_ _ _ _ H vs Q E q h=>?_
 ·obtain⟨a,kvs,z,n,rfl,ha,hH,hl,k⟩:=h
  refine⟨_,(iB (iR (pcg (wG T) q T.aec (Cj T) (pav 0 (pav 1 (ir (jb jD (pq (oV q) (pvD 0) (pvD 1) iz ⟨rfl,rfl,rfl,rfl⟩) (pvD 2)) iw)))))),?_⟩;walk_at "a";exact⟨.inl ⟨_,ha⟩,_,.inl ⟨kvs,Sum.inr z,ha,rfl,rfl⟩,jA kvs z,DR hH z,a,kvs,z,_,rfl,ha,hH,hl,k⟩
inductive rE(vs:List V)(H:Hp)(Q:VK)(E:XK):Prop
 |mk (a:Addr) (kvs:List (Key×V)) (z:Str) (n:Int) (_:vs=[.ref a,.str z,.int n]) (_:Rd H a (.dK kvs)) (_:Va kvs) (_:kvs.length<=100) (_:(jA kvs z<n->Q .non H)) (_:(n<=jA kvs z->∀p H',Same H H'->H p=none->H' p=some (.dK (Gv kvs z (jA kvs z - n)))->Q (.ref p) H')):rE vs H Q E
def rJ(T:Txt K mg A D):jK P w K mg base CX0 2 A.ab8 D.ab8 ["held", "ware", "pieces"] (rE):=by
 refine T.aef.F.okv qY λ_ _ _ _ H vs Q E q h=>?_
 ·obtain⟨a,kvs,z,n,rfl,ha,hH,hl,k1,k2⟩:=h
  refine ⟨_,(iu (iU (i:=3) qY.nd rfl orl (pq (oV q) (pvD 0) (pvD 1) iz ⟨rfl,rfl,rfl,rfl⟩))
   (iu (jT (iY (Mx) (pvD 3) (pvD 2) (jf _)) (iB (iR nj)) jo)
   (iB (iR (pcg (wG T) q T.aec (Cj T) (pav 0 (pav 1 (ir (jb pD (pvD 3) (pvD 2)) iw)))))))),?_⟩
  simp only[start_eq];walk_at "m";refine⟨.inl ⟨_,ha⟩,_,.inl ⟨kvs,Sum.inr z,ha,rfl,rfl⟩,?_⟩;rw[DR hH z];walk_at "m";by_cases c:jA kvs z<n
  ·rw[zg c]
   exact k1 c
  ·rw[zc c]
   exact⟨a,kvs,z,_,rfl,ha,hH,hl,k2 (by omega)⟩
noncomputable def Ent.beh:Ent->List (Key×V)->Option (List (Key×V))
 |.buy _ _ w p _ _,kvs=>some (Gv kvs w (jA kvs w+p))
 |.sell _ _ w p _ _ _,kvs=>if jA kvs w<p then none else some (Gv kvs w (jA kvs w - p))
 |.gift _ _ w p _ _,kvs=>some (Gv kvs w (jA kvs w+p))
 |.give _ _ w p _,kvs=>if jA kvs w<p then none else some (Gv kvs w (jA kvs w - p))
 |.split _ _ w m f,kvs=>if 0<jA kvs w/\jA kvs w*m/f=0 then none else some (Gv kvs w (jA kvs w*m/f))
 |.part _ _ w u _ _,kvs=>some (Gv kvs u (jA kvs u+jA kvs w))
inductive CN(A:Adr)(isK:Ent->Bool)(vs:List V)(H:Hp)(Q:VK)(E:XK):Prop
 |mk (x a:Addr) (e:Ent) (kvs:List (Key×V)) (_:isK e=true) (_:vs=[.ref x,.ref a]) (_:IsE A H x e) (_:e.good) (_:Rd H a (.dK kvs)) (_:Va kvs) (_:kvs.length<=100) (_:(e.beh kvs=none->∀H',Same H H'->Q .non H')) (_:∀kv2,e.beh kvs=some kv2->∀p H',Same H H'->H p=none->H' p=some (.dK kv2)->Q (.ref p) H'):CN A isK vs H Q E
def Cu(T:Txt K mg A D):jK P w K mg base CX0 3 A.ab7 D.ab7 ["self", "held"] (CN A Ar):=by
 refine T.aee.okv CP λ_ _ _ _ H vs Q E hr h=>?_
 ·obtain⟨x,a,e,kvs,hk,rfl,⟨dx,nv,z,hn⟩,hg,ha,hH,hl,k1,k2⟩:=h
  refine⟨_,(iB (iR (pcg (oN T) hr T.aed (pO T) (pav 1 (ir (fv K 0) (ir (fv K 0) iw)))))),?_⟩
  cases e with
  |buy d n w p r f=>
   walk_at "a";exact rd z T.afK T.afO (by rfl) (rd z T.afK T.afP (by rfl) ⟨a,kvs,w,p,rfl,ha,hH,hl,λq H' s h1 h2=>k2 _ rfl q H' s h1 h2⟩)
  |_=>cases hk
def Bu(T:Txt K mg A D):jK P w K mg base CX0 3 A.ab9 D.ab9 ["self", "held"] (CN A tH):=by
 refine T.aeg.okv Ci λ_ _ _ _ H vs Q E hr h=>?_
 ·obtain⟨x,a,e,kvs,hk,rfl,⟨dx,nv,z,hn⟩,hg,ha,hH,hl,k1,k2⟩:=h
  refine⟨_,(iB (iR (pcg (rJ T) hr T.aef (ug T) (pav 1 (ir (fv K 0) (ir (fv K 0) iw)))))),?_⟩
  cases e with
  |sell d n w p r f o=>
   walk_at "a";refine rd z T.afT T.afX (by rfl) (rd z T.afT T.afY (by rfl) ⟨a,kvs,w,p,rfl,ha,hH,hl,λc=>k1 (zg c) H (same_refl _),λc q H' s h1 h2=>k2 _ (zc (by omega)) q H' s h1 h2⟩)
  |_=>cases hk
def Bs(T:Txt K mg A D):jK P w K mg base CX0 3 A.aca D.aca ["self", "held"] (CN A tK):=by
 refine T.aeh.okv Bf λ_ _ _ _ H vs Q E hr h=>?_
 ·obtain⟨x,a,e,kvs,hk,rfl,⟨dx,nv,z,hn⟩,hg,ha,hH,hl,k1,k2⟩:=h
  refine⟨_,(iB (iR (pcg (oN T) hr T.aed (pO T) (pav 1 (ir (fv K 0) (ir (fv K 0) iw)))))),?_⟩
  cases e with
  |gift d n w p c s=>
   walk_at "a";exact rd z T.af3 T.af7 (by rfl) (rd z T.af3 T.af8 (by rfl) ⟨a,kvs,w,p,rfl,ha,hH,hl,λq H' s h1 h2=>k2 _ rfl q H' s h1 h2⟩)
  |_=>cases hk
def Bp(T:Txt K mg A D):jK P w K mg base CX0 3 A.acb D.acb ["self", "held"] (CN A rR):=by
 refine T.aei.okv Bv λ_ _ _ _ H vs Q E hr h=>?_
 ·obtain⟨x,a,e,kvs,hk,rfl,⟨dx,nv,z,hn⟩,hg,ha,hH,hl,k1,k2⟩:=h
  refine⟨_,(iB (iR (pcg (rJ T) hr T.aef (ug T) (pav 1 (ir (fv K 0) (ir (fv K 0) iw)))))),?_⟩
  cases e with
  |give d n w p o=>
   walk_at "a";refine rd z T.agb T.agf (by rfl) (rd z T.agb T.agg (by rfl) ⟨a,kvs,w,p,rfl,ha,hH,hl,λc=>k1 (zg c) H (same_refl _),λc q H' s h1 h2=>k2 _ (zc (by omega)) q H' s h1 h2⟩)
  |_=>cases hk
def Ad(T:Txt K mg A D):jK P w K mg base CX0 2 A.acd D.acd ["self", "held"] (CN A oZ):=by
 refine T.aej.okv mY λ_ _ _ _ H vs Q E hr h=>?_
 ·obtain⟨x,a,e,kvs,hk,rfl,⟨dx,nv,hx,hn⟩,hg,ha,hH,hl,k1,k2⟩:=h
  refine ⟨_,(iu (iU (i:=2) mY.nd rfl orl (pq (oV hr) (pvD 1) (fv K 0) iz ⟨rfl,rfl,rfl,rfl⟩))
   (iu (iU (i:=3) mY.nd rfl orl (jb oY (jb lN (pvD 2) (fv K 0)) (fv K 0)))
   (iu (jT (PW.pt (Fl (iY (Ku) (pvD 2) iz (jf _)) (BZ (iY (mU) (pvD 3) iz (jf _))))) (iB (iR nj)) jo)
   (iB (iR (pcg (wG T) hr T.aec (Cj T) (pav 1 (ir (fv K 0) (pav 3 iw))))))))),?_⟩
  cases e with
  |split d n w m f=>
   simp only[start_eq];walk_at "m";obtain⟨_,⟨ag,af⟩,ah,ae⟩:=hg;refine⟨.inl ⟨_,ha⟩,rd hx T.agi T.agm (by rfl) ⟨_,.inl ⟨kvs,Sum.inr w,ha,rfl,rfl⟩,?_⟩⟩;rw[DR hH w];walk_at "m"
   refine ⟨_,dx,_,hx,T.agi,T.agn,_,by rfl,_,rfl,rG (by omega) (by omega),_,dx,_,hx,T.agi,T.ago,_,by rfl,_,rfl,⟨by omega,by
    have:f.natAbs<=1000:=by omega
    exact yx this (by decide)⟩,?_⟩
   walk_at "m"
   have ac:¬(0<jA kvs w/\jA kvs w*m/f=0)->∃aa ad ab,H x=some (HO.ins aa ad ab)/\Cls K aa/\iZ K aa (Str.ofString "ware")/\∃x,List.lookup (Str.ofString "ware") ab=some x/\wO [V.ref a,x,V.int (jA kvs w*m/f)] H Q E0:=λc=>
    (rd hx T.agi T.agm (by rfl) ⟨a,kvs,w,_,rfl,ha,hH,hl,λq H' s h1 h2=>k2 _ (zc c) q H' s h1 h2⟩)
   split
   ·rename_i c1
    split
    ·rename_i c2
     exact k1 (zg ⟨c1,c2⟩) H (same_refl _)
    ·rename_i c2
     exact ac λz=>c2 z.2
   ·rename_i c1
    exact ac λz=>c1 z.1
  |_=>cases hk
def vM(T:Txt K mg A D):jK P w K mg base CX0 3 A.ace D.ace ["self", "held"] (CN A rZ):=by
 refine T.aek.okv vL λ_ _ _ _ H vs Q E z h=>?_
 ·obtain⟨x,a,e,kvs,hk,rfl,⟨dx,nv,hx,hn⟩,hg,ha,hH,hl,k1,k2⟩:=h
  refine⟨_,(iB (iR (pcg (oN T) z T.aed (pO T) (pav 1 (ir (fv K 0) (ir (pq (oV z) (pvD 1) (fv K 0) iz ⟨rfl,rfl,rfl,rfl⟩) iw)))))),?_⟩
  cases e with
  |part d n w u s t=>
   walk_at "a";refine rd hx T.afC T.afH (by rfl) ⟨.inl ⟨_,ha⟩,rd hx T.afC T.afG (by rfl) ⟨_,.inl ⟨kvs,Sum.inr w,ha,rfl,rfl⟩,?_⟩⟩;rw[DR hH w];exact⟨a,kvs,u,_,rfl,ha,hH,hl,λq H' s h1 h2=>k2 _ rfl q H' s h1 h2⟩
  |_=>cases hk
abbrev SP5:=List (Addr×jq×Int)
noncomputable def Gr(ps:SP5):List V:=ps.map λr=>V.ref r.1
def tR(ps:SP5):(Gr ps).length=ps.length:=by unfold Gr;rw[za]
def Ij{rs:SP5}{i:Nat}{y:V}(h:(Gr rs)[i]? =some y):∃r,rs[i]? =some r/\y=.ref r.1:=by
 unfold Gr at h;rw[zf]at h
 cases e:rs[i]? with
 |none=>rw[e]at h;cases h
 |some r=>rw[e]at h;exact⟨r,rfl,(zw h).symm⟩
structure jJ where
 n:Int
 d:Int
 w:Str
 pr:Int
 pl:Addr
 ps:SP5
 lo:Option Int
noncomputable def loV:Option Int->V
 |none=> .non
 |some i=> .int i
noncomputable def jJ.fs(s:jJ):List (Str×V):=[("number",.int s.n),("day",.int s.d),("ware",.str s.w),("proceeds",.int s.pr),("parts",.ref s.pl),("laid_on",loV s.lo)]
noncomputable def jJ.co(s:jJ):Int:=(s.ps.map λr=>r.2.1.c).sum
noncomputable def jJ.cnt(s:jJ):Int:=if s.lo=none then s.pr - s.co else 0
noncomputable def aiH(H:Hp)(ps:SP5):Prop:=∀r∈ps,H r.1=some (.tup (r.2.1.vs++[.int r.2.2]))
structure jO(A:Adr)(H:Hp)(x:Addr)(s:jJ):Prop where
 i:∃dx,H x=some (.ins A.ac0 dx s.fs)
 p:H s.pl=some (.lst (Gr s.ps))
 t:aiH H s.ps
 l:s.ps.length<=61
def aiH.same{H H':Hp}{ps:SP5}(h:aiH H ps)(s:Same H H'):aiH H' ps:=λr q=>s _ _ (h r q)
theorem jO.same{H H':Hp}{x:Addr}{d:jJ}(h:jO A H x d)(s:Same H H'):jO A H' x d:=⟨let⟨dx,e⟩:=h.i;⟨dx,s _ _ e⟩,s _ _ h.p,h.t.same s,h.l⟩
def aiM{ps:SP5}{acc:List V}(hl:acc.length=ps.length)(h:∀(i:Nat) v,acc[i]? =some v->∃r,ps[i]? =some r/\v=.int r.2.1.c):acc=(ps.map λr=>r.2.1.c).map V.int:=by
 refine zzv (by simp[hl]) λi h1 h2=>?_;obtain⟨l,q,z⟩:=h i acc[i] (by simp);rw[z];have h3:i<ps.length:=by omega
 have:ps[i]=l:=by
  rw[zh h3]at q;exact zw q
 simp[this]
inductive vp(vs:List V)(H:Hp)(Q:VK)(E:XK):Prop
 |mk (p:Addr) (ps:SP5) (_:vs=[.ref p]) (_:H p=some (.lst (Gr ps))) (_:aiH H ps) (_:ps.length<=61) (_:∀H',Same H H'->Q (.int (ps.map λr=>r.2.1.c).sum) H'):vp vs H Q E
def Gu(T:Txt K mg A D):jK P w K mg base CX0 1 A.abx D.abx ["parts"] vp:=by
 refine T.adE.F.okv Gh λ_ _ _ _ H vs Q E hr h=>?_
 ·obtain⟨p,ps,rfl,hp,hT,hl,k⟩:=h
  refine⟨_,(iB (iR (jm (ql (K:=K) rfl) (by rfl) T.ae3 (by decide+kernel) (ir (jW (cap:=[none,none,none,none,none]) (N':=["lot", "since", "pieces", "cost", "share"]) rfl (by walk_at "c") (jM (K:=K) (pv 0)) (λ_ _ _ _=>(mZ (K:=K) (n:=5) rfl (jk (iK (i:=0) (show(["lot", "since", "pieces", "cost", "share"]:List Str).Nodup from by decide+kernel) rfl orl orr) (jk (iK (i:=1) (show(["lot", "since", "pieces", "cost", "share"]:List Str).Nodup from by decide+kernel) rfl orl orr) (jk (iK (i:=2) (show(["lot", "since", "pieces", "cost", "share"]:List Str).Nodup from by decide+kernel) rfl orl orr) (jk (iK (i:=3) (show(["lot", "since", "pieces", "cost", "share"]:List Str).Nodup from by decide+kernel) rfl orl orr) (jk (iK (i:=4) (show(["lot", "since", "pieces", "cost", "share"]:List Str).Nodup from by decide+kernel) rfl orl orr) mX))))))) (λ_ _ _ _=>jN) (λ_ _ _ _=>(pvD 3))) iw)))),?_⟩;walk_at "a";refine⟨⟨_,iI hp⟩,?_⟩;refine lq.listE (K:=K) (λσ=>∃a b c d e,σ=[a,b,c,d,e]) (λi v _=>∃r,ps[i]? =some r/\v=.int r.2.1.c) (iI hp) ⟨_,_,_,_,_,rfl⟩ (by rw[tR,zq];omega) ?_ ?_
  ·rintro Da i x hx σ H5 R ⟨_,_,_,_,_,rfl⟩ sm hD _ kk
   obtain⟨r,z,rfl⟩:=Ij hx;have ht:=sm _ _ (hT r (zn z));walk_at "i";exact⟨_,jG ht,rfl,_,_,rfl,_,_,rfl,_,_,rfl,_,_,rfl,_,_,rfl,rfl,kk _ _ H5 ⟨_,_,_,_,_,rfl⟩ (same_refl _) λH' _=>⟨r,z,rfl⟩⟩
  ·intro Da H' acc hD sm hA q hF
   rw[aiM (by rw[q,tR]) hF]at hA;walk_at "a";exact⟨_,iI hA,k H' sm⟩
inductive vG(A:Adr)(vs:List V)(H:Hp)(Q:VK)(E:XK):Prop
 |mk (x p:Addr) (n d pr:Int) (w:Str) (lo:Option Int) (ps:SP5) (B:Hp) (dx:Addr) (_:vs=[.ref x,.int n,.int d,.str w,.int pr,.ref p,loV lo]) (_:New B H x A.ac0 dx []) (_:B p=some (.lst (Gr ps))) (_:aiH B ps) (_:ps.length<=61) (_:∀pl H',Same B H'->B pl=none->jO A H' x ⟨n,d,w,pr,pl,ps,lo⟩->Q .non H'):vG A vs H Q E
def pU(T:Txt K mg A D):jK P w K mg base CX0 1 A.abB D.abB ["self", "number", "day", "ware", "proceeds", "parts", "laid_on"] (vG A):=by
 refine T.adI.okv Gi λ_ _ _ _ H vs Q E hr h=>?_
 ·obtain⟨x,p,n,d,pr,w,lo,ps,B,dx,rfl,q,hp,hT,hl,k⟩:=h
  refine ⟨_,(iu (jr (K:=K) (pv 0) (pvD 1) rfl)
   (iu (jr (K:=K) (pv 0) (pvD 2) rfl)
   (iu (jr (K:=K) (pv 0) (pvD 3) rfl)
   (iu (jr (K:=K) (pv 0) (pvD 4) rfl)
   (iu (jr (K:=K) (pv 0) (nu (xR (K:=K)) (by rfl) T.aeZ (by decide+kernel) (pav 5 iw)) rfl)
   (iB (jr (K:=K) (pv 0) (pvD 6) rfl))))))),?_⟩
  simp only[start_eq];refine jB λu hu=>?_;rw[ap_seq];walk_at "i";refine sw q.h T.agM T.agN (by decide) ?_;rw[xU _ _ (by decide+kernel)];have q:=q.put (gs:=[]++[(Str.ofString "number",V.int n)]) rfl;generalize upd H x _=G1 at q⊢;subst hu
  try dsimp only
  refine jB λu hu=>?_;rw[ap_seq];walk_at "i";refine sw q.h T.agM T.agO (by simp) ?_;rw[lU (f:=Str.ofString "day") ["number"]];have q:=q.put (gs:=([]++[(Str.ofString "number",V.int n)])++[(Str.ofString "day",V.int d)]) rfl;generalize upd G1 x _=G2 at q⊢;subst hu
  try dsimp only
  refine jB λu hu=>?_;rw[ap_seq];walk_at "i";refine sw q.h T.agM T.agP (by simp) ?_;rw[lU (f:=Str.ofString "ware") ["number", "day"]];have q:=q.put (gs:=(([]++[(Str.ofString "number",V.int n)])++[(Str.ofString "day",V.int d)])++[(Str.ofString "ware",V.str w)]) rfl;generalize upd G2 x _=G3 at q⊢;subst hu
  try dsimp only
  refine jB λu hu=>?_;rw[ap_seq];walk_at "i";refine sw q.h T.agM T.agQ (by simp) ?_;rw[lU (f:=Str.ofString "proceeds") ["number", "day", "ware"]];have q:=q.put (gs:=((([]++[(Str.ofString "number",V.int n)])++[(Str.ofString "day",V.int d)])++[(Str.ofString "ware",V.str w)])++[(Str.ofString "proceeds",V.int pr)]) rfl;generalize upd G3 x _=G4 at q⊢;subst hu
  try dsimp only
  refine jB λu hu=>?_;rw[ap_seq];walk_at "i";refine⟨_,.inl (iI (q.s _ _ hp)),λpl z=>?_⟩;have aa:pl≠x:=λe=>by rw[e,q.h]at z;cases z
  have ab:=q.s.free z;have q:=q.same (iH (o:=.lst (Gr ps)) z);have hq:(upd G4 pl (.lst (Gr ps))) pl=some (.lst (Gr ps)):=iC;generalize upd G4 pl _=H5 at q hq⊢;refine sw q.h T.agM T.agR (by simp) ?_;rw[lU (f:=Str.ofString "parts") ["number", "day", "ware", "proceeds"]];have q:=q.put (gs:=(((([]++[(Str.ofString "number",V.int n)])++[(Str.ofString "day",V.int d)])++[(Str.ofString "ware",V.str w)])++[(Str.ofString "proceeds",V.int pr)])++[(Str.ofString "parts",V.ref pl)]) rfl;have hq:=(iQ (o:=HO.ins A.ac0 dx ((((([]++[(Str.ofString "number",V.int n)])++[(Str.ofString "day",V.int d)])++[(Str.ofString "ware",V.str w)])++[(Str.ofString "proceeds",V.int pr)])++[(Str.ofString "parts",V.ref pl)])) aa).trans hq;generalize upd H5 x _=G5 at q hq⊢;subst hu
  try dsimp only
  walk_at "i";refine sw q.h T.agM T.agS (by simp) ?_;rw[lU (f:=Str.ofString "laid_on") ["number", "day", "ware", "proceeds", "parts"]];have S:=q.s.upd (o:=HO.ins A.ac0 dx (((((([]++[(Str.ofString "number",V.int n)])++[(Str.ofString "day",V.int d)])++[(Str.ofString "ware",V.str w)])++[(Str.ofString "proceeds",V.int pr)])++[(Str.ofString "parts",V.ref pl)])++[(Str.ofString "laid_on",loV lo)])) q.n;exact k pl _ S ab ⟨⟨dx,iC⟩,(iQ aa).trans hq,hT.same S,hl⟩
inductive WW(A:Adr)(f:jJ->Int)(vs:List V)(H:Hp)(Q:VK)(E:XK):Prop
 |mk (x:Addr) (s:jJ) (_:vs=[.ref x]) (_:jO A H x s) (_:∀H',Same H H'->Q (.int (f s)) H'):WW A f vs H Q E
def rC(T:Txt K mg A D):jK P w K mg base CX0 2 A.aby D.aby ["self"] (WW A λs=>s.pr - s.co):=by
 refine T.adF.okv Pn λ_ _ _ _ H vs Q E z h=>?_
 ·obtain⟨x,s,rfl,q,k⟩:=h
  refine⟨_,(iB (iR (jb pD (fv K 0) (pcg (Gu T) z T.adE (HB T) (ir (fv K 0) iw))))),?_⟩;obtain⟨dx,hi⟩:=q.i;walk_at "a";exact rd hi T.agM T.agQ (by rfl) (rd hi T.agM T.agR (by rfl) ⟨s.pl,s.ps,rfl,q.p,q.t,q.l,λH' s'=>⟨_,rfl,_,rfl,k H' s'⟩⟩)
def qy(T:Txt K mg A D):jK P w K mg base CX0 3 A.acG D.acG ["self"] (WW A jJ.cnt):=by
 refine T.aeM.okv Ir λ_ _ _ _ H vs Q E z h=>?_
 ·obtain⟨x,s,rfl,q,k⟩:=h
  refine⟨_,(iB (iR (uK (iY (Aj) (fv K 0) nj (jf _)) (lZ (pv 0) (mc T.agM T.ahc (rC T) z (uU T) .nil) jC) iz))),?_⟩;obtain⟨dx,hi⟩:=q.i;walk_at "a";refine rd hi T.agM T.agS (v:=loV s.lo) (by rfl) (?_);unfold jJ.cnt at k
  cases e:s.lo with
  |none=>
   rw[zg (show loV none=V.non from rfl)];rw[e,zg rfl]at k;exact md hi zk (by rfl) ⟨x,s,rfl,q,k⟩
  |some i=>
   rw[zc (show¬loV (some i)=V.non from λc=>by cases c)];rw[e,zc (λc=>by cases c)]at k;exact k H (same_refl _)
inductive xj(A:Adr)(vs:List V)(H:Hp)(Q:VK)(E:XK):Prop
 |mk (x:Addr) (s:jJ) (_:vs=[.ref x]) (_:jO A H x s) (_:∀y pl H',Same H H'->H y=none->H pl=none->jO A H' y {s with pl:=pl}->Q (.ref y) H'):xj A vs H Q E
def JH(T:Txt K mg A D):jK P w K mg base CX0 3 A.acn D.acn ["sale"] (xj A):=by
 refine T.aet.F.okv Jq λ_ _ _ _ H vs Q E hr h=>?_
 ·obtain⟨x,s,rfl,q,k⟩:=h
  refine⟨_,(iB (iR (lK T.ag0 (pU (K:=K) T) (hr.mono (by decide)) (by rfl) T.afo (qK T) .nil jC (ir (fv K 0) (ir (fv K 0) (ir (fv K 0) (ir (fv K 0) (ir (fv K 0) (ir (fv K 0) iw))))))))),?_⟩;obtain⟨dx,hi⟩:=q.i;walk_at "a";refine rd hi T.agM T.agN (by rfl) (rd hi T.agM T.agO (by rfl) (rd hi T.agM T.agP (by rfl) (rd hi T.agM T.agQ (by rfl) (rd hi T.agM T.agR (by rfl) (rd hi T.agM T.agS (by rfl) (λy dy hy z _=>?_))))));exact⟨y,s.pl,s.n,s.d,s.pr,s.w,s.lo,s.ps,H,dy,rfl,pY hy z,q.p,q.t,q.l,λpl H' s' aa hS=>⟨rfl,k y pl H' s' hy aa hS⟩⟩
theorem Tj{H:Hp}:∀{acc:List V}{ls:RL}{cs:List Int},acc.length=ls.length->cs.length=ls.length->(∀(i:Nat) v,acc[i]? =some v->∃b l c,ls[i]? =some l/\cs[i]? =some c/\v=.ref b/\H b=some (.tup (l.2.vs++[.int c])))->∃ps:SP5,acc=Gr ps/\ps.map (λr=>r.2.1)=ls.map (·.2)/\ps.map (λr=>r.2.2)=cs/\aiH H ps
 |[],[],[],_,_,_=>⟨[],rfl,rfl,rfl,λr h=>(zo h).elim⟩
 |[],_::_,_,h,_,_=>by simp at h
 |_::_,[],_,h,_,_=>by simp at h
 |_,_::_,[],_,h,_=>by simp at h
 |_,[],_::_,_,h,_=>by simp at h
 |v::acc,l::ls,c::cs,hl,hc,h=>by
  obtain⟨b,l',c',e,e',rfl,hb⟩:=h 0 v rfl;cases e;cases e';obtain⟨ps,e1,z,e4,e3⟩:=Tj (acc:=acc) (ls:=ls) (cs:=cs) (by simpa using hl) (by simpa using hc) λi v hv=>h (i+1) v hv;refine⟨(b,l.2,c)::ps,by rw[e1];rfl,by rw[zi,z];rfl,by rw[zi,e4],λr q=>?_⟩;rcases zv.mp q with rfl|q
  ·exact hb
  ·exact e3 r q
inductive Lk(A:Adr)(vs:List V)(H:Hp)(Q:VK)(E:XK):Prop
 |mk (x q:Addr) (d n p r f:Int) (w:Str) (o:Option Rs) (ls:RL) (_:vs=[.ref x,.ref q]) (_:IsE A H x (.sell d n w p r f o)) (_:H q=some (.lst (jt ls))) (_:kE A H ls) (_:ls≠[]) (_:ls.length<=60) (_:(∀l∈ls,1<=l.2.p)) (_:pcs ls<2^63) (_:∀y s H',Same H H'->H y=none->H s.pl=none->jO A H' y s->s.n=n->s.d=d->s.w=w->s.pr=p*r - f->s.lo=none->s.ps.map (λr=>r.2.1)=ls.map (·.2)->(s.ps.map λr=>r.2.2).sum=s.pr->Q (.ref y) H'):Lk A vs H Q E
def Ur(T:Txt K mg A D):jK P w K mg base CX0 3 A.abJ D.abJ ["entry", "lots"] (Lk A):=by
 refine T.adQ.F.okv Ek λ_ _ _ _ H vs Q E hr h=>?_
 ·obtain⟨x,q,d,n,p,r,f,w,o,ls,rfl,⟨dx,nv,hx,_⟩,hq,hL,ap,hl,hp,hb,k⟩:=h
  refine ⟨_,(iu (iU (i:=2) Ek.nd rfl orl (pcg (Ue T) hr T.adP (Xo T) (ir (fv K 0) (ir (jW (cap:=[none]) (N':=["lot"]) rfl (by walk_at "c") (jM (K:=K) (pv 1)) (λ_ _ _ _=>(iK (i:=0) nd1 rfl orl orr)) (λ_ _ _ _=>jN) (λ_ _ _ _=>(fv K 0))) iw))))
   (iu (oO (i:=3) Ek.nd rfl rfl (cap:=[none,none]) (N':=["lot", "share"]) rfl (by walk_at "c") (Le (K:=K) (by rfl) T.ae1 (pav 1 (pav 2 iw))) (λ_ _ _ _=>(mZ (K:=K) (n:=2) rfl (jk (iK (i:=0) (show(["lot", "share"]:List Str).Nodup from by decide+kernel) rfl orl orr) (jk (iK (i:=1) (show(["lot", "share"]:List Str).Nodup from by decide+kernel) rfl orl orr) mX)))) (λ_ _ _ _=>jN) (λ_ _ _ _=>(mj (ir (fv K 0) (ir (fv K 0) (ir (fv K 0) (ir (fv K 0) (pav 1 iw))))))))
   (iB (iR (lK T.ag0 (pU (K:=K) T) (hr.mono (by decide)) (by rfl) T.afo (qK T) .nil jC (ir (fv K 0) (ir (fv K 0) (ir (fv K 0) (ir (fv K 0) (pav 3 (ir nj iw))))))))))),?_⟩
  simp only[start_eq];walk_at "m";refine rd hx T.afT T.af2 (by rfl) ⟨⟨_,iI hq⟩,?_⟩;refine lq.listE (K:=K) (λσ=>∃a,σ=[a]) (λi v _=>∃l,ls[i]? =some l/\v=.int l.2.p) (iI hq) ⟨_,rfl⟩ (by rw[iW,zq];omega) ?_ ?_
  ·rintro Da i y hy σ H5 R ⟨_,rfl⟩ sm hD _ kk
   obtain⟨l,ab,rfl⟩:=jQ hy;obtain⟨dl,aa⟩:=(hL l (get_mem ab)).same sm;walk_at "i";exact rd aa T.agx T.agA (by rfl) (kk _ _ H5 ⟨_,rfl⟩ (same_refl _) λH' _=>⟨l,ab,rfl⟩)
  ·intro D1 H1 acc az s1 hA ah hF
   rw[Dt (f:=λl=>l.2.p) (by rw[ah,iW]) hF]at hA;have ar:(ls.map λl=>l.2.p).length=ls.length:=za _;have av:=BW hp;have h0:0<ls.length:=yj.mpr ap;refine⟨_,D1,ls.map (λl:Addr×jq=>l.2.p),rfl,iI hA,λy hy=>?_,(show 0<pcs ls by omega),by omega,hb,λp2 H2 s2 ax h2=>?_⟩
   ·obtain⟨e,he,rfl⟩:=zj.mp hy
    have:=hp e he;omega
   obtain⟨cs,ae⟩:∃cs,shares (p*r - f) (ls.map λl=>l.2.p).sum 0 (ls.map λl=>l.2.p)=cs:=⟨_,rfl⟩;have ai:cs.length=ls.length:=by rw[<-ae,xT,ar]
   have am:cs.sum=p*r - f:=by
    rw[<-ae,LQ,zzG,Int.mul_zero,Int.zero_ediv,Int.sub_zero];exact Int.mul_ediv_cancel _ (show pcs ls≠0 by omega)
   have h2:H2 p2=some (.lst (cs.map V.int)):=ae▸h2;have S2:=s1.trans s2;walk_at "m";refine⟨⟨_,iI (S2 _ _ hq)⟩,⟨_,iI h2⟩,?_⟩;refine lq.zipE (K:=K) (λσ=>∃a b,σ=[a,b]) (λi v H'=>∃b l c,ls[i]? =some l/\cs[i]? =some c/\v=.ref b/\H' b=some (.tup (l.2.vs++[.int c]))) (iI (S2 _ _ hq)) (iI h2) (by rw[iW,za,ai]) ⟨_,_,rfl⟩ (by rw[iW,zq];omega) ?_ ?_
   ·rintro Db i y z hy hz σ H5 pp R ⟨_,_,rfl⟩ an bb ⟨aiM,au⟩ al kk
    obtain⟨l,ab,rfl⟩:=jQ hy;obtain⟨c,rfl,hc⟩:=En hz;obtain⟨dl,aa⟩:=(hL l (get_mem ab)).same (S2.trans an);have aa:=iH (o:=.tup [V.ref l.1,V.int c]) al _ _ aa;have ak:(upd H5 pp (.tup [V.ref l.1,V.int c])) pp=some (.tup [V.ref l.1,V.int c]):=iC;have af:=iH (o:=.tup [V.ref l.1,V.int c]) al _ _ au;generalize upd H5 pp (.tup [V.ref l.1,V.int c])=H6 at aa ak af kk;walk_at "i";refine⟨_,jG ak,rfl,_,_,rfl,_,_,rfl,rfl,?_⟩;refine rd aa T.agx T.agy (by rfl) (rd aa T.agx T.agz (by rfl) (rd aa T.agx T.agA (by rfl) (rd aa T.agx T.agB (by rfl) ⟨sz,λt ht=>?_⟩)));exact kk (.ref t) _ _ ⟨_,_,rfl⟩ (iH ht) λH' hb=>⟨t,l,c,ab,hc,rfl,hb _ _ (λe=>by rw[e,af]at ht;cases ht) iC⟩
   ·intro D3 H3 aw ay s3 aj ac as
    rw[iW]at ac;obtain⟨ps,e1,e2,e4,e3⟩:=Tj ac ai as;rw[e1]at aj;have ad:=s3 _ _ (S2 _ _ hx)
    have ba:ps.length=ls.length:=by
     have:=congrArg List.length e1;rw[tR]at this;omega
    refine rd ad T.afT T.afW (by rfl) (rd ad T.afT T.afV (by rfl) (rd ad T.afT T.afX (by rfl) (rd ad T.afT T.af2 (by rfl) (λy dy hy aq _=>?_))));have S3:=S2.trans s3;exact⟨y,D3,n,d,p*r - f,w,none,ps,H3,dy,rfl,pY hy aq,aj,e3,by omega,λpl H4 s4 ag ao=>⟨rfl,k y _ H4 (S3.trans s4) (S3.free hy) (S3.free ag) ao rfl rfl rfl rfl rfl e2 (by show(ps.map _).sum=_;rw[e4];exact am)⟩⟩
noncomputable def gnP(s:jJ)(l:jq)(c:Int):Int:=if s.lo=none then c - l.c else 0
inductive wA(A:Adr)(vs:List V)(H:Hp)(Q:VK)(E:XK):Prop
 |mk (x q:Addr) (s:jJ) (l:jq) (c:Int) (_:vs=[.ref x,.ref q]) (_:jO A H x s) (_:H q=some (.tup (l.vs++[.int c]))) (_:Q (.int (gnP s l c)) H):wA A vs H Q E
def HN(T:Txt K mg A D):jK P w K mg base CX0 1 A.acC D.acC ["sale", "part"] (wA A):=by
 refine T.aeI.F.okv qN λ_ _ _ _ H vs Q E hr h=>?_
 ·obtain⟨x,q,s,l,c,rfl,hx,z,k⟩:=h
  refine ⟨_,(iu (iU (i:=2) qN.nd rfl orl (jy (je (K:=K)) (pvD 1) iz (λ_ _=>rfl)))
   (iu (iU (i:=3) qN.nd rfl orl (jy (je (K:=K)) (pvD 1) iz (λ_ _=>rfl)))
   (iB (iR (uK (iY (Aj) (fv K 0) nj (jf _)) (jb pD (pvD 3) (pvD 2)) iz))))),?_⟩
  obtain⟨dx,hi⟩:=hx.i;simp only[start_eq]
  iterate 2 (walk_at "m";refine⟨_,jG z,_,rfl,?_⟩)
  walk_at "i";refine rd hi T.agM T.agS (v:=loV s.lo) (by rfl) (?_);unfold gnP at k
  cases e:s.lo with
  |none=>
   rw[zg (show loV none=V.non from rfl)];rw[e,zg rfl]at k;exact k
  |some i=>
   rw[zc (show¬loV (some i)=V.non from λc=>by cases c)];rw[e,zc (λc=>by cases c)]at k;exact k
noncomputable def kdP(s:jJ)(l:jq)(g:Int):Str:=if g<=s.d - l.s then Str.ofString "long" else Str.ofString "short"
noncomputable def alF(s:jJ)(g:Int)(l:jq)(c:Int):List V:=[.int s.n,.int l.n,.int l.p,.str (kdP s l g),.int (gnP s l c)]
inductive Aq(A:Adr)(vs:List V)(H:Hp)(Q:VK)(E:XK):Prop
 |mk (x q:Addr) (s:jJ) (l:jq) (c g:Int) (_:vs=[.ref x,.ref q,.int g]) (_:jO A H x s) (_:H q=some (.tup (l.vs++[.int c]))) (_:∀t,H t=none->Q (.ref t) (upd H t (.tup (alF s g l c)))):Aq A vs H Q E
def Km(T:Txt K mg A D):jK P w K mg base CX0 2 A.acD D.acD ["sale", "part", "long"] (Aq A):=by
 refine T.aeJ.F.okv nq λ_ _ _ _ H vs Q E hr h=>?_
 ·obtain⟨x,q,s,l,c,g,rfl,hx,hq,k⟩:=h
  refine ⟨_,(iu (iU (i:=3) nq.nd rfl orl (jy (je (K:=K)) (pvD 1) iz (λ_ _=>rfl)))
   (iu (iU (i:=4) nq.nd rfl orl (jy (je (K:=K)) (pvD 1) iz (λ_ _=>rfl)))
   (iu (iU (i:=5) nq.nd rfl orl (jy (je (K:=K)) (pvD 1) iz (λ_ _=>rfl)))
   (iu (iU (i:=6) nq.nd rfl orl (uK (iY (akm) (jb pD (fv K 0) (pvD 4)) (pvD 2) (jf _)) jw jw))
   (iB (iR (mj (ir (fv K 0) (pav 3 (pav 5 (pav 6 (ir (pcg (HN T) hr T.aeI (KJ T) (pav 0 (pav 1 iw))) iw)))))))))))),?_⟩
  obtain⟨dx,hi⟩:=hx.i;simp only[start_eq]
  iterate 3 (walk_at "m";refine⟨_,jG hq,_,rfl,?_⟩)
  refine jB λu hu=>?_;walk_at "m";refine rd hi T.agM T.agO (by rfl) (?_);refine⟨_,rfl,?_⟩
  have z:u {nx:=λx H'=>Q V.non H',rt:=Q} [some (V.ref x),some (V.ref q),some (V.int g),some (V.int l.n),some (V.int l.s),some (V.int l.p),some (V.str (kdP s l g))] H:=by
   subst hu;walk_at "i";exact rd hi T.agM T.agN (by rfl) ⟨x,q,s,l,c,rfl,hx,hq,sz,λt ht=>k t ht⟩
  unfold kdP at z;by_cases e:g<=s.d - l.s
  ·rw[zg e]at z⊢;exact z
  ·rw[zc e]at z⊢;exact z
noncomputable def Uz(s:jJ)(g:Int):List (List V):=s.ps.map λr=>alF s g r.2.1 r.2.2
noncomputable def aaJ(H:Hp)(as:List Addr)(xs:List (List V)):Prop:=as.length=xs.length/\∀(i:Nat) a,as[i]? =some a->∃x,xs[i]? =some x/\H a=some (.tup x)
theorem Eb{H:Hp}:∀{acc:List V}{xs:List (List V)},acc.length=xs.length->(∀(i:Nat) v,acc[i]? =some v->∃b x,xs[i]? =some x/\v=.ref b/\H b=some (.tup x))->∃q:List Addr,acc=q.map V.ref/\aaJ H q xs
 |[],[],_,_=>⟨[],rfl,rfl,λi a h=>by simp at h⟩
 |[],_::_,h,_=>by simp at h
 |_::_,[],h,_=>by simp at h
 |v::acc,x::xs,hl,h=>by
  obtain⟨b,x',e,rfl,hb⟩:=h 0 v rfl;cases e;obtain⟨q,e1,z,e3⟩:=Eb (acc:=acc) (xs:=xs) (by simpa using hl) λi v hv=>h (i+1) v hv;refine⟨b::q,by rw[e1];rfl,by rw[zM,z];rfl,λi a ha=>?_⟩
  cases i with
  |zero=>cases ha;exact⟨x,rfl,hb⟩
  |succ i=>exact e3 i a ha
inductive xJ(A:Adr)(vs:List V)(H:Hp)(Q:VK)(E:XK):Prop
 |mk (x:Addr) (s:jJ) (g:Int) (_:vs=[.ref x,.int g]) (_:jO A H x s) (_:∀l as H',Same H H'->H l=none->H' l=some (.lst (as.map V.ref))->aaJ H' as (Uz s g)->Q (.ref l) H'):xJ A vs H Q E
def Io(T:Txt K mg A D):jK P w K mg base CX0 3 A.acE D.acE ["sale", "long"] (xJ A):=by
 refine T.aeK.F.okv Ka λ_ _ _ _ H vs Q E hr h=>?_
 ·obtain⟨x,s,g,rfl,q,k⟩:=h
  refine⟨_,(iB (iR (jW (cap:=[none,some 0,some 1]) (N':=["part", "sale", "long"]) rfl (by walk_at "c") (lJ (K:=K) (fv K 0)) (λ_ _ _ _=>(iK (i:=0) (show(["part", "sale", "long"]:List Str).Nodup from by decide+kernel) rfl orl orr)) (λ_ _ _ _=>jN) (λ_ _ _ _=>(pcg (Km T) hr T.aeJ (MF T) (pav 1 (pav 0 (pav 2 iw)))))))),?_⟩;obtain⟨dx,hi⟩:=q.i;simp only[start_eq];walk_at "i";refine rd hi T.agM T.agR (by rfl) (?_);refine⟨_,rfl,⟨_,iI q.p⟩,?_⟩;refine lq.listE (K:=K) (λσ=>∃a,σ=[a,some (.ref x),some (.int g)]) (λi v H'=>∃b y,(Uz s g)[i]? =some y/\v=.ref b/\H' b=some (.tup y)) (iI q.p) ⟨_,rfl⟩ (by have:=q.l;rw[tR,zq];omega) ?_ ?_
  ·rintro Da i y hy σ H5 R ⟨_,rfl⟩ sm hD ⟨aiM,ab⟩ kk
   obtain⟨r,aa,rfl⟩:=Ij hy;walk_at "i";refine⟨x,r.1,s,r.2.1,r.2.2,g,rfl,q.same sm,sm _ _ (q.t r (zn aa)),λt ht=>kk (.ref t) _ _ ⟨_,rfl⟩ (iH ht) λH' hb=>⟨t,_,?_,rfl,hb _ _ (λe=>by rw[e,ab]at ht;cases ht) iC⟩⟩;unfold Uz;rw[zf,aa];rfl
  ·intro Da H' acc hD sm hA z hF
   obtain⟨as,rfl,hT⟩:=Eb (by rw[z,tR];unfold Uz;rw[za]) hF;exact k Da as H' sm hD hA hT
abbrev RW:=List (Str×Addr×RL)
noncomputable def kvR(rs:RW):List (Key×V):=rs.map λt=>(Sum.inr t.1,.ref t.2.1)
noncomputable def rowOf:RW->Str->RL
 |[],_=>[]
 |t::rs,z=>if t.1=z then t.2.2 else rowOf rs z
noncomputable def Zc(rs:RW)(z:Str)(q:Addr)(ls:RL):RW:=if rs.any (λt=>decide (t.1=z))=true then rs.map (λt=>if t.1=z then(t.1,q,ls)else t)else rs++[(z,q,ls)]
theorem akY:∀(rs:RW)(z:Str),(∃t∈rs,t.1=z/\pF (kvR rs) (Sum.inr z)=some (.ref t.2.1)/\rowOf rs z=t.2.2)\/(pF (kvR rs) (Sum.inr z)=none/\rowOf rs z=[]/\z∉rs.map (·.1))
 |[],z=> .inr ⟨rfl,rfl,by simp⟩
 |t::rs,z=>by
  by_cases e:t.1=z
  ·refine .inl ⟨t,zk,e,?_,?_⟩
   ·show pF ((Sum.inr t.1,V.ref t.2.1)::kvR rs) _=_
    rw[lH (by rw[e])]
   ·unfold rowOf;rw[zg e]
  ·have hv:pF (kvR (t::rs)) (Sum.inr z)=pF (kvR rs) (Sum.inr z):=by
    show pF ((Sum.inr t.1,V.ref t.2.1)::kvR rs) _=_;rw[lC (λh=>e (yZ h))]
   have hr:rowOf (t::rs) z=rowOf rs z:=by
    show(if t.1=z then t.2.2 else rowOf rs z)=_;rw[zc e]
   rw[hv,hr];rcases akY rs z with⟨u,h1,h2,q,h4⟩|⟨h1,h2,q⟩
   ·exact .inl ⟨u,zt _ h1,h2,q,h4⟩
   ·refine .inr ⟨h1,h2,λh=>?_⟩
    rw[zi]at h;rcases zv.mp h with h|h
    ·exact e h.symm
    ·exact q h
def ajh(rs:RW)(z:Str)(q:Addr)(ls:RL):putK (kvR rs) (Sum.inr z) (.ref q)=kvR (Zc rs z q ls):=by
 unfold putK Zc kvR
 have ea:(List.any (rs.map λt=>((Sum.inr t.1:Key),V.ref t.2.1)) λkv=>decide (kv.1=Sum.inr z))=rs.any λt=>decide (t.1=z):=by
  rw[List.any_map];congr 1;funext t;show decide ((Sum.inr t.1:Key)=Sum.inr z)=decide (t.1=z);by_cases e:t.1=z
  ·rw[e];simp
  ·rw[zF e,zF];exact λh=>e (yZ h)
 rw[ea];by_cases h:rs.any (λt=>decide (t.1=z))=true
 ·rw[zg h,zg h,zx,zx]
  refine yd λt _=>?_;show(if(Sum.inr t.1:Key)=Sum.inr z then((Sum.inr t.1:Key),V.ref q)else(Sum.inr t.1,V.ref t.2.1))=_;by_cases e:t.1=z
  ·rw[zg (by rw[e])]
   show _=((Sum.inr (if t.1=z then(t.1,q,ls)else t).1:Key),V.ref (if t.1=z then(t.1,q,ls)else t).2.1);rw[zg e]
  ·rw[zc (λh=>e (yZ h))]
   show _=((Sum.inr (if t.1=z then(t.1,q,ls)else t).1:Key),V.ref (if t.1=z then(t.1,q,ls)else t).2.1);rw[zc e]
 ·rw[zc h,zc h,zu]
  rfl
def Zx{rs:RW}{z:Str}{q:Addr}{ls:RL}{t:Str×Addr×RL}(h:t∈Zc rs z q ls):t=(z,q,ls)\/t∈rs:=by
 unfold Zc at h;split at h
 ·obtain⟨u,hu,e⟩:=zj.mp h
  by_cases c:u.1=z
  ·rw[zg c,c]at e;exact .inl e.symm
  ·rw[zc c]at e;exact .inr (e▸hu)
 ·rcases zI.mp h with h|h
  ·exact .inr h
  ·exact .inl (zy.mp h)
def Ve{rs:RW}{z:Str}{q:Addr}{ls:RL}:(Zc rs z q ls).map (·.1)=if z∈rs.map (·.1)then rs.map (·.1)else rs.map (·.1)++[z]:=by
 unfold Zc;by_cases h:rs.any (λt=>decide (t.1=z))=true
 ·have hm:z∈rs.map (·.1):=by
   obtain⟨t,ht,e⟩:=yz.mp h;exact zj.mpr ⟨t,ht,z8 e⟩
  rw[zg h,zg hm,zx];refine yd λt _=>?_;show(if t.1=z then(t.1,q,ls)else t).1=t.1;split<;>rfl
 ·have hm:z∉rs.map (·.1):=λhm=>by
   obtain⟨t,ht,e⟩:=zj.mp hm;exact h (yz.mpr ⟨t,ht,zD e⟩)
  rw[zc h,zc hm,zu];rfl
def aiI{rs:RW}{z:Str}{q:Addr}{ls:RL}(h:(rs.map (·.1)).Nodup):((Zc rs z q ls).map (·.1)).Nodup:=by
 rw[Ve];by_cases c:z∈rs.map (·.1)
 ·rw[zg c];exact h
 ·rw[zc c]
  refine yX.mpr ⟨h,by simp,λy hy x hx=>?_⟩;obtain rfl:=zy.mp hx;exact λe=>c (e▸hy)
theorem Qa:∀{rs:RW}{z:Str}{q:Addr}{ls:RL}{y:Str},rowOf (rs.map λt=>if t.1=z then(t.1,q,ls)else t) y=if y=z/\z∈rs.map (·.1)then ls else rowOf rs y
 |[],z,q,ls,y=>by rw[zc (by simp)];rfl
 |t::rs,z,q,ls,y=>by
  rw[zi];have ih:=Qa (rs:=rs) (z:=z) (q:=q) (ls:=ls) (y:=y);unfold rowOf;by_cases e:t.1=z
  ·rw[zg e]
   by_cases e2:y=z
   ·rw[zg (show t.1=y by rw[e,e2]),zg ⟨e2,by rw[zi,e];exact zk⟩]
   ·have hy:¬t.1=y:=λh=>e2 (h.symm.trans e)
    rw[zc hy,zc (λh=>e2 h.1),ih,zc (λh=>e2 h.1),zc hy]
  ·rw[zc e]
   by_cases e2:t.1=y
   ·rw[zg e2,zg e2,zc (λh=>e (e2.trans h.1))]
   ·rw[zc e2,zc e2,ih]
    by_cases c:y=z/\z∈rs.map (·.1)
    ·rw[zg c,zg ⟨c.1,by rw[zi];exact zt _ c.2⟩]
    ·rw [zc c,zc λh=>c ⟨h.1,by
      have h2:=h.2;rw[zi]at h2;rcases zv.mp h2 with h2|h2
      ·exact(e h2.symm).elim
      ·exact h2⟩]
theorem Ql:∀{rs:RW}{z:Str}{q:Addr}{ls:RL}{y:Str},z∉rs.map (·.1)->rowOf (rs++[(z,q,ls)]) y=if y=z then ls else rowOf rs y
 |[],z,q,ls,y,_=>by
  show(if z=y then ls else[])=_;by_cases e:y=z
  ·rw[zg e,zg e.symm]
  ·rw[zc e,zc (λh=>e h.symm)];rfl
 |t::rs,z,q,ls,y,hn=>by
  rw[zi]at hn;have ih:=Ql (rs:=rs) (z:=z) (q:=q) (ls:=ls) (y:=y) λh=>hn (zt _ h);show(if t.1=y then t.2.2 else rowOf (rs++[(z,q,ls)]) y)=_;rw[ih];by_cases e:t.1=y
  ·rw[zg e,zc (λh=>hn (by rw[<-h,<-e];exact zk))]
   show _=(if t.1=y then t.2.2 else rowOf rs y);rw[zg e]
  ·rw[zc e]
   show _=(if y=z then ls else if t.1=y then t.2.2 else rowOf rs y);rw[zc e]
def WD{rs:RW}{z:Str}{q:Addr}{ls:RL}{y:Str}:rowOf (Zc rs z q ls) y=if y=z then ls else rowOf rs y:=by
 unfold Zc;by_cases h:rs.any (λt=>decide (t.1=z))=true
 ·have hm:z∈rs.map (·.1):=by
   obtain⟨t,ht,e⟩:=yz.mp h;exact zj.mpr ⟨t,ht,z8 e⟩
  rw[zg h,Qa];by_cases e:y=z
  ·rw[zg e,zg ⟨e,hm⟩]
  ·rw[zc e,zc λh=>e h.1]
 ·have hm:z∉rs.map (·.1):=λhm=>by
   obtain⟨t,ht,e⟩:=zj.mp hm;exact h (yz.mpr ⟨t,ht,zD e⟩)
  rw[zc h,Ql hm]
noncomputable def QS(rs:RW)(z:Str):RW:=rs.filter λt=>decide (t.1≠z)
def aau(rs:RW)(z:Str):Rx (kvR rs) (Sum.inr z)=kvR (QS rs z):=by
 unfold Rx kvR QS;rw[List.filter_map];congr 1;refine List.filter_congr λt _=>?_;show decide ((Sum.inr t.1:Key)≠Sum.inr z)=decide (t.1≠z);by_cases e:t.1=z
 ·rw[e];simp
 ·rw[zD e,zD];exact λh=>e (yZ h)
theorem LK:∀{rs:RW}{z y:Str},rowOf (QS rs z) y=if y=z then[]else rowOf rs y
 |[],z,y=>by show[]=_;split<;>rfl
 |t::rs,z,y=>by
  have ih:=LK (rs:=rs) (z:=z) (y:=y);unfold QS at ih⊢;rw[zzu];by_cases e:t.1=z
  ·rw[zc (by simp[e]),ih]
   by_cases q:y=z
   ·rw[zg q,zg q]
   ·rw[zc q,zc q]
    show _=if t.1=y then _ else _;rw[zc (λc=>q (c.symm.trans e))]
  ·rw[zg (zD e)]
   show(if t.1=y then _ else _)=(if y=z then[]else if t.1=y then _ else _);rw[ih];by_cases q:t.1=y
   ·rw[zg q,zg q,zc (λc=>e (q.trans c))]
   ·rw[zc q,zc q]
noncomputable def keepR(rs:RW)(z:Str)(q:Addr)(ls:RL):RW:=if ls.length=0 then QS rs z else Zc rs z q ls
def xO{rs:RW}{z:Str}{q:Addr}{ls:RL}{y:Str}:rowOf (keepR rs z q ls) y=if y=z then ls else rowOf rs y:=by
 unfold keepR;split
 ·next e=>rw[LK,zz1.mp e]
 ·exact WD
def JR{rs:RW}{z:Str}{q:Addr}{ls:RL}{t:Str×Addr×RL}(h:t∈keepR rs z q ls):(t=(z,q,ls)/\ls≠[])\/t∈rs:=by
 unfold keepR at h;split at h
 ·exact .inr (yB.mp h).1
 ·next e=>exact(Zx h).imp_left λc=>⟨c,λz=>e (by rw[z];rfl)⟩
def Vi{rs:RW}{z:Str}(h:z∉rs.map (·.1)):QS rs z=rs:=zzE.mpr λt q=>zD λc=>h (zj.mpr ⟨t,q,c⟩)
structure Nu(ns:List Int)(W:List Str)(rs:RW):Prop where
 u:(rs.map (·.1)).Nodup
 w:∀t∈rs,t.1∈W
 n:∀t∈rs,t.2.2≠[]/\Shp ns t.2.2
def Nu.len{ns:List Int}{W:List Str}{rs:RW}(h:Nu ns W rs):rs.length<=W.length:=by
 have:=Ml h.u λn hn=>by
  obtain⟨t,q,rfl⟩:=zj.mp hn;exact h.w t q
 rwa [za]at this
def Nu.row{ns:List Int}{W:List Str}{rs:RW}(h:Nu ns W rs)(z:Str):Shp ns (rowOf rs z):=by
 rcases akY rs z with⟨t,h1,_,_,q⟩|⟨_,h2,_⟩
 ·rw[q];exact(h.n t h1).2
 ·rw[h2];exact .nil
def Nu.keep{ns:List Int}{W:List Str}{rs:RW}(h:Nu ns W rs){z:Str}(hz:z∈W){q:Addr}{ls:RL}(hs:Shp ns ls):Nu ns W (keepR rs z q ls):=by
 refine⟨?_,λt ht=>?_,λt ht=>?_⟩
 ·unfold keepR
  split
  ·exact(List.filter_sublist.map _).nodup h.u
  ·exact aiI h.u
 ·rcases JR ht with⟨rfl,_⟩|ht
  ·exact hz
  ·exact h.w t ht
 ·rcases JR ht with⟨rfl,e⟩|ht
  ·exact⟨e,hs⟩
  ·exact h.n t ht
noncomputable def vP(H:Hp)(M:List Addr):Hp:=λa=>if a∈M then none else H a
def uo{H:Hp}{M:List Addr}:Same (vP H M) H:=λa o h=>by
 unfold vP at h;split at h
 ·cases h
 ·exact h
def sG{H:Hp}{M:List Addr}{a:Addr}{o:HO}(h:H a=some o)(n:a∉M):vP H M a=some o:=by unfold vP;rw[zc n];exact h
structure Stp(M M':List Addr)(H H':Hp):Prop where
 k:∀a o,a∉M->H a=some o->H' a=some o
 f:∀m∈M',m∈M\/H m=none
def Stp.same{M M':List Addr}{H H':Hp}(s:Stp M M' H H'):Same (vP H M) (vP H' M'):=λa o h=>by
 unfold vP at h;split at h
 ·cases h
 ·next n=>exact sG (s.k a o n h) λc=>(s.f a c).elim n λe=>by rw[e]at h;cases h
def pA{M:List Addr}{H H':Hp}(s:Same H H'):Stp M M H H':=⟨λa o _ h=>s a o h,λm h=> .inl h⟩
def pL{M:List Addr}{H:Hp}{m:Addr}{o:HO}(h:m∈M):Stp M M H (upd H m o):=⟨λa o n e=>(iQ λc:a=m=>n (c▸h)).trans e,λm h=> .inl h⟩
def Stp.trans{M M' M'':List Addr}{H H' H'':Hp}(s:Stp M M' H H')(t:Stp M' M'' H' H''):Stp M M'' H H'':=by
 have ne:∀{a:Addr}{o:HO},a∉M->H a=some o->a∉M':=λn h c=>(s.f _ c).elim n λe=>by rw[e]at h;cases h
 refine⟨λa o n h=>t.k a o (ne n h) (s.k a o n h),λm hm=>?_⟩;rcases t.f m hm with h|h
 ·exact s.f m h
 ·by_cases c:m∈M
  ·exact .inl c
  ·right
   cases e:H m with
   |none=>rfl
   |some o=>rw[s.k m o c e]at h;cases h
structure BkD where
 C:Addr
 way:Addr
 rows:Addr
 sales:Addr
 givs:Addr
 rs:RW
 last:Option (Addr×Int×Int)
 paid:Int
 brought:Int
 sl:List (Addr×jJ)
 gv:List (Addr×Int×Addr×RL)
 x:Option (Int×Addr×List V)
noncomputable def Ru:Option (Addr×Int×Int)->V
 |none=> .non
 |some t=> .ref t.1
noncomputable def BkD.xs(k:BkD):List (Str×V):=match k.x with
 |none=>[]
 |some y=>[("days",.int y.1),("layings",.ref y.2.1)]
noncomputable def BkD.fs(k:BkD):List (Str×V):=("way",.ref k.way)::("rows",.ref k.rows)::("last_place",Ru k.last)::("paid",.int k.paid)::("brought",.int k.brought)::("sales_done",.ref k.sales)::("givings_done",.ref k.givs)::k.xs
noncomputable def BkD.xm(k:BkD):List Addr:=match k.x with
 |none=>[]
 |some y=>[y.2.1]
noncomputable def BkD.M(b:Addr)(k:BkD):List Addr:=[b,k.rows,k.sales,k.givs]++k.xm
noncomputable def Qh(A:Adr)(H:Hp)(rs:RW):Prop:=∀t∈rs,H t.2.1=some (.lst (jt t.2.2))/\kE A H t.2.2
theorem Qh.same{H H':Hp}{rs:RW}(h:Qh A H rs)(s:Same H H'):Qh A H' rs:=λt q=>⟨s _ _ (h t q).1,(h t q).2.same s⟩
noncomputable def pR(sl:List (Addr×jJ)):List V:=sl.map λt=>V.ref t.1
noncomputable def Od(gv:List (Addr×Int×Addr×RL)):List V:=gv.map λt=>V.ref t.1
structure Frz(A:Adr)(G:Hp)(k:BkD):Prop where
 l:Qh A G k.rs
 p:∀t,k.last=some t->G t.1=some (.tup [.int t.2.1,.int t.2.2])
 s:∀t∈k.sl,jO A G t.1 t.2
 g:∀t∈k.gv,G t.1=some (.tup [.int t.2.1,.ref t.2.2.1])/\G t.2.2.1=some (.lst (jt t.2.2.2))/\kE A G t.2.2.2
theorem Frz.same{G G':Hp}{k:BkD}(h:Frz A G k)(s:Same G G'):Frz A G' k:=⟨h.l.same s,λt q=>s _ _ (h.p t q),λt q=>(h.s t q).same s,λt q=>let⟨a,b,c⟩:=h.g t q;⟨s _ _ a,s _ _ b,c.same s⟩⟩
structure jd(A:Adr)(H:Hp)(b:Addr)(k:BkD):Prop where
 c:(k.C=A.acX/\k.x=none)\/(k.C=A.acZ/\k.x≠none)
 i:∃dx,H b=some (.ins k.C dx k.fs)
 r:H k.rows=some (.dK (kvR k.rs))
 s:H k.sales=some (.lst (pR k.sl))
 g:H k.givs=some (.lst (Od k.gv))
 y:∀y,k.x=some y->H y.2.1=some (.lst y.2.2)/\y.2.1≠k.sales/\y.2.1≠k.givs
 d:k.sales≠k.givs
 z:Frz A (vP H (k.M b)) k
def BkD.mb{b:Addr}{k:BkD}:b∈k.M b:=zk
def BkD.mr{b:Addr}{k:BkD}:k.rows∈k.M b:=zt _ zk
def BkD.ms{b:Addr}{k:BkD}:k.sales∈k.M b:=zt _ (zt _ zk)
def BkD.mv{b:Addr}{k:BkD}:k.givs∈k.M b:=zt _ (zt _ (zt _ zk))
theorem jd.same{H H':Hp}{b:Addr}{k:BkD}(h:jd A H b k)(s:Same H H'):jd A H' b k:=
 ⟨h.c,let⟨dx,e⟩:=h.i;⟨dx,s _ _ e⟩,s _ _ h.r,s _ _ h.s,s _ _ h.g,λy e=>let⟨a,t⟩:=h.y y e;⟨s _ _ a,t⟩,h.d,h.z.same (pA s).same⟩
def jd.frz{H:Hp}{b:Addr}{k:BkD}(h:jd A H b k):Frz A H k:=h.z.same uo
def jd.neb{H:Hp}{b:Addr}{k:BkD}(h:jd A H b k){x:Addr}{o:HO}(q:H x=some o)(z:∀C dx fs,o≠.ins C dx fs):x≠b:=λe=>by
 obtain⟨dx,hb⟩:=h.i;rw[e,hb]at q;exact z _ _ _ (zw q).symm
def jd.ner{H:Hp}{b:Addr}{k:BkD}(h:jd A H b k){x:Addr}{o:HO}(q:H x=some o)(ho:∀z,o≠.dK z):x≠k.rows:=λe=>by
 rw[e,h.r]at q;exact ho _ (zw q).symm
def jd.row{H:Hp}{b:Addr}{k:BkD}(h:jd A H b k){z:Str}{q:Addr}{ls:RL}(hq:vP H (k.M b) q=some (.lst (jt ls)))(hL:kE A (vP H (k.M b)) ls):jd A (upd H k.rows (.dK (kvR (keepR k.rs z q ls)))) b {k with rs:=keepR k.rs z q ls}:=by
 have hs:Same (vP H (k.M b)) (vP (upd H k.rows (.dK (kvR (keepR k.rs z q ls)))) (k.M b)):=(pL BkD.mr).same;have n:∀{a:Addr}{o:HO},H a=some o->(∀kv,o≠.dK kv)->(upd H k.rows (.dK (kvR (keepR k.rs z q ls)))) a=some o:=λe f=>(iQ (h.ner e f)).trans e;have F:=h.z.same hs;refine⟨h.c,let⟨dx,e⟩:=h.i;⟨dx,n e λ_ c=>by cases c⟩,iC,n h.s λ_ c=>(by cases c),n h.g λ_ c=>(by cases c),λy e=>let⟨a,t⟩:=h.y y e;⟨n a λ_ c=>(by cases c),t⟩,h.d,⟨λt ht=>?_,F.p,F.s,F.g⟩⟩;rcases JR ht with⟨rfl,_⟩|ht
 ·exact⟨hs _ _ hq,hL.same hs⟩
 ·exact F.l t ht
def jd.put{H:Hp}{b dx:Addr}{k:BkD}(h:jd A H b k){la:Option (Addr×Int×Int)}{pa br:Int}(hl:∀t,la=some t->vP H (k.M b) t.1=some (.tup [.int t.2.1,.int t.2.2])):jd A (upd H b (.ins k.C dx {k with last:=la,paid:=pa,brought:=br}.fs)) b {k with last:=la,paid:=pa,brought:=br}:=by
 have q:Same (vP H (k.M b)) (vP (upd H b (.ins k.C dx {k with last:=la,paid:=pa,brought:=br}.fs)) (k.M b)):=(pL BkD.mb).same;have n:∀{a:Addr}{o:HO},H a=some o->(∀C dx fs,o≠.ins C dx fs)->(upd H b (.ins k.C dx {k with last:=la,paid:=pa,brought:=br}.fs)) a=some o:=λe f=>(iQ (h.neb e f)).trans e;have F:=h.z.same q;exact⟨h.c,⟨dx,iC⟩,n h.r λ_ _ _ c=>(by cases c),n h.s λ_ _ _ c=>(by cases c),n h.g λ_ _ _ c=>(by cases c),λy e=>let⟨a,t⟩:=h.y y e;⟨n a λ_ _ _ c=>(by cases c),t⟩,h.d,⟨F.l,λt z=>q _ _ (hl t z),F.s,F.g⟩⟩
def jd.sale{H:Hp}{b y:Addr}{k:BkD}{s:jJ}(h:jd A H b k)(hy:jO A (vP H (k.M b)) y s):jd A (upd H k.sales (.lst (pR (k.sl++[(y,s)])))) b {k with sl:=k.sl++[(y,s)]}:=by
 have z:Same (vP H (k.M b)) (vP (upd H k.sales (.lst (pR (k.sl++[(y,s)])))) (k.M b)):=(pL BkD.ms).same;have n:∀{a:Addr}{o:HO},H a=some o->a≠k.sales->(upd H k.sales (.lst (pR (k.sl++[(y,s)])))) a=some o:=λe f=>(iQ f).trans e;have F:=h.z.same z;refine⟨h.c,let⟨dx,e⟩:=h.i;⟨dx,n e λc=>by rw[c,h.s]at e;cases e⟩,n h.r λc=>(by have:=h.r;rw[c,h.s]at this;cases this),iC,n h.g h.d.symm,λy e=>let⟨a,t⟩:=h.y y e;⟨n a t.1,t⟩,h.d,⟨F.l,F.p,λt q=>?_,F.g⟩⟩;rcases zI.mp q with q|q
 ·exact F.s t q
 ·rw[zy.mp q];exact hy.same z
def jd.giv{H:Hp}{b:Addr}{k:BkD}{t:Addr×Int×Addr×RL}(h:jd A H b k)(hy:vP H (k.M b) t.1=some (.tup [.int t.2.1,.ref t.2.2.1]))(hq:vP H (k.M b) t.2.2.1=some (.lst (jt t.2.2.2)))(hL:kE A (vP H (k.M b)) t.2.2.2):jd A (upd H k.givs (.lst (Od (k.gv++[t])))) b {k with gv:=k.gv++[t]}:=by
 have z:Same (vP H (k.M b)) (vP (upd H k.givs (.lst (Od (k.gv++[t])))) (k.M b)):=(pL BkD.mv).same;have n:∀{a:Addr}{o:HO},H a=some o->a≠k.givs->(upd H k.givs (.lst (Od (k.gv++[t])))) a=some o:=λe f=>(iQ f).trans e;have F:=h.z.same z;refine⟨h.c,let⟨dx,e⟩:=h.i;⟨dx,n e λc=>by rw[c,h.g]at e;cases e⟩,n h.r λc=>(by have:=h.r;rw[c,h.g]at this;cases this),n h.s h.d,iC,λy e=>let⟨a,t⟩:=h.y y e;⟨n a t.2,t⟩,h.d,⟨F.l,F.p,F.s,λu q=>?_⟩⟩;rcases zI.mp q with q|q
 ·exact F.g u q
 ·rw[zy.mp q];exact⟨z _ _ hy,z _ _ hq,hL.same z⟩
structure CB(K:Fg_)(C:Addr):Prop where
 c:Cls K C
 w:iZ K C "way"
 r:iZ K C "rows"
 l:iZ K C "last_place"
 p:iZ K C "paid"
 b:iZ K C "brought"
 s:iZ K C "sales_done"
 g:iZ K C "givings_done"
def Fb(T:Txt K mg A D){H:Hp}{b:Addr}{k:BkD}(h:jd A H b k):CB K k.C:=by
 rcases h.c with⟨e,_⟩|⟨e,_⟩
 ·rw[e];exact⟨T.agp,T.agq,T.agr,T.ags,T.agt,T.agu,T.agv,T.agw⟩
 ·rw[e];exact⟨T.agC,T.agD,T.agE,T.agF,T.agG,T.agH,T.agI,T.agJ⟩
def jd.own{H:Hp}{b:Addr}{k:BkD}(h:jd A H b k){m:Addr}(hm:m∈k.M b):∃o,H m=some o/\((∃dx,o=.ins k.C dx k.fs)\/(∃q,o=.dK q)\/∃xs,o=.lst xs):=by
 obtain⟨dx,hi⟩:=h.i;unfold BkD.M at hm;rcases zI.mp hm with c|c
 ·rcases zv.mp c with rfl|c
  ·exact⟨_,hi,.inl ⟨dx,rfl⟩⟩
  rcases zv.mp c with rfl|c
  ·exact⟨_,h.r,.inr (.inl ⟨_,rfl⟩)⟩
  rcases zv.mp c with rfl|c
  ·exact⟨_,h.s,.inr (.inr ⟨_,rfl⟩)⟩
  ·rw[zy.mp c]
   exact⟨_,h.g,.inr (.inr ⟨_,rfl⟩)⟩
 ·unfold BkD.xm at c
  split at c
  ·exact(zo c).elim
  ·next y e=>
   rw[zy.mp c];exact⟨_,(h.y y e).1,.inr (.inr ⟨_,rfl⟩)⟩
def jd.fresh{H:Hp}{b:Addr}{k:BkD}(h:jd A H b k){x:Addr}(q:H x=none):x∉k.M b:=λc=>by
 obtain⟨o,e,_⟩:=h.own c;rw[q]at e;cases e
theorem jd.tup{H:Hp}{b:Addr}{k:BkD}(h:jd A H b k){x:Addr}{xs:List V}(q:H x=some (.tup xs)):vP H (k.M b) x=some (.tup xs):=sG q λc=>by
 obtain⟨o,e,c⟩:=h.own c;rw[q]at e;obtain rfl:=zw e;rcases c with⟨_,c⟩|⟨_,c⟩|⟨_,c⟩<;>cases c
theorem jd.ins{H:Hp}{b:Addr}{k:BkD}(h:jd A H b k){x C dx:Addr}{fs:List (Str×V)}{v:V}(q:H x=some (.ins C dx ((Str.ofString "number",v)::fs))):vP H (k.M b) x=some (.ins C dx ((Str.ofString "number",v)::fs)):=sG q λc=>by
 obtain⟨o,e,c⟩:=h.own c;rw[q]at e;obtain rfl:=zw e;rcases c with⟨_,c⟩|⟨_,c⟩|⟨_,c⟩
 ·injection c with _ _ c
  exact absurd (Prod.mk.inj (yU c).1).1 (by decide+kernel)
 ·cases c
 ·cases c
def jd.lots{H:Hp}{b:Addr}{k:BkD}(h:jd A H b k){ls:RL}(q:kE A H ls):kE A (vP H (k.M b)) ls:=λl z=>let⟨dx,e⟩:=q l z;⟨dx,h.ins e⟩
def jd.sal{H:Hp}{b y:Addr}{k:BkD}{s:jJ}(h:jd A H b k)(q:jO A H y s)(hp:s.pl∉k.M b):jO A (vP H (k.M b)) y s:=⟨let⟨dx,e⟩:=q.i;⟨dx,h.ins e⟩,sG q.p hp,λr z=>h.tup (q.t r z),q.l⟩
inductive Ba(A:Adr)(vs:List V)(H:Hp)(Q:VK)(E:XK):Prop
 |mk (b:Addr) (z:Str) (k:BkD) (_:vs=[.ref b,.str z]) (_:jd A H b k) (_:∀l H',Same H H'->H l=none->H' l=some (.lst (jt (rowOf k.rs z)))->kE A H' (rowOf k.rs z)->Q (.ref l) H'):Ba A vs H Q E
def kI(T:Txt K mg A D):jK P w K mg base CX0 1 A.abo D.abo ["self", "ware"] (Ba A):=by
 refine T.adw.okv La λ_ _ _ _ H vs Q E hr h=>?_
 ·obtain⟨b,z,kb,rfl,hB,k⟩:=h
  refine⟨_,(iB (iR (nu (xR (K:=K)) (by rfl) T.aeZ (by decide+kernel) (ir (pq (oV hr) (fv K 0) (pvD 1) (kZ iw) ⟨rfl,rfl,rfl,rfl⟩) iw)))),?_⟩;walk_at "a";obtain⟨dx,hb⟩:=hB.i;have hC:=Fb T hB;refine rd hb hC.c hC.r (by rfl) ⟨kb.rows,rfl,.inl ⟨_,.inl hB.r⟩,sz,λp hp=>?_⟩;have q:=iH (o:=.lst []) hp;refine⟨_,.inl ⟨_,Sum.inr z,.inl (q _ _ hB.r),rfl,rfl⟩,?_⟩;rcases akY kb.rs z with⟨t,h1,h2,h3,h4⟩|⟨h1,h2,h3⟩
  ·rw[h3]
   obtain⟨g1,g2⟩:=hB.frz.l t h1;show JB K [.ref t.2.1] _ Q;rw[ap_rListOf];refine⟨_,.inl (iI (q _ _ g1)),λl hl=>?_⟩;have s2:=q.trans (iH (o:=.lst (jt t.2.2)) hl);rw[h4]at k;exact k l _ s2 (q.free hl) iC (g2.same s2)
  ·rw[h1]
   show JB K [.ref p] _ Q;rw[ap_rListOf];refine⟨_,.inl (iI iC),λl hl=>?_⟩;rw[h2]at k;exact k l _ (q.trans (iH hl)) (q.free hl) iC λl h=>(zo h).elim
inductive vC(A:Adr)(vs:List V)(H:Hp)(Q:VK)(E:XK):Prop
 |mk (b q:Addr) (z:Str) (k:BkD) (ls:RL) (_:vs=[.ref b,.str z,.ref q]) (_:jd A H b k) (_:H q=some (.lst (jt ls))) (_:kE A H ls) (_:q∉k.M b) (_:k.rs.length<=50) (_:∀H',Stp (k.M b) (k.M b) H H'->jd A H' b {k with rs:=keepR k.rs z q ls}->Q .non H'):vC A vs H Q E
def jU(T:Txt K mg A D):jK P w K mg base CX0 1 A.abp D.abp ["self", "ware", "row"] (vC A):=by
 refine T.adx.okv Gx λ_ _ _ _ H vs Q E hr h=>?_
 ·obtain⟨b,q,z,kb,ls,rfl,hB,hq,hL,hs,hz,k⟩:=h
  refine⟨_,(iB (jT (iY (Ku) (jm (mG (K:=K)) (by rfl) T.aeY (by decide+kernel) (pav 2 iw)) iz (jf _)) (iB (uE (oV hr) (fv K 0) (pvD 1) (pvD 2) rfl)) (iB (jj (aaq (fv K 0) (pvD 1) nj ⟨rfl,rfl,rfl,rfl⟩))))),?_⟩;walk_at "a";obtain⟨dx,hb⟩:=hB.i;have hC:=Fb T hB;refine⟨_,.inl (iI hq),?_⟩;rw[iW];have hR:=hB.row (z:=z) (sG hq hs) (hB.lots hL);by_cases hl:ls.length=0
  ·rw[zc (by omega)]
   unfold aaH;walk_at "i";have e:keepR kb.rs z q ls=QS kb.rs z:=zg hl;rw[e]at hR k;refine rd hb hC.c hC.r (by rfl) ⟨kb.rows,rfl,.inl ⟨_,.inl hB.r⟩,_,hB.r,Sum.inr z,rfl,λv hv=>?_,λhn=>?_⟩
   ·rw[aau]
    exact k _ (pL BkD.mr) hR
   ·rcases akY kb.rs z with⟨t,_,_,h3,_⟩|⟨_,_,h3⟩
    ·rw[hn]at h3;cases h3
    ·rw[Vi h3]at k
     exact k H (pA (same_refl _)) hB
  ·rw[zg (by omega)]
   have e:keepR kb.rs z q ls=Zc kb.rs z q ls:=zc hl;rw[e]at hR k;refine rd hb hC.c hC.r (by rfl) ⟨kb.rows,rfl,_,vm (k:=Sum.inr z) hB.r (by unfold kvR;rw[za,zq];omega),?_⟩;rw[ajh _ _ _ ls];exact k _ (pL BkD.mr) hR
def jd.me{H:Hp}{b:Addr}{k:BkD}(h:jd A H b k){sp:Sp}:(k.C,sp)∈[(A.acX,sp),(A.acZ,sp)]:=by
 rcases h.c with⟨e,_⟩|⟨e,_⟩
 ·rw[e];exact zk
 ·rw[e];exact zt _ zk
def ZG{ls:RL}{i:Nat}{l:Addr×jq}(h:ls[i]? =some l):pcs (ls.take (i+1))=pcs (ls.take i)+l.2.p:=by
 rw[zS,h];show pcs (ls.take i++[l])=_;rw[ajv];unfold pcs;simp
inductive Ik(A:Adr)(vs:List V)(H:Hp)(Q:VK)(E:XK):Prop
 |mk (b q:Addr) (z:Str) (k:BkD) (ls:RL) (ns:List Int) (_:vs=[.ref b,.str z,.ref q]) (_:jd A H b k) (_:H q=some (.lst (jt ls))) (_:kE A H ls) (_:(∀l∈ls,1<=l.2.p/\l.2.n∈ns)) (_:Shp ns (rowOf k.rs z)) (_:ns.length<=58) (_:k.rs.length<=50) (_:∀q' ms H',Stp (k.M b) (k.M b) H H'->jd A H' b {k with rs:=keepR k.rs z q' ms}->Shp ns ms->pcs ms=pcs (rowOf k.rs z)+pcs ls->Q .non H'):Ik A vs H Q E
def oU(T:Txt K mg A D):jK P w K mg base CX0 5 A.abv D.abv ["self", "ware", "lots"] (Ik A):=by
 refine T.adC.okv uG λ_ _ _ _ H vs Q E hr h=>?_
 ·obtain⟨b,q,z,kb,ls,ns,rfl,hB,hq,hL,ao,hS,hn,hz,k⟩:=h
  refine ⟨_,(iu (iU (i:=3) uG.nd rfl orl (jx (pv 0) (mc T.agp T.ag8 (kI T) hr (lE T) (mc T.agC T.ag9 (kI T) hr (lE T) .nil)) jC (pav 1 iw)))
   (iu (nQ zO rfl (jM (K:=K) (pv 2)) (iK (i:=4) uG.nd rfl orl)
    (iB (iU (i:=3) uG.nd rfl orl (pcg (Sh T) hr T.adB (Vy T) (pav 3 (pav 4 iw))))))
   (iB (jj (jx (pv 0) (mc T.agp T.aha (jU T) hr (jZ T) (mc T.agC T.ahb (jU T) hr (jZ T) .nil)) jC (pav 1 (pav 3 iw))))))),?_⟩
  simp only[start_eq];walk_at "m";obtain⟨dx,hb⟩:=hB.i;refine md hb hB.me (by unfold BkD.fs BkD.xs;cases kb.x<;>rfl) ⟨b,z,kb,rfl,hB,λr H1 s1 al ak am=>?_⟩
  try dsimp only
  rw[ap_seq,ap_for];walk_at "i";refine⟨⟨_,iI (s1 _ _ hq)⟩,?_⟩
  refine Bw.listN (K:=K) (a:=q) (xs:=jt ls) (λi σ H2=>∃(r':Addr)(v4:Option V),σ=[some (.ref b),some (.str z),some (.ref q),some (.ref r'),v4]/\Same H H2/\H r'=none/\∃ms:RL,H2 r'=some (.lst (jt ms))/\kE A H2 ms/\Shp ns ms/\pcs ms=pcs (rowOf kb.rs z)+pcs (ls.take i))
   ⟨r,_,rfl,s1,al,rowOf kb.rs z,ak,am,hS,by unfold pcs;simp⟩ (λi σ H2 _ ⟨_,_,_,s,_⟩=>s.seq (iI hq)) ?_ ?_
  ·rintro i y σ H2 hi ⟨r',v4,rfl,s2,ag,ms,h2,ae,aa,ab⟩ N hN
   obtain⟨l,ac,rfl⟩:=jQ hi;have aq:=aa.len;have af:=ao l (get_mem ac);walk_at "i";refine⟨r',l.1,ms,l.2,rfl,h2,ae,(hL l (get_mem ac)).same s2,by omega,aa.u,λl3 ai H3 s3 ap h3 ah e1 e2=>?_⟩;obtain⟨g1,g2⟩:=Vv aa af.1 af.2 e1 e2;refine hN _ _ ⟨l3,_,rfl,s2.trans s3,s2.free ap,ai,h3,ah,g1,?_⟩;rw[g2,ab,ZG ac];omega
  ·rintro σ H2 ⟨r',v4,rfl,s2,ag,ms,h2,ae,aa,ab⟩
   have ad:=hB.same s2;obtain⟨ar,an⟩:=ad.i;rw[iW,zU]at ab
   try dsimp only
   walk_at "i";exact md an ad.me (by unfold BkD.fs BkD.xs;cases kb.x<;>rfl) ⟨b,r',z,kb,ms,rfl,ad,h2,ae,hB.fresh ag,hz,λH4 o4 aj=>k r' ms H4 ((pA s2).trans o4) aj aa ab⟩
noncomputable def Kg(rs:RW):List (Key×V):=rs.map λt=>(Sum.inr t.1,.int (pcs t.2.2))
def ZP{ns:List Int}{W:List Str}{rs:RW}(h:Nu ns W rs):Va (Kg rs):=by
 refine⟨λkv aa=>?_,?_⟩
 ·obtain⟨t,ht,rfl⟩:=zj.mp aa
  refine⟨t.1,pcs t.2.2,rfl,?_⟩;have h1:=BW (h.n t ht).2.p;have h2:=yj.mpr (h.n t ht).1;omega
 ·unfold Kg
  rw[zx];have:((λx:Key×V=>x.1)∘λt:Str×Addr×RL=>((Sum.inr t.1:Key),V.int (pcs t.2.2)))=(λz:Str=>(Sum.inr z:Key))∘λt:Str×Addr×RL=>t.1:=rfl;rw[this,<-zx];exact zT.mpr (h.u.imp fun{a b} q e=>q (yZ e))
theorem QC:∀(rs:RW)(z:Str),jA (Kg rs) z=pcs (rowOf rs z)
 |[],z=>rfl
 |t::rs,z=>by
  have q:=QC rs z;show jA ((Sum.inr t.1,V.int (pcs t.2.2))::Kg rs) z=pcs (if t.1=z then t.2.2 else rowOf rs z);by_cases e:t.1=z
  ·rw[zg e]
   unfold jA;rw[lH (by rw[e])]
  ·rw[zc e,<-q]
   unfold jA;rw[lC (λh=>e (yZ h))]
noncomputable def alE:Key->Str
 |.inr z=>z
 |.inl _=>Str.ofString ""
theorem Nr:∀{rs:RW}{t:Str×Addr×RL},(rs.map (·.1)).Nodup->t∈rs->rowOf rs t.1=t.2.2
 |u::rs,t,hu,q=>by
  rw[zi,zP]at hu;unfold rowOf;rcases zv.mp q with e|q
  ·rw[e,zg rfl]
  ·have:u.1≠t.1:=λe=>hu.1 (by rw[e];exact zj.mpr ⟨t,q,rfl⟩)
   rw[zc this];exact Nr hu.2 q
inductive FT(A:Adr)(vs:List V)(H:Hp)(Q:VK)(E:XK):Prop
 |mk (b:Addr) (k:BkD) (ns:List Int) (W:List Str) (_:vs=[.ref b]) (_:jd A H b k) (_:Nu ns W k.rs) (_:W.length<=50) (_:ns.length<=58) (_:∀p kv H',Same H H'->H p=none->H' p=some (.dK kv)->Va kv->kv.length<=50->(∀z,jA kv z=pcs (rowOf k.rs z))->Q (.ref p) H'):FT A vs H Q E
def Fj(T:Txt K mg A D):jK P w K mg base CX0 2 A.acg D.acg ["self"] (FT A):=by
 refine T.aem.okv PN λ_ _ _ _ H vs Q E hr h=>?_
 ·obtain⟨b,q,ns,W,rfl,z,hO,hW,hN,k⟩:=h
  refine⟨_,(iB (iR (Xy (nu (qm (K:=K) rfl) (by rfl) T.ae4 (by decide+kernel) (ir (jW (cap:=[none,none]) (N':=["ware", "row"]) rfl (by walk_at "c") (Th (JW (K:=K) yg zzf PySem.F.type_dict_items Uj (fv K 0))) (λ_ _ _ _=>(mZ (K:=K) (n:=2) rfl (jk (iK (i:=0) (show(["ware", "row"]:List Str).Nodup from by decide+kernel) rfl orl orr) (jk (iK (i:=1) (show(["ware", "row"]:List Str).Nodup from by decide+kernel) rfl orl orr) mX)))) (λ_ _ _ _=>jN) (λ_ _ _ _=>(mj (pav 0 (ir (pcg (Pz T) hr T.ael (QR T) (pav 1 iw)) iw))))) iw))))),?_⟩;walk_at "a";obtain⟨dx,hb⟩:=z.i;have hC:=Fb T z;refine rd hb hC.c hC.r (v:=.ref q.rows) (by rfl) ⟨.inr (.inr (.inl ⟨rfl,.inl ⟨_,z.r⟩⟩)),?_⟩;refine⟨_,_,rfl,rfl,z.r,λv hv=>⟨v,rfl,q.rows,iC,kvR q.rs,(iQ (jE z.r hv)).trans z.r,λo=>?_⟩⟩;have h3:(upd (upd H v (Gy v q.rows)) q.rows (.frz o (.dK (kvR q.rs)))) q.rows=some (.frz o (.dK (kvR q.rs))):=iC;have o3:∀a o',a≠q.rows->H a=some o'->(upd (upd H v (Gy v q.rows)) q.rows (.frz o (.dK (kvR q.rs)))) a=some o':=λa o' ai h=>(iQ ai).trans (iH hv _ _ h);generalize upd (upd H v (Gy v q.rows)) q.rows (.frz o (.dK (kvR q.rs)))=H3 at h3 o3⊢
  have aj:Qh A H3 q.rs:=λt ht=>⟨o3 _ _ (z.ner (z.frz.l t ht).1 λ_ c=>by cases c) (z.frz.l t ht).1,λl hl=>by
   obtain⟨dy,hy⟩:=(z.frz.l t ht).2 l hl;exact⟨dy,o3 _ _ (z.ner hy λ_ c=>by cases c) hy⟩⟩
  have ak:(kvR q.rs).length=q.rs.length:=by unfold kvR;rw[za]
  have hz:q.rs.length<=50:=zV hO.len hW;refine lq.itemsF (λσ=>∃a b,σ=[a,b]) (λ_=>true) (λkv v H'=>∃b,v=.ref b/\H' b=some (.tup [kV kv.1,.int (pcs (rowOf q.rs (alE kv.1)))])) h3 ⟨_,_,rfl⟩ (by rw[ak,zq];omega) ?_ ?_
  ·rintro D i kv aa σ H5 p R1 R2 ⟨_,_,rfl⟩ s5 hD ⟨acc,hA⟩ hp k1 k2
   obtain ⟨t,ht,rfl⟩:∃t,q.rs[i]? =some t/\kv=(Sum.inr t.1,.ref t.2.1):=by
    unfold kvR at aa;rw[zf]at aa
    cases e:q.rs[i]? with
    |none=>rw[e]at aa;cases aa
    |some t=>rw[e]at aa;exact⟨t,rfl,(zw aa).symm⟩
   have ab:=zn ht;have s6:=iH (o:=.tup [kV (Sum.inr t.1),.ref t.2.1]) hp;have h6:(upd H5 p (.tup [kV (Sum.inr t.1),.ref t.2.1])) p=some (.tup [.str t.1,.ref t.2.1]):=iC;have ad:=s6 _ _ hA;have ac:=(aj.same s5).same s6 t ab;generalize upd H5 p (.tup [kV (Sum.inr t.1),.ref t.2.1])=H6 at h6 ad ac k1 k2⊢;walk_at "i";refine⟨_,jG h6,rfl,_,_,rfl,_,_,rfl,rfl,t.2.1,t.2.2,rfl,ac.1,ac.2,by have:=(hO.n t ab).2.len;omega,λH7 s7=>?_⟩;refine⟨sz,λu hu=>k1 rfl _ _ _ ⟨_,_,rfl⟩ (s7.trans (iH hu)) λH' hb=>⟨u,rfl,?_⟩⟩;have e1:rowOf q.rs (alE (Sum.inr t.1))=t.2.2:=Nr hO.u ab;have ep:((t.2.2.map (·.2)).map jq.p).sum=pcs t.2.2:=by unfold pcs;rw[zx];rfl
   rw[e1,<-ep];exact hb _ _ (λe=>by rw[e,s7 _ _ ad]at hu;cases hu) iC
  ·intro D H4 acc hD s4 hA ae hF
   have ah:(kvR q.rs).filter (λ_=>true)=kvR q.rs:=zzE.mpr λ_ _=>rfl;rw[ah]at ae hF;have al:(Kg q.rs).length=q.rs.length:=by unfold Kg;rw[za]
   have hF':∀(i:Nat) v,acc[i]? =some v->∃kv,(Kg q.rs)[i]? =some kv/\∃b,v=.ref b/\H4 b=some (.tup [kV kv.1,kv.2]):=λi v hv=>by
    obtain⟨kv,h1,b,h2,h4⟩:=hF i v hv;unfold kvR at h1;rw[zf]at h1
    cases e:q.rs[i]? with
    |none=>rw[e]at h1;cases h1
    |some t=>
     rw[e]at h1;cases h1;have e1:rowOf q.rs (alE (Sum.inr t.1))=t.2.2:=Nr hO.u (zn e);rw[e1]at h4;exact⟨(Sum.inr t.1,.int (pcs t.2.2)),by unfold Kg;rw[zf,e];rfl,b,h2,h4⟩
   have hH:=ZP hO;rw[ap_dictPairs];refine⟨acc,kfD H4,vfD H4,iI hA,by omega,λy hy=>?_,λp hp=>?_⟩
   ·obtain⟨i,hi,e⟩:=zZ hy
    obtain⟨kv,_,b,rfl,hb⟩:=hF' i y (by rw[zh hi,e]);exact⟨b,rfl,by rw[Wd hb,WT hb];exact jG hb⟩
   ·rw[XD (by omega) hF' hH.u]
    have s5:=s4.trans (iH (o:=.dK (Kg q.rs)) hp);have af:p≠q.rows:=λe=>by rw[e,s4 _ _ h3]at hp;cases hp
    have ag:H p=none:=by
     cases e:H p with
     |none=>rfl
     |some o'=>rw[s4 _ _ (o3 _ _ af e)]at hp;cases hp
    refine⟨q.rows,o,kvR q.rs,s5 _ _ h3,λo u e=>?_,k p (Kg q.rs) _ (λa o' h=>?_) ag ((iQ af).trans iC) hH (by omega) (QC q.rs)⟩
    ·have e:H q.rows=some (.frz o u):=e
     rw[z.r]at e;cases e
    ·by_cases c:a=q.rows
     ·rw[c,z.r]at h
      rw[c,iC];exact h
     ·rw[iQ c]
      exact s5 _ _ (o3 _ _ c h)
inductive vz(A:Adr)(vs:List V)(H:Hp)(Q:VK)(E:XK):Prop
 |mk (b x:Addr) (k:BkD) (ns:List Int) (W:List Str) (d n m f:Int) (w:Str) (_:vs=[.ref b,.ref x]) (_:jd A H b k) (_:IsE A H x (.split d n w m f)) (_:Mo m f) (_:Nu ns W k.rs) (_:W.length<=50) (_:ns.length<=58) (_:(rowOf k.rs w=[]\/1<=pcs (rowOf k.rs w)*m/f)) (_:∀q ms H',Stp (k.M b) (k.M b) H H'->jd A H' b {k with rs:=keepR k.rs w q ms}->Shp ns ms->pcs ms=pcs (rowOf k.rs w)*m/f->Q .non H'):vz A vs H Q E
def vI(T:Txt K mg A D):jK P w K mg base CX0 5 A.ab1 D.ab1 ["self", "entry"] (vz A):=by
 refine T.ad8.okv GC λ_ _ _ _ H vs Q E hr h=>?_
 ·obtain⟨b,x,kb,ns,W,d,n,m,f,w,rfl,z,⟨dx,nv,hx,_⟩,hM,hO,hW,hN,hp,k⟩:=h
  refine⟨_,(iB (jj (jx (pv 0) (mc T.agp T.aha (jU T) hr (jZ T) (mc T.agC T.ahb (jU T) hr (jZ T) .nil)) jC (ir (fv K 1) (ir (pcg (NP T) hr T.ad7 (Sd T) (ir (jx (pv 0) (mc T.agp T.ag8 (kI T) hr (lE T) (mc T.agC T.ag9 (kI T) hr (lE T) .nil)) jC (ir (fv K 1) iw)) (ir (fv K 1) (ir (fv K 1) iw)))) iw))))),?_⟩;walk_at "a";obtain⟨db,hb⟩:=z.i;have hl:=(hO.row w).len;have hz:=hO.len;refine md hb z.me (by unfold BkD.fs BkD.xs;cases kb.x<;>rfl) (rd hx T.agi T.agm (by rfl) (md hb z.me (by unfold BkD.fs BkD.xs;cases kb.x<;>rfl) (rd hx T.agi T.agm (by rfl) ⟨b,w,kb,rfl,z,λr H1 s1 aj ac ai=>?_⟩)));have aa:=s1 _ _ hx;refine rd aa T.agi T.agn (by rfl) (rd aa T.agi T.ago (by rfl) ⟨r,rowOf kb.rs w,m,f,ns,rfl,ac,ai,by omega,hM,hO.row w,hp,λq ms H2 s2 hq ag ae ah ab=>?_⟩);have S2:=s1.trans s2;have ad:=z.same S2;exact⟨b,q,w,kb,ms,rfl,ad,ag,ae,z.fresh (s1.free hq),by omega,λH3 o3 af=>k q ms H3 ((pA S2).trans o3) af ah ab⟩
theorem jd.day{H:Hp}{b:Addr}{k:BkD}(h:jd A H b k){x C dx:Addr}{fs:List (Str×V)}{v:V}(q:H x=some (.ins C dx ((Str.ofString "day",v)::fs))):vP H (k.M b) x=some (.ins C dx ((Str.ofString "day",v)::fs)):=sG q λc=>by
 obtain⟨o,e,c⟩:=h.own c;rw[q]at e;obtain rfl:=zw e;rcases c with⟨_,c⟩|⟨_,c⟩|⟨_,c⟩
 ·injection c with _ _ c
  exact absurd (Prod.mk.inj (yU c).1).1 (by decide+kernel)
 ·cases c
 ·cases c
inductive qZ(A:Adr)(vs:List V)(H:Hp)(Q:VK)(E:XK):Prop
 |mk (b x:Addr) (k:BkD) (ns:List Int) (W:List Str) (d n s t:Int) (w u:Str) (_:vs=[.ref b,.ref x]) (_:jd A H b k) (_:IsE A H x (.part d n w u s t)) (_:Shr s t) (_:w≠u) (_:w∈W) (_:Nu ns W k.rs) (_:W.length<=50) (_:ns.length<=58) (_:∀q1 l1 q ms H',Stp (k.M b) (k.M b) H H'->jd A H' b {k with rs:=keepR (keepR k.rs w q1 l1) u q ms}->Shp ns l1->pcs l1=pcs (rowOf k.rs w)->Shp ns ms->pcs ms=pcs (rowOf k.rs u)+pcs (rowOf k.rs w)->Q .non H'):qZ A vs H Q E
def rA(T:Txt K mg A D):jK P w K mg base CX0 6 A.ab3 D.ab3 ["self", "entry"] (qZ A):=by
 refine T.aea.okv rK λ_ _ _ _ H vs Q E hr h=>?_
 ·obtain⟨b,x,kb,ns,W,d,n,s,t,w,u,rfl,hB,⟨dx,nv,hx,_⟩,hs,as,hw,hO,hW,hN,k⟩:=h
  refine ⟨_,(iu (iU (i:=2) rK.nd rfl orl (pcg (MT T) hr T.ad9 (Qk T) (ir (jx (pv 0) (mc T.agp T.ag8 (kI T) hr (lE T) (mc T.agC T.ag9 (kI T) hr (lE T) .nil)) jC (ir (fv K 1) iw)) (ir (fv K 1) (ir (fv K 1) iw)))))
   (iu (jj (jx (pv 0) (mc T.agp T.aha (jU T) hr (jZ T) (mc T.agC T.ahb (jU T) hr (jZ T) .nil)) jC (ir (fv K 1) (ir (jy (je (K:=K)) (pvD 2) iz (λ_ _=>rfl)) iw))))
   (iB (jj (jx (pv 0) (mc T.agp T.ahe (oU T) hr (qg T) (mc T.agC T.ahf (oU T) hr (qg T) .nil)) jC (ir (fv K 1) (ir (jy (je (K:=K)) (pvD 2) iz (λ_ _=>rfl)) iw))))))),?_⟩
  obtain⟨db,hb⟩:=hB.i;have hl:=(hO.row w).len;have hz:=hO.len;simp only[start_eq];walk_at "m";refine md hb hB.me (by unfold BkD.fs BkD.xs;cases kb.x<;>rfl) (rd hx T.afC T.afG (by rfl) ⟨b,w,kb,rfl,hB,λr H1 s1 ax al au=>?_⟩);have ad:=s1 _ _ hx;refine rd ad T.afC T.afI (by rfl) (rd ad T.afC T.afJ (by rfl) ⟨r,rowOf kb.rs w,s,t,rfl,al,au,by omega,hs,λtt q1 q2 l1 l2 H2 s2 am ap ay ht h1 h2 ak ao e1 e2=>?_⟩);have S2:=s1.trans s2;have z:=hB.same S2;obtain⟨aw,aq⟩:=z.i;have ab:=S2 _ _ hx;have m1:Sim (rowOf kb.rs w) l1:=Ye (f:=rst s t) (λd=>⟨rfl,rfl⟩) e1;have m2:Sim (rowOf kb.rs w) l2:=Ye (f:=prt s t) (λd=>⟨rfl,rfl⟩) e2;have ac:=m1.shp (hO.row w);have af:=m2.shp (hO.row w);walk_at "m";refine md aq z.me (by unfold BkD.fs BkD.xs;cases kb.x<;>rfl) (rd ab T.afC T.afG (by rfl) ⟨_,jG ht,_,rfl,b,q1,w,kb,l1,rfl,z,h1,ak,hB.fresh (s1.free am),by omega,λH3 o3 aa=>?_⟩);have G:Same (vP H2 (kb.M b)) H3:=λa o h=>uo _ _ (o3.same _ _ h);have an:=G _ _ (z.tup ht);have ah:=G _ _ (sG h2 (hB.fresh (s1.free ap)));have ag:=kE.same (z.lots ao) G;have ai:=G _ _ (z.day ab);obtain⟨ba,av⟩:=aa.i;have ae:=hO.keep hw (q:=q1) ac;have az:=ae.len;have ar:rowOf (keepR kb.rs w q1 l1) u=rowOf kb.rs u:=by rw[xO,zc (λc=>as c.symm)]
  exact md av aa.me (by unfold BkD.fs BkD.xs;cases kb.x<;>rfl) (rd ai T.afC T.afH (by rfl) ⟨_,jG an,_,rfl,b,q2,u,_,l2,ns,rfl,aa,ah,ag,λl hl=>⟨af.p l hl,af.m l hl⟩,ae.row u,hN,(show(keepR kb.rs w q1 l1).length<=50 by omega),λq' ms H4 o4 aj g1 g2=>k q1 l1 q' ms H4 ((pA S2).trans (o3.trans o4)) aj ac m1.pcs g1 (by rw[g2,m2.pcs];show pcs (rowOf (keepR kb.rs w q1 l1) u)+_=_;rw[ar])⟩)
def Um(k:BkD):k.fs.length<1000:=by unfold BkD.fs BkD.xs;cases k.x<;>simp
def QJ(k:BkD)(i:Int):Ez (Str.ofString "brought") (.int i) k.fs={k with brought:=i}.fs:=by cases k;rfl
def Wh(k:BkD)(i:Int):Ez (Str.ofString "paid") (.int i) k.fs={k with paid:=i}.fs:=by cases k;rfl
def alM{H:Hp}{y:Addr}{d:jq}(h:mD A H y d):kE A H [(y,d)]:=λl q=>by rw[zy.mp q];exact h
inductive wI(A:Adr)(vs:List V)(H:Hp)(Q:VK)(E:XK):Prop
 |mk (b x:Addr) (k:BkD) (ns:List Int) (W:List Str) (d n p c s:Int) (w:Str) (_:vs=[.ref b,.ref x]) (_:jd A H b k) (_:IsE A H x (.gift d n w p c s)) (_:1<=p) (_:n∈ns) (_:Nu ns W k.rs) (_:W.length<=50) (_:ns.length<=58) (_:∀q ms H',Stp (k.M b) (k.M b) H H'->jd A H' b {k with rs:=keepR k.rs w q ms,brought:=k.brought+c}->Shp ns ms->pcs ms=pcs (rowOf k.rs w)+p->Q .non H'):wI A vs H Q E
def vZ(T:Txt K mg A D):jK P w K mg base CX0 6 A.abF D.abF ["self", "entry"] (wI A):=by
 refine T.adM.okv Jz λ_ _ _ _ H vs Q E hr h=>?_
 ·obtain⟨b,x,kb,ns,W,d,n,p,c,s,w,rfl,hB,⟨dx,nv,hx,_⟩,hp,hn,hO,hW,hN,k⟩:=h
  refine ⟨_,(iu (jj (jx (pv 0) (mc T.agp T.ahe (oU T) hr (qg T) (mc T.agC T.ahf (oU T) hr (qg T) .nil)) jC (ir (fv K 1) (ir (kZ (ir (lK T.agZ (jR (K:=K) T) (hr.mono (by decide)) (by rfl) T.afm (jX T) .nil jC (ir (fv K 1) (ir (fv K 1) (ir (fv K 1) (ir (fv K 1) iw))))) iw)) iw))))
   (iB (jr (K:=K) (pv 0) (jb jD (fv K 0) (fv K 1)) rfl))),?_⟩
  obtain⟨db,hb⟩:=hB.i;have hz:=hO.len;simp only[start_eq];walk_at "m";refine md hb hB.me (by unfold BkD.fs BkD.xs;cases kb.x<;>rfl) (rd hx T.af3 T.af7 (by rfl) (rd hx T.af3 T.af6 (by rfl) (rd hx T.af3 T.aga (by rfl) (rd hx T.af3 T.af8 (by rfl) (rd hx T.af3 T.af9 (by rfl) (λy dy hy ag _=>?_))))));refine qe (A:=A) ⟨n,s,p,c⟩ hy ag λH1 s1 hL=>⟨sz,λq hq=>?_⟩;have s2:=s1.trans (iH (o:=.lst [.ref y]) hq);have ad:(upd H1 q (.lst [.ref y])) q=some (.lst (jt [(y,⟨n,s,p,c⟩)])):=iC;have ac:=hL.same (iH (o:=.lst [.ref y]) hq);generalize upd H1 q (HO.lst [.ref y])=H2 at s2 ad ac⊢;have ab:=hB.same s2;refine⟨b,q,w,kb,[(y,⟨n,s,p,c⟩)],ns,rfl,ab,ad,alM ac,λl hl=>by rw[zy.mp hl];exact⟨hp,hn⟩,hO.row w,hN,by omega,λq' ms H3 o3 z g1 g2=>?_⟩;have G:Same (vP H2 (kb.M b)) H3:=λa o h=>uo _ _ (o3.same _ _ h);have af:=G _ _ (ab.day (s2 _ _ hx));obtain⟨ah,ae⟩:=z.i;have aa:=Fb T z
  try dsimp only
  refine rd ae aa.c aa.b (by rfl) (rd af T.af3 T.af9 (by rfl) ⟨_,rfl,_,rfl,_,ah,_,ae,aa.c,aa.b,Um _,?_⟩);rw[QJ];exact k q' ms _ ((pA s2).trans (o3.trans (pL BkD.mb))) (z.put (la:=kb.last) (pa:=kb.paid) (br:=kb.brought+c) z.z.p) g1 (by rw[g2];unfold pcs;simp)
noncomputable def Tk(e:Ent)(w:Str)(p:Int):Prop:=(∃d n r f,e=.sell d n w p r f none)\/∃d n,e=.give d n w p none
def alw(T:Txt K mg A D){H:Hp}{x:Addr}{e:Ent}{w:Str}{p:Int}(h:IsE A H x e)(he:Tk e w p):∃C dx v fs,H x=some (.ins C dx ((Str.ofString "day",v)::fs))/\Cls K C/\iZ K C "ware" /\iZ K C "pieces" /\iZ K C "named" /\
  List.lookup (Str.ofString "ware") ((Str.ofString "day",v)::fs)=some (.str w)/\List.lookup (Str.ofString "pieces") ((Str.ofString "day",v)::fs)=some (.int p)/\List.lookup (Str.ofString "named") ((Str.ofString "day",v)::fs)=some .non:=by
 obtain⟨dx,q,z,hn⟩:=h;rcases he with⟨d,n,r,f,rfl⟩|⟨d,n,rfl⟩
 ·have hn:q=.non:=hn
  subst hn;exact⟨_,dx,_,_,z,T.afT,T.afX,T.afY,T.af1,by rfl,by rfl,by rfl⟩
 ·have hn:q=.non:=hn
  subst hn;exact⟨_,dx,_,_,z,T.agb,T.agf,T.agg,T.agh,by rfl,by rfl,by rfl⟩
inductive ut(A:Adr)(vs:List V)(H:Hp)(Q:VK)(E:XK):Prop
 |mk (b x Cw dw:Addr) (k:BkD) (ns:List Int) (W:List Str) (e:Ent) (w:Str) (p:Int) (_:vs=[.ref b,.ref x]) (_:jd A H b k) (_:H k.way=some (.ins Cw dw [])) (_:Tu A Cw) (_:IsE A H x e) (_:Tk e w p) (_:Nu ns W k.rs) (_:W.length<=50) (_:ns.length<=58) (_:1<=p) (_:p<=pcs (rowOf k.rs w)) (_:pcs (rowOf k.rs w)<=1000000000) (_:∀la l1 q ms H',Stp (k.M b) (k.M b) H H'->jd A H' b {k with rs:=keepR k.rs w q ms}->H la=none->H' la=some (.lst (jt l1))->kE A H' l1->Shp ns l1->pcs l1=p->l1≠[]->Shp ns ms->pcs ms=pcs (rowOf k.rs w) - p->Q (.ref la) H'):ut A vs H Q E
def mV(T:Txt K mg A D):jK P w K mg base CX0 6 A.abW D.abW ["self", "entry"] (ut A):=by
 refine T.ad3.okv uh λ_ _ _ _ H vs Q E hr h=>?_
 ·obtain⟨b,x,Cw,dw,kb,ns,W,e,w,p,rfl,hB,hw,aa,ai,he,hO,hW,hN,ah,ab,ac,k⟩:=h
  obtain⟨C,dx,v,fs,hx,c0,c1,c2,c3,f1,f2,f3⟩:=alw T ai he
  refine ⟨_,(iu (Vj ((iB (iU (i:=2) uh.nd rfl orl (pcg (Qd T) hr T.ad2 (Rz T) (ir (fv K 0) (ir (jx (pv 0) (mc T.agp T.ag8 (kI T) hr (lE T) (mc T.agC T.ag9 (kI T) hr (lE T) .nil)) jC (ir (fv K 1) iw)) (ir (fv K 1) (ir (fv K 1) iw)))))))))
   (iu (jj (jx (pv 0) (mc T.agp T.aha (jU T) hr (jZ T) (mc T.agC T.ahb (jU T) hr (jZ T) .nil)) jC (ir (fv K 1) (ir (jy (je (K:=K)) (pvD 2) iz (λ_ _=>rfl)) iw))))
   (iB (iR (jy (je (K:=K)) (pvD 2) iz (λ_ _=>rfl)))))),?_⟩
  simp only[start_eq];walk_at "m";obtain⟨db,hb⟩:=hB.i;have hC:=Fb T hB;have hz:=hO.len;refine rd hb hC.c hC.w (by rfl) (md hb hB.me (by unfold BkD.fs BkD.xs;cases kb.x<;>rfl) (rd hx c0 c1 f1 ⟨b,w,kb,rfl,hB,λl H1 s1 ak h1 ae=>?_⟩));have z:=s1 _ _ hx;refine rd z c0 c2 f2 (rd z c0 c3 f3 ⟨kb.way,Cw,dw,l,ns,rowOf kb.rs w,p,rfl,s1 _ _ hw,aa,h1,ae,hO.row w,by omega,ac,ah,ab,λt la lb l1 l2 H2 s2 ht h5 h6 h7 h8 g1 g2 g3 g4 g5 g6 g7 g8=>?_⟩);have S2:=s1.trans s2;have q:=hB.same S2;obtain⟨aj,ag⟩:=q.i;have ad:=s2 _ _ z;walk_at "m";refine md ag q.me (by unfold BkD.fs BkD.xs;cases kb.x<;>rfl) (rd ad c0 c1 f1 ⟨_,jG ht,.ref lb,rfl,b,lb,w,kb,l2,rfl,q,h6,h8,hB.fresh (s1.free g7),by omega,λH3 o3 af=>?_⟩);have G:Same (vP H2 (kb.M b)) H3:=λa o h=>uo _ _ (o3.same _ _ h);exact⟨_,jG (G _ _ (q.tup ht)),.ref la,rfl,k la l1 lb l2 H3 ((pA S2).trans o3) af (s1.free g6) (G _ _ (sG h5 (hB.fresh (s1.free g6)))) (kE.same (q.lots h7) G) g1 g2 g3 g4 g5⟩
inductive wZ(A:Adr)(vs:List V)(H:Hp)(Q:VK)(E:XK):Prop
 |mk (b x Cw dw:Addr) (k:BkD) (ns:List Int) (W:List Str) (d n p r f:Int) (w:Str) (_:vs=[.ref b,.ref x]) (_:jd A H b k) (_:H k.way=some (.ins Cw dw [])) (_:Tu A Cw) (_:IsE A H x (.sell d n w p r f none)) (_:Nu ns W k.rs) (_:W.length<=50) (_:ns.length<=58) (_:1<=p) (_:p<=pcs (rowOf k.rs w)) (_:pcs (rowOf k.rs w)<=1000000000) (_:k.sl.length<=100) (_:∀y s q ms H',Stp (k.M b) (k.M b) H H'->jd A H' b {k with rs:=keepR k.rs w q ms,sl:=k.sl++[(y,s)]}->s.n=n->s.d=d->s.w=w->s.lo=none->(s.ps.map λr=>r.2.2).sum=s.pr->Shp ns ms->pcs ms=pcs (rowOf k.rs w) - p->Q .non H'):wZ A vs H Q E
def wY(T:Txt K mg A D):jK P w K mg base CX0 7 A.abX D.abX ["self", "entry"] (wZ A):=by
 refine T.ad4.okv Il λ_ _ _ _ H vs Q E hr h=>?_
 ·obtain⟨b,x,Cw,dw,z,ns,W,d,n,p,r,f,w,rfl,hB,hw,ac,hx,hO,hW,hN,ai,ad,ae,ak,k⟩:=h
  refine⟨_,(iB (jj (tZ (K:=K) zL zQ zR lY (fv K 0) (ir (pcg (Ur T) hr T.adQ (Ys T) (pav 1 (ir (jx (pv 0) (mc T.agp T.ahs (mV T) hr (nC T) (mc T.agC T.aht (mV T) hr (nC T) .nil)) jC (pav 1 iw)) iw))) iw)))),?_⟩;obtain⟨db,hb⟩:=hB.i;have hC:=Fb T hB;walk_at "a";refine rd hb hC.c hC.s (v:=.ref z.sales) (by rfl) ⟨tyL (iI hB.s),?_⟩;refine md hb hB.me (by unfold BkD.fs BkD.xs;cases z.x<;>rfl) ⟨b,x,Cw,dw,z,ns,W,_,w,p,rfl,hB,hw,ac,hx,.inl ⟨d,n,r,f,rfl⟩,hO,hW,hN,ai,ad,ae,λla l1 q ms H1 o1 ab al h1 af g1 g2 g3 g4 g5=>?_⟩;have G:Same (vP H (z.M b)) H1:=λa o h=>uo _ _ (o1.same _ _ h);have ag:IsE A H1 x (.sell d n w p r f none):=let⟨dx,nv,e,c⟩:=hx;⟨dx,nv,G _ _ (hB.day e),c⟩
  have am:=g1.len;refine⟨x,la,d,n,p,r,f,w,none,l1,rfl,ag,h1,af,g3,by omega,g1.p,by omega,λy s H2 s2 hy aj hS e1 e2 e3 e4 e5 e6 e7=>?_⟩;have aa:=ab.same s2;have ah:=aa.sal hS (ab.fresh aj);have hE:=aa.sale ah;show Jc (V.ref z.sales) [V.ref y] H2 _;rw[ap_append];refine⟨_,aa.s,?_,?_⟩
  ·unfold pR
   rw[za,zq];show z.sl.length<_;omega
  rw[show pR z.sl++[V.ref y]=pR (z.sl++[(y,s)]) by unfold pR;rw[zu];rfl];exact k y s q ms _ (o1.trans ((pA s2).trans (pL BkD.ms))) hE e1 e2 e3 e5 e7 g4 g5
inductive xF(A:Adr)(vs:List V)(H:Hp)(Q:VK)(E:XK):Prop
 |mk (b x Cw dw:Addr) (k:BkD) (ns:List Int) (W:List Str) (d n p:Int) (w:Str) (_:vs=[.ref b,.ref x]) (_:jd A H b k) (_:H k.way=some (.ins Cw dw [])) (_:Tu A Cw) (_:IsE A H x (.give d n w p none)) (_:Nu ns W k.rs) (_:W.length<=50) (_:ns.length<=58) (_:1<=p) (_:p<=pcs (rowOf k.rs w)) (_:pcs (rowOf k.rs w)<=1000000000) (_:k.gv.length<=100) (_:∀g q ms H',Stp (k.M b) (k.M b) H H'->jd A H' b {k with rs:=keepR k.rs w q ms,gv:=k.gv++[g]}->g.2.2.2.length<=58->Shp ns ms->pcs ms=pcs (rowOf k.rs w) - p->Q .non H'):xF A vs H Q E
def wu(T:Txt K mg A D):jK P w K mg base CX0 7 A.abY D.abY ["self", "entry"] (xF A):=by
 refine T.ad5.okv Iv λ_ _ _ _ H vs Q E hr h=>?_
 ·obtain⟨b,x,Cw,dw,kb,ns,W,d,n,p,w,rfl,hB,hw,ac,hx,hO,hW,hN,aj,ad,ae,al,k⟩:=h
  refine⟨_,(iB (jj (tZ (K:=K) zL zQ zR lY (fv K 0) (ir (mj (ir (fv K 1) (ir (jx (pv 0) (mc T.agp T.ahs (mV T) hr (nC T) (mc T.agC T.aht (mV T) hr (nC T) .nil)) jC (pav 1 iw)) iw))) iw)))),?_⟩;obtain⟨db,hb⟩:=hB.i;have hC:=Fb T hB;have ai:=hx;obtain⟨dx,nv,ak,_⟩:=ai;walk_at "a";refine rd hb hC.c hC.g (v:=.ref kb.givs) (by rfl) ⟨tyL (iI hB.g),?_⟩;refine rd ak T.agb T.age (by rfl) (md hb hB.me (by unfold BkD.fs BkD.xs;cases kb.x<;>rfl) ⟨b,x,Cw,dw,kb,ns,W,_,w,p,rfl,hB,hw,ac,hx,.inr ⟨d,n,rfl⟩,hO,hW,hN,aj,ad,ae,λla l1 q ms H1 o1 ah af h1 ag g1 g2 g3 g4 g5=>?_⟩);have am:=g1.len;refine⟨sz,λt ht=>?_⟩;have s2:=iH (o:=.tup [V.int n,V.ref la]) ht;have ab:(upd H1 t (.tup [V.int n,V.ref la])) t=some (.tup [V.int n,V.ref la]):=iC;have z:=ah.same s2;have h2:=s2 _ _ h1;have aa:=ag.same s2;show Jc (V.ref kb.givs) [V.ref t] (upd H1 t (.tup [V.int n,V.ref la])) _;generalize upd H1 t (.tup [V.int n,V.ref la])=H2 at s2 ab z h2 aa;have hE:=z.giv (t:=(t,n,la,l1)) (z.tup ab) (sG h2 (hB.fresh af)) (z.lots aa);rw[ap_append];refine⟨_,z.g,?_,?_⟩
  ·unfold Od
   rw[za,zq];show kb.gv.length<_;omega
  rw[show Od kb.gv++[V.ref t]=Od (kb.gv++[(t,n,la,l1)]) by unfold Od;rw[zu];rfl];exact k _ q ms _ (o1.trans ((pA s2).trans (pL BkD.mv))) hE (by show l1.length<=58;omega) g4 g5
inductive wJ(A:Adr)(vs:List V)(H:Hp)(Q:VK)(E:XK):Prop
 |mk (x:Addr) (s:jJ) (n:Int) (_:vs=[.ref x,.int n]) (_:jO A H x s) (_:∀y pl H',Same H H'->H y=none->H pl=none->jO A H' y {s with pl:=pl,lo:=some n}->Q (.ref y) H'):wJ A vs H Q E
def Ig(T:Txt K mg A D):jK P w K mg base CX0 3 A.abC D.abC ["sale", "number"] (wJ A):=by
 refine T.adJ.F.okv Ip λ_ _ _ _ H vs Q E hr h=>?_
 ·obtain⟨x,s,n,rfl,q,k⟩:=h
  refine⟨_,(iB (iR (lK T.ag0 (pU (K:=K) T) (hr.mono (by decide)) (by rfl) T.afo (qK T) .nil jC (ir (fv K 0) (ir (fv K 0) (ir (fv K 0) (ir (fv K 0) (ir (fv K 0) (pav 1 iw))))))))),?_⟩;obtain⟨dx,hi⟩:=q.i;walk_at "a";refine rd hi T.agM T.agN (by rfl) (rd hi T.agM T.agO (by rfl) (rd hi T.agM T.agP (by rfl) (rd hi T.agM T.agQ (by rfl) (rd hi T.agM T.agR (by rfl) (λy dy hy z _=>?_)))));exact⟨y,s.pl,s.n,s.d,s.pr,s.w,some n,s.ps,H,dy,rfl,pY hy z,q.p,q.t,q.l,λpl H' s' aa hS=>⟨rfl,k y pl H' s' hy aa hS⟩⟩
noncomputable def jJ.opn(s:jJ):Bool:=decide (s.lo=none) && decide (s.pr - s.co<0)
inductive wC(A:Adr)(vs:List V)(H:Hp)(Q:VK)(E:XK):Prop
 |mk (x:Addr) (s:jJ) (_:vs=[.ref x]) (_:jO A H x s) (_:∀H',Same H H'->Q (.bl s.opn) H'):wC A vs H Q E
def Hi(T:Txt K mg A D):jK P w K mg base CX0 3 A.abz D.abz ["sale"] (wC A):=by
 refine T.adG.F.okv Hv λ_ _ _ _ H vs Q E z h=>?_
 ·obtain⟨x,s,rfl,q,k⟩:=h
  refine⟨_,(iB (iR (Oz (uP (Aj) (fv K 0) nj (jf _)) (Ug (uP (Mx) (lZ (pv 0) (mc T.agM T.ahc (rC T) z (uU T) .nil) jC) iz (jf _)))))),?_⟩;obtain⟨dx,hi⟩:=q.i;walk_at "a";refine rd hi T.agM T.agS (v:=loV s.lo) (by rfl) (?_);unfold jJ.opn at k
  cases e:s.lo with
  |none=>
   rw[zg (show loV none=V.non from rfl)];rw[e,zD rfl,Bool.true_and]at k;exact md hi zk (by rfl) ⟨x,s,rfl,q,λH' s'=>⟨_,rfl,k H' s'⟩⟩
  |some i=>
   rw[zc (show¬loV (some i)=V.non from λc=>by cases c)];rw[e,zF (λc=>by cases c),zzH]at k;exact k H (same_refl _)
noncomputable def aaR(s:jJ)(w:Str)(d g:Int):Bool:=s.opn && (decide (s.w=w) && decide (d - s.d<=g))
inductive lg(A:Adr)(vs:List V)(H:Hp)(Q:VK)(E:XK):Prop
 |mk (b x y:Addr) (k:BkD) (g:Int) (la:Addr) (zs:List V) (s:jJ) (d n p r f:Int) (w:Str) (_:vs=[.ref b,.ref x,.ref y]) (_:jd A H b k) (_:k.x=some (g,la,zs)) (_:IsE A H x (.buy d n w p r f)) (_:jO A H y s) (_:∀H',Same H H'->Q (.bl (aaR s w d g)) H'):lg A vs H Q E
def oA(T:Txt K mg A D):jK P w K mg base CX0 4 A.abA D.abA ["self", "entry", "sale"] (lg A):=by
 refine T.adH.okv vO λ_ _ _ _ H vs Q E hr h=>?_
 ·obtain⟨b,x,y,kb,g,la,zs,s,d,n,p,r,f,w,rfl,hB,hk,⟨dx,nv,hx,_⟩,hy,k⟩:=h
  refine⟨_,(iB (iR (Oz (pcg (Hi T) hr T.adG (Kr T) (pav 2 iw)) (Oz (uP (mU) (fv K 2) (fv K 1) (jf _)) (Ug (uP (MN) (jb pD (fv K 1) (fv K 2)) (fv K 0) (jf _))))))),?_⟩;walk_at "a";refine⟨y,s,rfl,hy,λH1 q=>?_⟩;refine⟨_,rfl,?_⟩;unfold aaR at k;obtain⟨dy,hi⟩:=hy.i;have aa:=q _ _ hi;have ab:=q _ _ hx
  cases e:s.opn with
  |false=>
   rw[zc (by decide)];rw[e,zzH]at k;exact k H1 q
  |true=>
   rw[zg rfl];rw[e,Bool.true_and]at k;refine rd aa T.agM T.agP (by rfl) (rd ab T.afK T.afO (by rfl) ⟨rfl,?_⟩);by_cases c:s.w=w
   ·rw[zg (by rw[c])]
    rw[zD c,Bool.true_and]at k;obtain⟨db,hb⟩:=(hB.same q).i;rcases hB.c with⟨_,c2⟩|⟨c1,_⟩
    ·rw[hk]at c2;cases c2
    ·refine rd ab T.afK T.afM (by rfl) (rd aa T.agM T.agO (by rfl) ⟨_,rfl,_,rfl,rd hb (by rw[c1];exact T.agC) (by rw[c1];exact T.agK) (v:=.int g) (by unfold BkD.fs BkD.xs;rw[hk];rfl) (?_)⟩)
     exact⟨_,rfl,k H1 q⟩
   ·rw[zc (λz=>c (V.str.inj z))]
    rw[zF c,zzH]at k;exact k H1 q
noncomputable def wH{α:Type}(P:α->V->Prop):List α->List V->Prop
 |[],[]=>True
 |y::ys,v::vs=>P y v/\wH P ys vs
 |[],_::_=>False
 |_::_,[]=>False
theorem wH.snoc{α:Type}{P:α->V->Prop}:∀{ys:List α}{vs:List V}{y:α}{v:V},wH P ys vs->P y v->wH P (ys++[y]) (vs++[v])
 |[],[],_,_,_,p=>⟨p,trivial⟩
 |_::_,_::_,_,_,h,p=>⟨h.1,wH.snoc h.2 p⟩
 |[],_::_,_,_,h,_=>h.elim
 |_::_,[],_,_,h,_=>h.elim
theorem wH.imp{α:Type}{P R:α->V->Prop}:∀{ys:List α}{vs:List V},wH P ys vs->(∀y v,P y v->R y v)->wH R ys vs
 |[],[],_,_=>trivial
 |_::_,_::_,h,f=>⟨f _ _ h.1,wH.imp h.2 f⟩
 |[],_::_,h,_=>h.elim
 |_::_,[],h,_=>h.elim
theorem wH.len{α:Type}{P:α->V->Prop}:∀{ys:List α}{vs:List V},wH P ys vs->vs.length=ys.length
 |[],[],_=>rfl
 |_::_,_::_,h=>congrArg (·+1) (wH.len h.2)
 |[],_::_,h=>h.elim
 |_::_,[],h=>h.elim
theorem wH.map{α:Type}{f:α->V}:∀{ys:List α}{vs:List V},wH (λy v=>v=f y) ys vs->vs=ys.map f
 |[],[],_=>rfl
 |_::_,_::_,h=>by rw[zi,<-wH.map h.2,h.1]
 |[],_::_,h=>h.elim
 |_::_,[],h=>h.elim
def wH.ints{α:Type}{f:α->Int}{ys:List α}{vs:List V}(h:wH (λy v=>v=.int (f y)) ys vs):vs=(ys.map f).map V.int:=by rw[wH.map h,zx];rfl
def filter_all{α:Type}(l:List α):l.filter (λ_=>true)=l:=zzE.mpr λ_ _=>rfl
def aiR{α:Type}{f:α->V}{ys:List α}{a:Addr}{cap:List (Option Nat)}{g:TG}{tt:TT}{te:TE}{σ:L2.St}{H:Hp}{Q:VK}(Sσ:L2.St->Prop)(ab:α->Bool)(F:Addr->α->V->Hp->Prop)(hS:SqL K H a (ys.map f))(h0:Sσ (qi σ cap))(hz:ys.length<=100000)
  (hs:∀D y,y∈ys->∀(σ:L2.St)(H5:Hp)(R1:L2.St->VK)(R2:L2.St->Hp->Prop),Sσ σ->Same H H5->H D=none->(∃acc,H5 D=some (.lst acc))->(ab y=true->∀v z H6,Sσ z->Same H5 H6->(∀H',But D H6 H'->F D y v H')->R1 z v H6)->(ab y=false->∀z H6,Sσ z->Same H5 H6->R2 z H6)->g (f y) σ H5 λz H4=>tt z H4 λb H5=>if b=true then te z H5 (R1 z)else R2 z H5)
  (k:∀D H' acc,H D=none->Same H H'->H' D=some (.lst acc)->wH (λy v=>F D y v H') (ys.filter ab) acc->Q (.ref D) H'):lq cap (Itl K a) g tt te σ H Q:=by
 intro D hD;have hz':ys.length<=sizeLine:=by rw[zq];omega
 refine⟨λi m acc σ H2=>m=ys.length - i/\i<=ys.length/\Sσ σ/\Same H H2/\acc.length<=i/\wH (λy v=>∀H',But D H2 H'->F D y v H') ((ys.take i).filter ab) acc,⟨ys.length,rfl,zJ _,h0,iH hD,zJ _,trivial⟩,?_⟩;rintro i m acc σ1 H2 ⟨rfl,hi,hσ,sm,ae,hF⟩ hA;by_cases aa:i<ys.length
 ·have hx:(ys.map f)[i]? =some (f ys[i]):=by simp[aa]
  refine .inr ⟨⟨ys.map f,f ys[i],sm.seq hS,hx⟩,λy H3 hy=>?_⟩;obtain rfl:H3=H2:=hy.1;obtain rfl:y=f ys[i]:=zw ((hy.2 _ (sm.seq hS)).symm.trans hx);have htk:ys.take (i+1)=ys.take i++[ys[i]]:=by rw[zS,zh aa];rfl
  refine hs D ys[i] (yE aa) σ1 H3 _ _ hσ sm hD ⟨_,hA⟩ (λhf v z H6 ac s6 ad=>?_) λhf z H6 ac s6=>?_
  ·refine⟨acc,s6 _ _ hA,by omega,ys.length - (i+1),by omega,rfl,aa,ac,(sm.trans s6).upd hD,by rw[zB];show acc.length+1<=_;omega,?_⟩
   rw[htk,yo,yq hf];exact wH.snoc (wH.imp hF λy v h H' hb=>h H' λb o q e=>hb b o q ((iQ q).trans (s6 _ _ e))) λH' hb=>ad H' λb o q e=>hb b o q ((iQ q).trans e)
  ·refine⟨ys.length - (i+1),by omega,acc,s6 _ _ hA,rfl,aa,ac,sm.trans s6,by omega,?_⟩
   rw[htk,yo,yr (by rw[hf];decide),List.filter_nil,yn];exact wH.imp hF λy v h H' hb=>h H' λb o q e=>hb b o q (s6 _ _ e)
 ·obtain rfl:i=ys.length:=by omega
  rw[zU]at hF;exact .inl ⟨⟨_,sm.seq hS,by rw[za];exact zm _⟩,k D H2 acc hD sm hA (wH.imp hF λy v h=>h H2 λb o _ e=>e)⟩
def Pb{α:Type}{f:α->V}{ys:List α}{a:Addr}{cap:List (Option Nat)}{g:TG}{te:TE}{σ:L2.St}{H:Hp}{Q:VK}(Sσ:L2.St->Prop)(F:Addr->α->V->Hp->Prop)(hS:SqL K H a (ys.map f))(h0:Sσ (qi σ cap))(hz:ys.length<=100000)
  (hs:∀D y,y∈ys->∀(σ:L2.St)(q:Hp)(R:L2.St->VK),Sσ σ->Same H q->H D=none->(∃acc,q D=some (.lst acc))->(∀v z H6,Sσ z->Same q H6->(∀H',But D H6 H'->F D y v H')->R z v H6)->g (f y) σ q λz H4=>te z H4 (R z))
  (k:∀D H' acc,H D=none->Same H H'->H' D=some (.lst acc)->wH (λy v=>F D y v H') ys acc->Q (.ref D) H'):lq cap (Itl K a) g Mp te σ H Q:=
 aiR Sσ (λ_=>true) F hS h0 hz (λD y hy σ5 q R1 R2 hσ sm hD hA k1 k2=>by
  simp only[ap_noIf,if_true];exact hs D y hy σ5 q R1 hσ sm hD hA (k1 rfl)) λD H' acc hD sm hA hF=>k D H' acc hD sm hA (by rw[filter_all]at hF;exact hF)
def BkD.noM(k:BkD)(f:Str)(h:f∉["way", "rows", "last_place", "paid", "brought", "sales_done", "givings_done", "days", "layings"].map Str.ofString):List.lookup f k.fs=none:=by
 simp only[zi,y6,zv,zo,or_false,not_or]at h;obtain⟨h1,h2,h3,h4,h5,z,h7,h8,h9⟩:=h;unfold BkD.fs BkD.xs
 have q:∀{g:String}{v:V}{r:List (Str×V)},f≠Str.ofString g->List.lookup f ((Str.ofString g,v)::r)=List.lookup f r:=fun{g v r} c=>by
  rw[zzZ];rw[show(f==Str.ofString g)=false from beq_eq_false_iff_ne.mpr c]
 cases k.x with
 |none=>exact(q h1).trans ((q h2).trans ((q h3).trans ((q h4).trans ((q h5).trans ((q z).trans (q h7))))))
 |some y=>exact(q h1).trans ((q h2).trans ((q h3).trans ((q h4).trans ((q h5).trans ((q z).trans ((q h7).trans ((q h8).trans (q h9))))))))
def uT{H:Hp}{M:List Addr}{a:Addr}{o:HO}(h:vP H M a=some o):a∉M:=λc=>by
 unfold vP at h;rw[zg c]at h;cases h
noncomputable def jJ.core(s:jJ):Int×Int×Str×Int×SP5:=(s.n,s.d,s.w,s.pr,s.ps)
def Js(sl:List (Addr×jJ)):(pR sl).length=sl.length:=by unfold pR;rw[za]
def jd.swap{H H':Hp}{b D dx:Addr}{k:BkD}{sl:List (Addr×jJ)}(h:jd A H b k)(s:Same H H')(z:H D=none)(hl:H' D=some (.lst (pR sl)))(hS:∀t∈sl,jO A H' t.1 t.2/\t.2.pl≠D/\t.2.pl∉k.M b):
  Stp (k.M b) ({k with sales:=D,sl:=sl}.M b) H (upd H' b (.ins k.C dx {k with sales:=D}.fs))/\jd A (upd H' b (.ins k.C dx {k with sales:=D}.fs)) b {k with sales:=D,sl:=sl}:=by
 have hM:∀m∈{k with sales:=D,sl:=sl}.M b,m=D\/m∈k.M b:=λm hm=>by
  have hm:m∈[b,k.rows,D,k.givs]++k.xm:=hm;show m=D\/m∈[b,k.rows,k.sales,k.givs]++k.xm;simp only[zI,zv,zo,or_false]at hm⊢;rcases hm with(c|c|c|c)|c
  ·exact .inr (.inl (.inl c))
  ·exact .inr (.inl (.inr (.inl c)))
  ·exact .inl c
  ·exact .inr (.inl (.inr (.inr (.inr c))))
  ·exact .inr (.inr c)
 have aa:D≠b:=λe=>by obtain⟨dy,hb⟩:=h.i;rw[<-e,z]at hb;cases hb
 have st:Stp (k.M b) ({k with sales:=D,sl:=sl}.M b) H (upd H' b (.ins k.C dx {k with sales:=D}.fs)):=⟨λa o n e=>(iQ λc:a=b=>n (c▸BkD.mb)).trans (s _ _ e),λm hm=>(hM m hm).elim (λe=> .inr (e▸z)) .inl⟩;have n:∀{a:Addr}{o:HO},H a=some o->(∀C dx fs,o≠.ins C dx fs)->(upd H' b (.ins k.C dx {k with sales:=D}.fs)) a=some o:=λe f=>(iQ (h.neb e f)).trans (s _ _ e);have hB':=h.same s;have F:=h.z.same st.same;have g:∀{a:Addr}{o:HO},H' a=some o->a≠D->a∉k.M b->vP (upd H' b (.ins k.C dx {k with sales:=D}.fs)) ({k with sales:=D,sl:=sl}.M b) a=some o:=fun{a o} e c1 q=>sG ((iQ λc:a=b=>q (c▸BkD.mb)).trans e) λc=>(hM _ c).elim c1 q;refine⟨st,h.c,⟨dx,iC⟩,n h.r λ_ _ _ c=>(by cases c),(iQ aa).trans hl,n h.g λ_ _ _ c=>(by cases c),λy e=>?_,λc=>?_,⟨F.l,F.p,λt ht=>?_,F.g⟩⟩
 ·obtain⟨a,t⟩:=h.y y e
  exact⟨n a λ_ _ _ c=>(by cases c),fun(c:y.2.1=D)=>(by rw[c,z]at a;cases a),t.2⟩
 ·have:=h.g
  rw[<-show D=k.givs from c,z]at this;cases this
 ·obtain⟨⟨⟨dy,hi⟩,hp,hT,ab⟩,c1,q⟩:=hS t ht
  refine⟨⟨dy,g hi (λc=>by rw[c,hl]at hi;cases hi) (uT (hB'.ins hi))⟩,g hp c1 q,λr hr=>g (hT r hr) (λc=>?_) (uT (hB'.tup (hT r hr))),ab⟩;have:=hT r hr;rw[c,hl]at this;cases this
def jd.lay{H:Hp}{b la:Addr}{k:BkD}{g:Int}{zs ws:List V}(h:jd A H b k)(q:k.x=some (g,la,zs)):Stp (k.M b) ({k with x:=some (g,la,ws)}.M b) H (upd H la (.lst ws))/\jd A (upd H la (.lst ws)) b {k with x:=some (g,la,ws)}:=by
 have hM:{k with x:=some (g,la,ws)}.M b=k.M b:=by unfold BkD.M BkD.xm;rw[q]
 have hm:la∈k.M b:=by unfold BkD.M BkD.xm;rw[q];exact zG _ zk
 obtain⟨y1,y2,z⟩:=h.y _ q;have hs:=pL (H:=H) (o:=.lst ws) hm;have F:=h.z.same hs.same;have n:∀{a:Addr}{o:HO},H a=some o->a≠la->(upd H la (.lst ws)) a=some o:=λe f=>(iQ f).trans e;refine⟨by rw[hM];exact hs,h.c.imp (λc=>by rw[q]at c;cases c.2) λc=>⟨c.1,λc=>by cases c⟩,?_,n h.r λc=>?_,n h.s (Ne.symm y2),n h.g (Ne.symm z),λy e=>?_,h.d,?_⟩
 ·obtain⟨dx,e⟩:=h.i
  refine⟨dx,(n e λc=>by rw[c,y1]at e;cases e).trans ?_⟩;unfold BkD.fs BkD.xs;rw[q]
 ·have:=h.r
  rw[c,y1]at this;cases this
 ·cases e
  exact⟨iC,y2,z⟩
 ·rw[hM]
  exact⟨F.l,F.p,F.s,F.g⟩
noncomputable def BkD.ll(k:BkD):Nat:=match k.x with
 |none=>0
 |some y=>y.2.2.length
inductive Vx(A:Adr)(C:Addr)(z:Bool)(vs:List V)(H:Hp)(Q:VK)(E:XK):Prop
 |mk (b x:Addr) (k:BkD) (d n p r f:Int) (w:Str) (_:vs=[.ref b,.ref x]) (_:k.C=C) (_:(z=true->k.x≠none)) (_:jd A H b k) (_:IsE A H x (.buy d n w p r f)) (_:k.sl.length<=100) (_:k.ll<=10000) (_:∀sa sl x' i H',Stp (k.M b) ({k with sales:=sa,sl:=sl,x:=x'}.M b) H H'->jd A H' b {k with sales:=sa,sl:=sl,x:=x'}->sl.map (λt=>t.2.core)=k.sl.map (λt=>t.2.core)->{k with sales:=sa,sl:=sl,x:=x'}.ll<=k.ll+100->Q (.int i) H'):Vx A C z vs H Q E
def Lb(T:Txt K mg A D):jK P w K mg base CX0 1 A.abw D.abw ["self", "entry"] (Vx A A.acX false):=by
 refine T.adD.okv Ky λ_ _ _ _ H vs Q E hr h=>?_
 ·obtain⟨b,x,q,d,n,p,r,f,w,rfl,hC,hz,hB,hx,hl,z,k⟩:=h
  refine⟨_,(iB (iR iz)),?_⟩;walk_at "a";exact k q.sales q.sl q.x 0 H (pA (same_refl _)) hB rfl (yy _ _)
def jO.but{H H':Hp}{D x:Addr}{s:jJ}{xs:List V}(h:jO A H x s)(q:H D=some (.lst xs))(hp:s.pl≠D)(b:But D H H'):jO A H' x s:=by
 obtain⟨dx,hi⟩:=h.i;refine⟨⟨dx,b _ _ (λe=>by rw[e,q]at hi;cases hi) hi⟩,b _ _ hp h.p,λr z=>?_,h.l⟩;have h1:=h.t r z;exact b _ _ (λe=>by rw[e,q]at h1;cases h1) h1
theorem ajA{H:Hp}{R:jJ->jJ->Prop}:∀{sl:List (Addr×jJ)}{acc:List V},wH (λt v=>∃y s,v=.ref y/\jO A H y s/\R t.2 s/\s.core=t.2.core) sl acc->∃q:List (Addr×jJ),acc=pR q/\q.map (λt=>t.2.core)=sl.map (λt=>t.2.core)/\∀t∈q,jO A H t.1 t.2/\∃u∈sl,R u.2 t.2
 |[],[],_=>⟨[],rfl,rfl,λt h=>(zo h).elim⟩
 |t::sl,v::acc,h=>by
  obtain⟨⟨y,s,rfl,hs,hr,hc⟩,h2⟩:=h;obtain⟨q,e1,e2,e3⟩:=ajA h2;refine⟨(y,s)::q,by rw[e1];rfl,by rw[zi,e2,hc];rfl,λu z=>?_⟩;rcases zv.mp z with rfl|z
  ·exact⟨hs,t,zk,hr⟩
  ·obtain⟨g1,v,g2,g3⟩:=e3 u z
   exact⟨g1,v,zt _ g2,g3⟩
 |[],_::_,h=>h.elim
 |_::_,[],h=>h.elim
def Vo(k:BkD)(a:Addr):Ez (Str.ofString "sales_done") (.ref a) k.fs={k with sales:=a}.fs:=by cases k;rfl
def xZ(T:Txt K mg A D):jK P w K mg base CX0 5 A.abD D.abD ["self", "entry"] (Vx A A.acZ true):=by
 refine T.adK.okv pX λ_ _ _ _ H vs Q E hr h=>?_
 ·obtain⟨b,x,kb,d,n,p,r,f,w,rfl,ai,hz,hB,hx,hl,am,k⟩:=h
  obtain⟨⟨g,la,zs⟩,hk⟩:=Option.ne_none_iff_exists'.mp (hz rfl)
  refine ⟨_,(iu (oO (i:=2) pX.nd rfl rfl (cap:=[none,some 0,some 1]) (N':=["sale", "self", "entry"]) rfl (by walk_at "c") (lJ (K:=K) (fv K 0)) (λ_ _ _ _=>(iK (i:=0) (show(["sale", "self", "entry"]:List Str).Nodup from by decide+kernel) rfl orl orr)) (λ_ _ _ _=>(HW (nO (jx (pv 1) (mc T.agC T.ahd (oA T) hr (pB T) .nil) jC (pav 2 (pav 0 iw)))))) (λ_ _ _ _=>(pvD 0)))
   (iu (jj (tZ (K:=K) zL PySem.F.slot_list_extend PySem.F.type_list_extend YJ (fv K 0) (ir (jW (cap:=[none,some 1]) (N':=["sale", "entry"]) rfl (by walk_at "c") (jM (K:=K) (pv 2)) (λ_ _ _ _=>(iK (i:=0) (show(["sale", "entry"]:List Str).Nodup from by decide+kernel) rfl orl orr)) (λ_ _ _ _=>jN) (λ_ _ _ _=>(mj (ir (fv K 0) (ir (fv K 1) (ir (akl aaQ (lZ (pv 0) (mc T.agM T.ahc (rC T) hr (uU T) .nil) jC)) iw)))))) iw)))
   (iu (jr (K:=K) (pv 0) (jW (cap:=[none,some 0,some 1]) (N':=["sale", "self", "entry"]) rfl (by walk_at "c") (lJ (K:=K) (fv K 0)) (λ_ _ _ _=>(iK (i:=0) (show(["sale", "self", "entry"]:List Str).Nodup from by decide+kernel) rfl orl orr)) (λ_ _ _ _=>jN) (λ_ _ _ _=>(uK (nO (jx (pv 1) (mc T.agC T.ahd (oA T) hr (pB T) .nil) jC (pav 2 (pav 0 iw)))) (pcg (Ig T) hr T.adJ (KQ T) (pav 0 (ir (fv K 2) iw))) (pvD 0)))) rfl)
   (iB (iR (jm (ql (K:=K) rfl) (by rfl) T.ae3 (by decide+kernel) (ir (jW (cap:=[none]) (N':=["sale"]) rfl (by walk_at "c") (jM (K:=K) (pv 2)) (λ_ _ _ _=>(iK (i:=0) nd1 rfl orl orr)) (λ_ _ _ _=>jN) (λ_ _ _ _=>(akl aaQ (lZ (pv 0) (mc T.agM T.ahc (rC T) hr (uU T) .nil) jC)))) iw))))))),?_⟩
  obtain⟨db,hb⟩:=hB.i;have hC:=Fb T hB;have bv:zs.length<=10000:=by unfold BkD.ll at am;rw[hk]at am;exact am
  simp only[start_eq];walk_at "m";refine rd hb hC.c hC.s (by rfl) ⟨kb.sales,rfl,⟨_,iI hB.s⟩,?_⟩;refine aiR (f:=λt:Addr×jJ=>V.ref t.1) (λσ=>∃a,σ=[a,some (.ref b),some (.ref x)]) (λt=>aaR t.2 w d g) (λ_ t v _=>v=.ref t.1) (iI hB.s) ⟨_,rfl⟩ (by omega) ?_ ?_
  ·rintro Da t ht σ H5 R1 R2 ⟨_,rfl⟩ sm hD hA k1 k2
   walk_at "i";obtain⟨al,ap⟩:=(hB.same sm).i;refine⟨_,al,_,ap,lg A,by rw[ai];exact zk,BkD.noM _ _ (by decide+kernel),b,x,t.1,kb,g,la,zs,t.2,d,n,p,r,f,w,rfl,hB.same sm,hk,hx.same sm,(hB.frz.s t ht).same sm,λH6 s6=>⟨_,rfl,?_⟩⟩
   cases e:aaR t.2 w d g with
   |true=>rw[zg rfl];exact k1 e _ _ H6 ⟨_,rfl⟩ s6 λ_ _=>rfl
   |false=>rw[zc (by decide)];exact k2 e _ H6 ⟨_,rfl⟩ s6
  ·intro D1 H1 br aw s1 ae be
   rw[wH.map be]at ae;have ay:(kb.sl.filter λt=>aaR t.2 w d g).length<=kb.sl.length:=yk _ _;have ah:∀t∈kb.sl.filter λt=>aaR t.2 w d g,t∈kb.sl:=λt h=>(yB.mp h).1;generalize(kb.sl.filter λt=>aaR t.2 w d g)=tk at ae ay ah;have ao:=hB.same s1;obtain⟨bw,bl⟩:=ao.i;walk_at "m";refine rd bl (by rw[ai];exact T.agC) (by rw[ai];exact T.agL) (v:=.ref la) (by unfold BkD.fs BkD.xs;rw[hk];rfl) ⟨tyL (iI (ao.y _ hk).1),⟨_,iI ae⟩,?_⟩;refine Pb (f:=λt:Addr×jJ=>V.ref t.1) (λσ=>∃a,σ=[a,some (.ref x)]) (λ_ _ _ _=>True) (iI ae) ⟨_,rfl⟩ (by omega) ?_ ?_
   ·rintro Da t ht σ H5 R ⟨_,rfl⟩ sm hD hA kk
    have ab:=((hB.frz.s t (ah t ht)).same s1).same sm;obtain⟨dt,hi⟩:=ab.i;obtain⟨dx,nv,ar,_⟩:=(hx.same s1).same sm;walk_at "i";exact rd hi T.agM T.agN (by rfl) (rd ar T.afK T.afN (by rfl) (md hi zk (by rfl) ⟨t.1,t.2,rfl,ab,λH6 s6=>⟨_,rfl,sz,λp hp=>kk _ _ _ ⟨_,rfl⟩ (s6.trans (iH hp)) λ_ _=>trivial⟩⟩))
   ·intro D2 H2 q bu s2 bj bf
    have bz:=wH.len bf;have an:=ao.same s2;refine⟨la,D2,zs,q,rfl,rfl,(an.y _ hk).1,bj,by rw[zq];omega,?_⟩;obtain⟨o3,aa⟩:=an.lay hk (ws:=zs++q);have S2:=s1.trans s2;have aj:(upd H2 la (.lst (zs++q))) D1=some (.lst (tk.map λt=>V.ref t.1)):=o3.k D1 _ (hB.fresh aw) (s2 _ _ ae);have av:IsE A (upd H2 la (.lst (zs++q))) x (.buy d n w p r f):=let⟨dx,nv,e,c⟩:=hx.same S2;⟨dx,nv,o3.k x _ (uT (an.day e)) e,c⟩
    generalize upd H2 la (.lst (zs++q))=H3 at o3 aa aj av;obtain⟨k3,ac⟩:∃k3,k3={kb with x:=some (g,la,zs++q)}:=⟨_,rfl⟩;have bh:k3.C=A.acZ:=by rw[ac];exact ai
    have bd:k3.x=some (g,la,zs++q):=by rw[ac]
    have bb:k3.sl=kb.sl:=by rw[ac]
    have az:∀{sa sl},{kb with sales:=sa,sl:=sl,x:=some (g,la,zs++q)}={k3 with sales:=sa,sl:=sl}:=by rw[ac];exact rfl
    rw[<-ac]at o3 aa;clear ac;rw[<-bb]at hl ay ah k;obtain⟨bt,bn⟩:=aa.i;have ag:=Fb T aa;walk_at "m";refine rd bn ag.c ag.s (by rfl) ⟨k3.sales,rfl,⟨_,iI aa.s⟩,?_⟩;refine Pb (f:=λt:Addr×jJ=>V.ref t.1) (λσ=>∃a,σ=[a,some (.ref b),some (.ref x)]) (λDa t v H'=>∃y s,v=.ref y/\jO A H' y s/\(s.pl≠Da/\s.pl∉k3.M b)/\s.core=t.2.core) (iI aa.s) ⟨_,rfl⟩ (by omega) ?_ ?_
    ·rintro Da t ht σ H5 R ⟨_,rfl⟩ sm hD ⟨acc,hA⟩ kk
     have ad:=aa.same sm;obtain⟨al,ap⟩:=ad.i;have ax:=aa.frz.s t ht;have ab:=ax.same sm;have au:=av.same sm;walk_at "i";refine⟨_,al,_,ap,lg A,by rw[bh];exact zk,BkD.noM _ _ (by decide+kernel),b,x,t.1,k3,g,la,_,t.2,d,n,p,r,f,w,rfl,ad,bd,au,ab,λH6 s6=>⟨_,rfl,?_⟩⟩
     cases e:aaR t.2 w d g with
     |true=>
      rw[zg rfl];obtain⟨dx,nv,ar,_⟩:=au.same s6
      exact ⟨_,dx,_,ar,T.afK,T.afN,_,by rfl,t.1,t.2,n,rfl,ab.same s6,λy pl H7 s7 hy aq bk=>kk (.ref y) _ H7 ⟨_,rfl⟩ (s6.trans s7) λH' hb=>
       have af:pl≠Da:=λc=>by rw[c,s6 _ _ hA]at aq;cases aq
       ⟨y,_,rfl,bk.but (s7 _ _ (s6 _ _ hA)) af hb,⟨af,(ad.same s6).fresh aq⟩,rfl⟩⟩
     |false=>
      rw[zc (by decide)];have af:t.2.pl≠Da:=λc=>by have:=ax.p;rw[c,hD]at this;cases this
      exact kk (.ref t.1) _ H6 ⟨_,rfl⟩ s6 λH' hb=>⟨t.1,t.2,rfl,(ab.same s6).but (s6 _ _ hA) af hb,⟨af,uT (aa.z.s t ht).p⟩,rfl⟩
    ·intro D4 H4 bs bp s4 ba bm
     obtain⟨bo,e1,e2,e3⟩:=ajA (R:=λ_ s=>s.pl≠D4/\s.pl∉k3.M b) bm;rw[e1]at ba;obtain⟨bg,bi⟩:=(aa.same s4).i;refine sw bi ag.c ag.s (Um _) (?_);rw[Vo];obtain⟨o5,ad⟩:=aa.swap s4 bp ba (dx:=bg) λt ht=>let⟨g1,_,_,g2⟩:=e3 t ht;⟨g1,g2⟩
     generalize upd H4 b _=H5 at o5 ad;have o:=(pA S2).trans (o3.trans o5);have ak:=o5.k D1 _ (λc=>(o3.f D1 c).elim (hB.fresh aw) λz=>by rw[s2 _ _ ae]at z;cases z) aj;have ab:∀t∈tk,jO A H5 t.1 t.2:=λt ht=>(hB.z.s t (bb▸ah t ht)).same λa u h=>uo _ _ (o.same _ _ h);refine⟨⟨_,iI ak⟩,?_⟩;refine Pb (f:=λt:Addr×jJ=>V.ref t.1) (λσ=>∃a,σ=[a]) (λ_ t v _=>v=.int (-(t.2.pr - t.2.co))) (iI ak) ⟨_,rfl⟩ (by omega) ?_ ?_
     ·rintro Da t ht σ H6 R ⟨_,rfl⟩ sm hD hA kk
      obtain⟨dt,hi⟩:=((ab t ht).same sm).i;walk_at "i";exact md hi zk (by rfl) ⟨t.1,t.2,rfl,(ab t ht).same sm,λH7 s7=>⟨_,rfl,kk _ _ _ ⟨_,rfl⟩ s7 λ_ _=>rfl⟩⟩
     ·intro D6 H6 bq bx s6 as bc
      rw[wH.ints bc]at as;walk_at "a";refine⟨_,iI as,k D4 bo (some (g,la,zs++q)) _ H6 ?_ ?_ e2 ?_⟩
      ·rw[az];exact o.trans (pA s6)
      ·rw[az];exact ad.same s6
      ·unfold BkD.ll
       rw[hk];show(zs++q).length<=zs.length+100;rw[zB];omega
def xM(K:Fg_)(C:Addr):kitOne K (.ref C) (.ref C)=some true:=zg (by simp)
def ajT(T:Txt K mg A D){H:Hp}{x:Addr}{e:Ent}(h:IsE A H x e):Kd K H (.ref x) (.ref (e.cls A)):=by
 obtain⟨dx,z,q,_⟩:=h
 cases e with
 |buy=>exact T.afL.of q
 |sell=>exact T.afU.of q
 |gift=>exact T.af4.of q
 |give=>exact T.agc.of q
 |split=>exact T.agj.of q
 |part=>exact T.afD.of q
def amd(T:Txt K mg A D)(e:Ent):kitOne K (.ref (e.cls A)) (.ref A.acS)=some (Ar e)/\kitOne K (.ref (e.cls A)) (.ref A.acT)=some (tH e)/\kitOne K (.ref (e.cls A)) (.ref A.acU)=some (tK e)/\
  kitOne K (.ref (e.cls A)) (.ref A.acV)=some (rR e)/\kitOne K (.ref (e.cls A)) (.ref A.acW)=some (oZ e)/\kitOne K (.ref (e.cls A)) (.ref A.acR)=some (rZ e):=by
 cases e with
 |buy=>obtain⟨a,b,c,d,f⟩:=T.ahX;exact⟨xM _ _,a,b,c,d,f⟩
 |sell=>obtain⟨a,b,c,d,f⟩:=T.ahY;exact⟨a,xM _ _,b,c,d,f⟩
 |gift=>obtain⟨a,b,c,d,f⟩:=T.ahZ;exact⟨a,b,xM _ _,c,d,f⟩
 |give=>obtain⟨a,b,c,d,f⟩:=T.ah0;exact⟨a,b,c,xM _ _,d,f⟩
 |split=>obtain⟨a,b,c,d,f⟩:=T.ah1;exact⟨a,b,c,d,xM _ _,f⟩
 |part=>obtain⟨a,b,c,d,f⟩:=T.ah2;exact⟨a,b,c,d,f,xM _ _⟩
noncomputable def Ent.oth:Ent->Str
 |.part _ _ _ u _ _=>u
 |e=>e.ware
noncomputable def mH:List Str:=["tin", "ore", "abcdefgh"]
noncomputable def aiN(c:Str->Int):Ent->Str->Int
 |.buy _ _ w p _ _,z=>if z=w then c w+p else c z
 |.gift _ _ w p _ _,z=>if z=w then c w+p else c z
 |.sell _ _ w p _ _ _,z=>if z=w then c w - p else c z
 |.give _ _ w p _,z=>if z=w then c w - p else c z
 |.split _ _ w m f,z=>if z=w then c w*m/f else c z
 |.part _ _ w u _ _,z=>if z=u then c u+c w else c z
noncomputable def aiV(c:Str->Int):Ent->Prop
 |.sell _ _ w p _ _ _=>p<=c w
 |.give _ _ w p _=>p<=c w
 |.split _ _ w m f=>c w=0\/1<=c w*m/f
 |_=>True
noncomputable def runC(es:List Ent):Str->Int:=es.foldl aiN λ_=>0
def Dz(es:List Ent)(e:Ent):runC (es++[e])=aiN (runC es) e:=by unfold runC;rw[List.foldl_append];rfl
structure Zg(es:List Ent):Prop where
 g:∀e∈es,e.good/\e.lots=none/\e.ware∈mH/\e.oth∈mH
 f:∀(i:Nat) e,es[i]? =some e->aiV (runC (es.take i)) e
 m:∀(i:Nat) z,runC (es.take i) z<=1000000000
def Zg.nil:Zg []:=⟨λe h=>(zo h).elim,λi e h=>by simp at h,λi z=>by rw[List.take_nil];show(0:Int)<=_;decide⟩
def Zg.snoc{es:List Ent}{e:Ent}(h:Zg es)(hg:e.good/\e.lots=none/\e.ware∈mH/\e.oth∈mH)(hf:aiV (runC es) e)(hm:∀z,aiN (runC es) e z<=1000000000):Zg (es++[e]):=by
 refine⟨λd hd=>?_,λi d hi=>?_,λi z=>?_⟩
 ·rcases zI.mp hd with hd|hd
  ·exact h.g d hd
  ·rw[zy.mp hd];exact hg
 ·by_cases c:i<es.length
  ·rw[z9 c]at hi
   rw[yP (by omega)];exact h.f i d hi
  ·rw[z7 (by omega)]at hi
   have q:i - es.length=0:=by
    have:=(zp.mp hi).1;simp at this;omega
   rw[q]at hi;cases hi;rw[show i=es.length by omega,yP (zm _),zU];exact hf
 ·by_cases c:i<=es.length
  ·rw[yP c]
   exact h.m i z
  ·rw[z3 (by rw[zB];show es.length+1<=i;omega),Dz]
   exact hm z
noncomputable def Wg(H:Hp)(tl:EL):Prop:=∀r∈tl,aaE H r.1 r.2
theorem Wg.same{H H':Hp}{tl:EL}(h:Wg H tl)(s:Same H H'):Wg H' tl:=λr q=>(h r q).same s
def jd.lm{H:Hp}{b:Addr}{k:BkD}(h:jd A H b k):∃z,(k.C,Vx A k.C z)∈[(A.acX,Vx A A.acX false),(A.acZ,Vx A A.acZ true)]/\(z=true->k.x≠none):=by
 rcases h.c with⟨e,_⟩|⟨e,c⟩
 ·exact⟨false,by rw[e];exact zk,λz=>by cases z⟩
 ·exact⟨true,by rw[e];exact zt _ zk,λ_=>c⟩
inductive Ag(A:Adr)(vs:List V)(H:Hp)(Q:VK)(E:XK):Prop
 |mk (b x:Addr) (k:BkD) (ns:List Int) (W:List Str) (d n p r f:Int) (w:Str) (_:vs=[.ref b,.ref x]) (_:jd A H b k) (_:IsE A H x (.buy d n w p r f)) (_:1<=p) (_:n∈ns) (_:Nu ns W k.rs) (_:W.length<=50) (_:ns.length<=58) (_:k.sl.length<=100) (_:k.ll<=10000) (_:∀sa sl x' q ms H',Stp (k.M b) ({k with sales:=sa,sl:=sl,x:=x'}.M b) H H'->jd A H' b {k with sales:=sa,sl:=sl,x:=x',rs:=keepR k.rs w q ms,paid:=k.paid+(p*r+f)}->sl.map (λt=>t.2.core)=k.sl.map (λt=>t.2.core)->{k with sales:=sa,sl:=sl,x:=x'}.ll<=k.ll+100->Shp ns ms->pcs ms=pcs (rowOf k.rs w)+p->Q .non H'):Ag A vs H Q E
def Am(T:Txt K mg A D):jK P w K mg base CX0 6 A.abE D.abE ["self", "entry"] (Ag A):=by
 refine T.adL.okv Af λ_ _ _ _ H vs Q E hr h=>?_
 ·obtain⟨b,x,kb,ns,W,d,n,p,r,f,w,rfl,hB,hE,hp,hn,hO,hW,hN,ai,ak,k⟩:=h
  have an:=hE;obtain⟨dx,nv,hx,_⟩:=an
  refine ⟨_,(iu (iU (i:=2) Af.nd rfl orl (jb jD (fv K 1) (jx (pv 0) (mc T.agp T.ahg (Lb T) hr (Np T) (mc T.agC T.ahh (xZ T) hr (Cd T) .nil)) jC (pav 1 iw))))
   (iu (jj (jx (pv 0) (mc T.agp T.ahe (oU T) hr (qg T) (mc T.agC T.ahf (oU T) hr (qg T) .nil)) jC (ir (fv K 1) (ir (kZ (ir (lK T.agZ (jR (K:=K) T) (hr.mono (by decide)) (by rfl) T.afm (jX T) .nil jC (ir (fv K 1) (ir (fv K 1) (ir (fv K 1) (pav 2 iw))))) iw)) iw))))
   (iB (jr (K:=K) (pv 0) (jb jD (fv K 0) (fv K 1)) rfl)))),?_⟩
  obtain⟨db,hb⟩:=hB.i;have hz:=hO.len;obtain⟨z,hm,aj⟩:=hB.lm;simp only[start_eq];walk_at "m";refine rd hx T.afK T.afS (by rfl) (md hb hm (kb.noM _ (by decide+kernel)) ⟨b,x,kb,d,n,p,r,f,w,rfl,rfl,aj,hB,hE,ai,ak,λsa sl x' i H1 o1 ad e1 e2=>?_⟩);refine⟨_,rfl,_,rfl,?_⟩;have aa:=o1.k x _ (uT (hB.day hx)) hx;obtain⟨aq,ap⟩:=ad.i;walk_at "m";refine md ap ad.me (BkD.noM _ _ (by decide+kernel)) (rd aa T.afK T.afO (by rfl) (rd aa T.afK T.afN (by rfl) (rd aa T.afK T.afM (by rfl) (rd aa T.afK T.afP (by rfl) (λy dy hy al _=>?_)))));refine qe (A:=A) ⟨n,d,p,_⟩ hy al λH2 s1 hL=>⟨sz,λq hq=>?_⟩;have s2:=s1.trans (iH (o:=.lst [.ref y]) hq);have ah:(upd H2 q (.lst [.ref y])) q=some (.lst (jt [(y,⟨n,d,p,p*r+f+i⟩)])):=iC;have af:=hL.same (iH (o:=.lst [.ref y]) hq);generalize upd H2 q (HO.lst [.ref y])=H3 at s2 ah af⊢;have ae:=ad.same s2;refine⟨b,q,w,_,[(y,⟨n,d,p,p*r+f+i⟩)],ns,rfl,ae,ah,alM af,λl hl=>by rw[zy.mp hl];exact⟨hp,hn⟩,hO.row w,hN,(show kb.rs.length<=50 by omega),λq' ms H4 o4 ac g1 g2=>?_⟩;have am:=o4.k x _ (uT (ae.day (s2 _ _ aa))) (s2 _ _ aa);obtain⟨ao,ag⟩:=ac.i;have ab:=Fb T ac
  try dsimp only
  refine rd ag ab.c ab.p (by rfl) (rd am T.afK T.afS (by rfl) ⟨_,rfl,_,rfl,_,ao,_,ag,ab.c,ab.p,Um _,?_⟩);rw[Wh];exact k sa sl x' q' ms _ (o1.trans ((pA s2).trans (o4.trans (pL BkD.mb)))) (ac.put (la:=kb.last) (pa:=kb.paid+(p*r+f)) (br:=kb.brought) ac.z.p) e1 e2 g1 (by rw[g2];unfold pcs;simp)
structure StB(ns:List Int)(es:List Ent)(k:BkD):Prop where
 r:Nu ns mH k.rs
 c:∀z,pcs (rowOf k.rs z)=runC es z
 n:(k.sl.map λt=>t.2.core.1).Sublist (es.map Ent.num)
 p:∀c∈k.sl.map (λt=>t.2.core),(c.2.2.2.2.map λr=>r.2.2).sum=c.2.2.2.1/\c.2.1<=1000000
 g:∀t∈k.gv,t.2.2.2.length<=58
 v:k.gv.length<=es.length
 l:k.ll<=100*es.length
theorem StB.sl{ns:List Int}{es:List Ent}{k:BkD}(h:StB ns es k):k.sl.length<=es.length:=by have:=h.n.length_le;rwa [za,za]at this
structure Can(A:Adr)(H:Hp)(ns:List Int)(es:List Ent)(k:BkD)(e:Ent):Prop where
 s:StB ns es k
 l:es.length<=56
 nl:ns.length<=58
 g:e.good/\e.lots=none/\e.ware∈mH/\e.oth∈mH
 n:e.num∈ns
 f:aiV (runC es) e
 m:∀z,runC es z<=1000000000
 w:∃Cw dw,H k.way=some (.ins Cw dw [])/\Tu A Cw
def aaN(k:BkD):(k.sl.map λt=>t.2.core.1)=(k.sl.map λt=>t.2.core).map (·.1):=by rw[zx];rfl
def StB.next{ns:List Int}{es:List Ent}{k q:BkD}{e:Ent}(h:StB ns es k)(hr:Nu ns mH q.rs)(hc:∀z,pcs (rowOf q.rs z)=aiN (λz=>pcs (rowOf k.rs z)) e z)(hs:q.sl.map (λt=>t.2.core)=k.sl.map (λt=>t.2.core))(hg:∀t∈q.gv,t.2.2.2.length<=58)(hv:q.gv.length<=k.gv.length+1)(hl:q.ll<=k.ll+100):StB ns (es++[e]) q:=by
 refine⟨hr,λz=>?_,?_,?_,hg,?_,?_⟩
 ·rw[hc,Dz,show(λz=>pcs (rowOf k.rs z))=runC es from funext h.c]
 ·rw[aaN,hs,<-aaN,zu]
  exact h.n.trans (y9 _ _)
 ·rw[hs];exact h.p
 ·have:=h.v;rw[zB];show _<=es.length+1;omega
 ·have:=h.l;rw[zB];show _<=100*(es.length+1);omega
inductive rm(A:Adr)(vs:List V)(H:Hp)(Q:VK)(E:XK):Prop
 |mk (b x:Addr) (k:BkD) (e:Ent) (es:List Ent) (ns:List Int) (_:vs=[.ref b,.ref x]) (_:jd A H b k) (_:IsE A H x e) (_:Can A H ns es k e) (_:∀k' H',jd A H' b k'->Stp (k.M b) (k'.M b) H H'->StB ns (es++[e]) k'->k'.C=k.C->k'.way=k.way->Q .non H'):rm A vs H Q E
def rD(T:Txt K mg A D):jK P w K mg base CX0 8 A.ab4 D.ab4 ["self", "entry"] (rm A):=by
 refine T.aeb.okv Dd λ_ _ _ _ H vs Q E hr h=>?_
 ·obtain⟨b,x,kb,e,es,ns,rfl,hB,hE,hC,k⟩:=h
  obtain⟨db,hb⟩:=hB.i;refine⟨_,(iB (jT (nO (jm (uf (K:=K)) (by rfl) T.aeT (by decide+kernel) (pav 1 (ir (lV (v:=V.ref A.acS) (by rfl) T.afg rfl) iw)))) (iB (jj (jx (pv 0) (mc T.agp T.ahu (Am T) hr (CT T) (mc T.agC T.ahv (Am T) hr (CT T) .nil)) jC (pav 1 iw)))) (iB (jT (nO (jm (uf (K:=K)) (by rfl) T.aeT (by decide+kernel) (pav 1 (ir (lV (v:=V.ref A.acU) (by rfl) T.afi rfl) iw)))) (iB (jj (jx (pv 0) (mc T.agp T.ahw (vZ T) hr (Al T) (mc T.agC T.ahx (vZ T) hr (Al T) .nil)) jC (pav 1 iw)))) (iB (jT (nO (jm (uf (K:=K)) (by rfl) T.aeT (by decide+kernel) (pav 1 (ir (lV (v:=V.ref A.acT) (by rfl) T.afh rfl) iw)))) (iB (jj (jx (pv 0) (mc T.agp T.ahy (wY T) hr (Az T) (mc T.agC T.ahz (wY T) hr (Az T) .nil)) jC (pav 1 iw)))) (iB (jT (nO (jm (uf (K:=K)) (by rfl) T.aeT (by decide+kernel) (pav 1 (ir (lV (v:=V.ref A.acV) (by rfl) T.afj rfl) iw)))) (iB (jj (jx (pv 0) (mc T.agp T.ahA (wu T) hr (Ae T) (mc T.agC T.ahB (wu T) hr (Ae T) .nil)) jC (pav 1 iw)))) (iB (jT (nO (jm (uf (K:=K)) (by rfl) T.aeT (by decide+kernel) (pav 1 (ir (lV (v:=V.ref A.acW) (by rfl) T.afk rfl) iw)))) (iB (jj (jx (pv 0) (mc T.agp T.ahC (vI T) hr (wg T) (mc T.agC T.ahD (vI T) hr (wg T) .nil)) jC (pav 1 iw)))) (iB (jT (nO (jm (uf (K:=K)) (by rfl) T.aeT (by decide+kernel) (pav 1 (ir (lV (v:=V.ref A.acR) (by rfl) T.aff rfl) iw)))) (iB (jj (jx (pv 0) (mc T.agp T.ahE (rA T) hr (uq T) (mc T.agC T.ahF (rA T) hr (uq T) .nil)) jC (pav 1 iw)))) jo)))))))))))),?_⟩;have ty:=ajT T hE;obtain⟨k1,k2,k3,k4,k5,k6⟩:=amd T e;obtain⟨hg,ho,hw,hu⟩:=hC.g;have hS:=hC.s;have hl:=hC.l;have af:=hS.sl;have ag:=hS.l;have ae:=hS.v;have w3:mH.length<=50:=by decide
  have hf:=hC.f;have hm:=hC.m;rw[<-show(λz=>pcs (rowOf kb.rs z))=runC es from funext hS.c]at hf hm;have nf:∀f:Str,f∉["way", "rows", "last_place", "paid", "brought", "sales_done", "givings_done", "days", "layings"].map Str.ofString->List.lookup f kb.fs=none:=λf=>kb.noM f
  have ab:∀{rs:RW}{z:Str}{q:Addr}{ms:RL}{y:Str},rs=keepR kb.rs z q ms->pcs (rowOf rs y)=if y=z then pcs ms else pcs (rowOf kb.rs y):=fun{rs z q ms y} e=>by
   rw[e,xO];split<;>rfl
  simp only[start_eq]
  cases e with
  |buy d n w p r f=>
   dsimp only[Ar,tH,tK,rR,oZ,rZ]at k1 k2 k3 k4 k5 k6;refine sc1 rfl ty k1 ?_;walk_at "i";refine md hb hB.me (nf _ (by decide+kernel)) ⟨b,x,kb,ns,mH,d,n,p,r,f,w,rfl,hB,hE,hg.2.1.1,hC.n,hS.r,w3,hC.nl,by omega,by omega,λsa sl x' q ms H' o aa e1 e2 e3 e4=>k _ H' aa o (hS.next (hS.r.keep hw e3) (λz=>?_) e1 hS.g (yp _) e2) rfl rfl⟩;rw[ab rfl,e4];rfl
  |gift d n w p c s=>
   dsimp only[Ar,tH,tK,rR,oZ,rZ]at k1 k2 k3 k4 k5 k6;refine sc0 rfl ty k1 ?_;refine sc1 rfl ty k3 ?_;walk_at "i";refine md hb hB.me (nf _ (by decide+kernel)) ⟨b,x,kb,ns,mH,d,n,p,c,s,w,rfl,hB,hE,hg.2.1.1,hC.n,hS.r,w3,hC.nl,λq ms H' o aa e3 e4=>k _ H' aa o (hS.next (hS.r.keep hw e3) (λz=>?_) rfl hS.g (yp _) (yy _ _)) rfl rfl⟩;rw[ab rfl,e4];rfl
  |sell d n w p r f o=>
   dsimp only[Ar,tH,tK,rR,oZ,rZ]at k1 k2 k3 k4 k5 k6;obtain rfl:o=none:=ho;obtain⟨Cw,dw,ac,ad⟩:=hC.w;refine sc0 rfl ty k1 ?_;refine sc0 rfl ty k3 ?_;refine sc1 rfl ty k2 ?_;walk_at "i";refine md hb hB.me (nf _ (by decide+kernel)) ⟨b,x,Cw,dw,kb,ns,mH,d,n,p,r,f,w,rfl,hB,ac,ad,hE,hS.r,w3,hC.nl,hg.2.1.1,hf,hm w,by omega,λy s q ms H' o aa e1 e2 e3 e4 e5 e6 e7=>k _ H' aa o ⟨hS.r.keep hw e6,λz=>?_,?_,?_,hS.g,?_,?_⟩ rfl rfl⟩
   ·rw[ab rfl,e7,Dz,<-show(λz=>pcs (rowOf kb.rs z))=runC es from funext hS.c];rfl
   ·show(List.map _ (kb.sl++[(y,s)])).Sublist _
    rw[zu,zu];refine hS.n.append ?_;show[s.n].Sublist [n];rw[e1];exact yY _
   ·show∀c∈List.map _ (kb.sl++[(y,s)]),_
    rw[zu];intro c hc;rcases zI.mp hc with hc|hc
    ·exact hS.p c hc
    ·rw[zy.mp hc]
     exact⟨e5,by show s.d<=_;rw[e2];exact hg.1.2⟩
   ·rw[zB];exact zV ae (yy _ _)
   ·rw[zB];show kb.ll<=100*(es.length+1);omega
  |give d n w p o=>
   dsimp only[Ar,tH,tK,rR,oZ,rZ]at k1 k2 k3 k4 k5 k6;obtain rfl:o=none:=ho;obtain⟨Cw,dw,ac,ad⟩:=hC.w;refine sc0 rfl ty k1 ?_;refine sc0 rfl ty k3 ?_;refine sc0 rfl ty k2 ?_;refine sc1 rfl ty k4 ?_;walk_at "i";refine md hb hB.me (nf _ (by decide+kernel)) ⟨b,x,Cw,dw,kb,ns,mH,d,n,p,w,rfl,hB,ac,ad,hE,hS.r,w3,hC.nl,hg.2.1.1,hf,hm w,by omega,λg q ms H' o aa e1 e6 e7=>k _ H' aa o (hS.next (hS.r.keep hw e6) (λz=>?_) rfl (λt ht=>?_) ?_ (yy _ _)) rfl rfl⟩
   ·rw[ab rfl,e7];rfl
   ·rcases zI.mp ht with ht|ht
    ·exact hS.g t ht
    ·rw[zy.mp ht];exact e1
   ·show(kb.gv++[g]).length<=_
    rw[zB];exact zm _
  |split d n w m f=>
   dsimp only[Ar,tH,tK,rR,oZ,rZ]at k1 k2 k3 k4 k5 k6;refine sc0 rfl ty k1 ?_;refine sc0 rfl ty k3 ?_;refine sc0 rfl ty k2 ?_;refine sc0 rfl ty k4 ?_;refine sc1 rfl ty k5 ?_;walk_at "i";refine md hb hB.me (nf _ (by decide+kernel)) ⟨b,x,kb,ns,mH,d,n,m,f,w,rfl,hB,hE,(by obtain⟨_,h1,h2⟩:=hg;unfold Rg at h1 h2;exact⟨⟨by omega,by omega⟩,by omega,by omega⟩),hS.r,w3,hC.nl,hf.imp_left (λc=>?_),λq ms H' o aa e6 e7=>k _ H' aa o (hS.next (hS.r.keep hw e6) (λz=>?_) rfl hS.g (yp _) (yy _ _)) rfl rfl⟩
   ·have h1:=BW (hS.r.row w).p
    have c:pcs (rowOf kb.rs w)=0:=c;exact zz1.mp (by omega)
   ·rw[ab rfl,e7];rfl
  |part d n w u s t=>
   dsimp only[Ar,tH,tK,rR,oZ,rZ]at k1 k2 k3 k4 k5 k6;refine sc0 rfl ty k1 ?_;refine sc0 rfl ty k3 ?_;refine sc0 rfl ty k2 ?_;refine sc0 rfl ty k4 ?_;refine sc0 rfl ty k5 ?_;refine sc1 rfl ty k6 ?_;walk_at "i";refine md hb hB.me (nf _ (by decide+kernel)) ⟨b,x,kb,ns,mH,d,n,s,t,w,u,rfl,hB,hE,?_,Ne.symm hg.2.2.1,hw,hS.r,w3,hC.nl,λq1 l1 q ms H' o aa e1 e2 e6 e7=>k _ H' aa o (hS.next ((hS.r.keep hw e1).keep hu e6) (λz=>?_) rfl hS.g (yp _) (yy _ _)) rfl rfl⟩
   ·obtain⟨h1,h2⟩:=hg.2.2.2
    unfold Rg at h1 h2;exact⟨⟨by omega,by omega⟩,by omega,by omega⟩
   ·show pcs (rowOf (keepR (keepR kb.rs w q1 l1) u q ms) z)=(if z=u then pcs (rowOf kb.rs u)+pcs (rowOf kb.rs w)else pcs (rowOf kb.rs z))
    rw[xO];by_cases c:z=u
    ·rw[zg c,zg c,e7]
    ·rw[zc c,zc c,xO]
     by_cases c2:z=w
     ·rw[zg c2,e2,c2]
     ·rw[zc c2]
def Mz{t u:TS}{D:Ends}{σ:L2.St}{H:Hp}(P:L2.St->Hp->Prop)(h1:∀q H',P q H'->u D q H')(h2:∀N:L2.St->Hp->Prop,(∀q H',P q H'->N q H')->t {D with nx:=N} σ H):Xu t u D σ H:=h2 _ h1
noncomputable def Aft(k:BkD)(e:Ent):Prop:=∀t,k.last=some t->t.2.1<e.day\/(t.2.1=e.day/\t.2.2<e.num)
def akL{a b c d:Int}(h:c<a\/(c=a/\d<b)):HT.lexLe [a,b] [c,d]=false:=by
 unfold HT.lexLe;by_cases e:a=c
 ·rw[zg e]
  unfold HT.lexLe;rw[zc (by omega)];exact zF (by omega)
 ·rw[zc e]
  exact zF (by omega)
def Yu(k:BkD)(l:Option (Addr×Int×Int)):Ez (Str.ofString "last_place") (Ru l) k.fs={k with last:=l}.fs:=by cases k;rfl
def aju(A:Adr)(e:Ent):∃q,q e=true/\(e.cls A,CN A q)∈[(A.acS,CN A Ar),(A.acT,CN A tH),(A.acU,CN A tK),(A.acV,CN A rR),(A.acW,CN A oZ),(A.acR,CN A rZ)]:=by
 cases e with
 |buy=>exact⟨Ar,rfl,zn (i:=0) rfl⟩
 |sell=>exact⟨tH,rfl,zn (i:=1) rfl⟩
 |gift=>exact⟨tK,rfl,zn (i:=2) rfl⟩
 |give=>exact⟨rR,rfl,zn (i:=3) rfl⟩
 |split=>exact⟨oZ,rfl,zn (i:=4) rfl⟩
 |part=>exact⟨rZ,rfl,zn (i:=5) rfl⟩
def aiP{e:Ent}{q:List (Key×V)}(h:aiV (jA q) e):e.beh q≠none:=by
 cases e with
 |buy=>exact λc=>by cases c
 |gift=>exact λc=>by cases c
 |part=>exact λc=>by cases c
 |sell d n w p r f o=>
  have h:p<=jA q w:=h;rw[Ent.beh,zc (by omega)];exact λc=>by cases c
 |give d n w p o=>
  have h:p<=jA q w:=h;rw[Ent.beh,zc (by omega)];exact λc=>by cases c
 |split d n w m f=>
  have h:jA q w=0\/1<=jA q w*m/f:=h;rw[Ent.beh,zc (by omega)];exact λc=>by cases c
def jd.isE{H:Hp}{b x C dx:Addr}{k:BkD}{e:Ent}{q:V}(h:jd A H b k)(_:IsE A H x e)(z:H x=some (.ins C dx (e.fs q))):vP H (k.M b) x=some (.ins C dx (e.fs q)):=by cases e<;>exact h.day z
def jd.keepE{H H':Hp}{b x:Addr}{k:BkD}{M:List Addr}{e:Ent}(h:jd A H b k)(o:Stp (k.M b) M H H')(q:IsE A H x e)(ho:e.lots=none):IsE A H' x e:=let⟨dx,nv,z,c⟩:=q;⟨dx,nv,o.k x _ (uT (h.isE q z)) z,by rw[ho]at c⊢;exact c⟩
inductive Lz(A:Adr)(vs:List V)(H:Hp)(Q:VK)(E:XK):Prop
 |mk (b x:Addr) (k:BkD) (e:Ent) (es:List Ent) (ns:List Int) (_:vs=[.ref b,.ref x]) (_:jd A H b k) (_:IsE A H x e) (_:Can A H ns es k e) (_:Aft k e) (_:∀k' t H',jd A H' b k'->Stp (k.M b) (k'.M b) H H'->StB ns (es++[e]) k'->k'.C=k.C->k'.way=k.way->k'.last=some (t,e.day,e.num)->Q .non H'):Lz A vs H Q E
def Lx(T:Txt K mg A D):jK P w K mg base CX0 9 A.ach D.ach ["self", "entry"] (Lz A):=by
 refine T.aen.okv UJ λ_ _ _ _ H vs Q E hr h=>?_
 ·obtain⟨b,x,kb,e,es,ns,rfl,hB,hx,hC,hA,k⟩:=h
  obtain⟨db,hb⟩:=hB.i;have hc:=Fb T hB;have aj:=λf h=>kb.noM f h
  refine ⟨_,(iu (jT (PW.pt (Fl (iY (WL) (fv K 0) nj (jf _)) (BZ (iY ((ajo (K:=K) hr)) (pcg (Bk T) hr T.adu (Eu T) (pav 1 iw)) (fv K 0) (jf _))))) (iB (mC)) jo)
   (iu (jT (iY (Aj) (jx (pv 1) (mc T.afK T.ahI (Cu T) hr (DY T) (mc T.afT T.ahJ (Bu T) hr (DP T) (mc T.af3 T.ahK (Bs T) hr (Dv T) (mc T.agb T.ahL (Bp T) hr (CW T) (mc T.agi T.ahM (Ad T) hr (BK T) (mc T.afC T.ahN (vM T) hr (xg T) .nil)))))) jC (ir (lZ (pv 0) (mc T.agp T.ahO (Fj T) hr (Jx T) (mc T.agC T.ahP (Fj T) hr (Jx T) .nil)) jC) iw)) nj (jf _)) (iB (mC)) jo)
   (iu (jj (jx (pv 0) (mc T.agp T.ahG (rD T) hr (uv T) (mc T.agC T.ahH (rD T) hr (uv T) .nil)) jC (pav 1 iw)))
   (iB (jr (K:=K) (pv 0) (pcg (Bk T) hr T.adu (Eu T) (pav 1 iw)) rfl))))),?_⟩
  simp only[start_eq];refine Mz (λσ' H'=>σ'=[some (.ref b),some (.ref x)]/\Same H H') ?_ ?_
  ·rintro σ1 H1 ⟨rfl,s1⟩
   refine Mz (λσ' H'=>σ'=[some (.ref b),some (.ref x)]/\Same H H') ?_ ?_
   ·rintro σ2 H2 ⟨rfl,s2⟩
    have ab:=hB.same s2;have af:=hx.same s2;obtain⟨au,aq⟩:=ab.i;have ar:Can A H2 ns es kb e:=⟨hC.s,hC.l,hC.nl,hC.g,hC.n,hC.f,hC.m,let⟨Cw,dw,h1,h2⟩:=hC.w;⟨Cw,dw,s2 _ _ h1,h2⟩⟩;walk_at "m";refine md aq ab.me (aj _ (by decide+kernel)) ⟨b,x,kb,e,es,ns,rfl,ab,af,ar,λk3 H3 ao o3 q c3 w3=>?_⟩;have an:=ab.keepE o3 af hC.g.2.1
    try dsimp only
    refine⟨x,e,rfl,an,λt ht=>?_⟩;have s4:=iH (o:=.tup [V.int e.day,V.int e.num]) ht;have aa:=ao.same s4;have ad:(upd H3 t (.tup [V.int e.day,V.int e.num])) t=some (.tup [V.int e.day,V.int e.num]):=iC;generalize upd H3 t (.tup [V.int e.day,V.int e.num])=H4 at s4 aa ad⊢;obtain⟨ay,ap⟩:=aa.i;have ai:=Fb T aa;refine sw ap ai.c ai.l (Um _) (?_);rw[show V.ref t=Ru (some (t,e.day,e.num))from rfl,Yu];exact k _ t _ (aa.put (la:=some (t,e.day,e.num)) (pa:=k3.paid) (br:=k3.brought) λu hu=>by cases hu;exact aa.tup ad) ((pA s2).trans (o3.trans ((pA s4).trans (pL BkD.mb)))) ⟨q.r,q.c,q.n,q.p,q.g,q.v,q.l⟩ c3 w3 rfl
   ·intro N hN
    have ac:=hB.same s1;obtain⟨aw,as⟩:=ac.i;obtain⟨dx,nv,ag,am⟩:=hx.same s1;walk_at "i";obtain⟨av,hk,ae⟩:=aju A e;have hS:=hC.s;refine md ag ae (by cases e<;>rfl) (md as ac.me (aj _ (by decide+kernel)) ⟨b,kb,ns,mH,rfl,ac,hS.r,by decide,hC.nl,λp kv H2 s2 hp al hH hl hv=>?_⟩);have ah:aiV (jA kv) e:=by rw[show jA kv=runC es from funext λz=>(hv z).trans (hS.c z)];exact hC.f
    refine⟨x,p,e,kv,hk,rfl,⟨dx,nv,s2 _ _ ag,am.same s2⟩,hC.g.1,.inl al,hH,by omega,λc=>(aiP ah c).elim,λax _ p2 H3 s3 _ _=>?_⟩;show(if V.ref p2=V.non then _ else _);rw[zc (λc=>by cases c)];exact hN _ _ ⟨rfl,s1.trans (s2.trans s3)⟩
  ·intro N hN
   walk_at "i";refine rd hb hc.c hc.l (v:=Ru kb.last) (by rfl) (?_)
   cases hl:kb.last with
   |none=>
    rw[zc (by simp[Ru])];exact hN _ _ ⟨rfl,same_refl _⟩
   |some t=>
    rw[zg (by simp[Ru])];refine⟨x,e,rfl,hx,λt1 ak=>?_⟩;have s1:=iH (o:=.tup [V.int e.day,V.int e.num]) ak;refine rd (s1 _ _ hb) hc.c hc.l (v:=Ru kb.last) (by rfl) (?_);rw[hl];refine⟨t1,t.1,[e.day,e.num],[t.2.1,t.2.2],rfl,rfl,jG iC,jG (s1 _ _ (hB.frz.p t hl)),_,rfl,?_⟩;rw[akL (hA t hl),zc (by decide)];exact hN _ _ ⟨rfl,s1⟩
structure Ini(B H:Hp)(x C dx:Addr)(fs:List (Str×V))(os:List (Addr×HO)):Prop where
 n:New B H x C dx fs
 o:∀p∈os,p.1≠x/\B p.1=none/\H p.1=some p.2
 u:os.Pairwise λp q=>p.1≠q.1
theorem Ini.put{B H:Hp}{x C dx:Addr}{fs:List (Str×V)}{os:List (Addr×HO)}(h:Ini B H x C dx fs os)(gs:List (Str×V)):Ini B (upd H x (.ins C dx gs)) x C dx gs os:=⟨h.n.put rfl,λp q=>let⟨a,b,c⟩:=h.o p q;⟨a,b,(iQ a).trans c⟩,h.u⟩
def Ini.new{B H:Hp}{x C dx q:Addr}{o:HO}{fs:List (Str×V)}{os:List (Addr×HO)}(h:Ini B H x C dx fs os)(hq:H q=none):Ini B (upd H q o) x C dx fs ((q,o)::os):=by
 have s:=iH (o:=o) hq;refine⟨h.n.same s,λp z=>?_,List.pairwise_cons.mpr ⟨λp z e=>?_,h.u⟩⟩
 ·rcases zv.mp z with rfl|z
  ·exact⟨λe=>(by have:=h.n.h;rw[<-show q=x from e,hq]at this;cases this),h.n.s.free hq,iC⟩
  ·obtain⟨a,b,c⟩:=h.o p z
   exact⟨a,b,s _ _ c⟩
 ·have:=(h.o p z).2.2
  rw[<-show q=p.1 from e,hq]at this;cases this
noncomputable def k0(C w pr ps pg:Addr)(x:Option (Int×Addr×List V)):BkD:=⟨C,w,pr,ps,pg,[],none,0,0,[],[],x⟩
noncomputable def os0(pr ps pg:Addr):List (Addr×HO):=[(pg,.lst []),(ps,.lst []),(pr,.dK [])]
inductive vH(K:Fg_)(vs:List V)(H:Hp)(Q:VK)(E:XK):Prop
 |mk (x w:Addr) (B:Hp) (C dx:Addr) (_:vs=[.ref x,.ref w]) (_:New B H x C dx []) (_:CB K C) (_:∀pr ps pg H',Ini B H' x C dx (k0 C w pr ps pg none).fs (os0 pr ps pg)->Q .non H'):vH K vs H Q E
def vh(T:Txt K mg A D):jK P w K mg base CX0 1 A.acj D.acj ["self", "way"] (vH K):=by
 refine T.aep.okv Ge λ_ _ _ _ H vs Q E hr h=>?_
 ·obtain⟨x,w,B,C,dx,rfl,hN,z,k⟩:=h
  refine ⟨_,(iu (jr (K:=K) (pv 0) (pvD 1) rfl)
   (iu (jr (K:=K) (pv 0) Tz rfl)
   (iu (jr (K:=K) (pv 0) nj rfl)
   (iu (jr (K:=K) (pv 0) iz rfl)
   (iu (jr (K:=K) (pv 0) iz rfl)
   (iu (jr (K:=K) (pv 0) (kZ iw) rfl)
   (iB (jr (K:=K) (pv 0) (kZ iw) rfl)))))))),?_⟩
  have q:Ini B H x C dx [] []:=⟨hN,λp h=>(zo h).elim,.nil⟩;clear hN;simp only[start_eq];refine jB λu hu=>?_;rw[ap_seq];walk_at "i";refine sw q.n.h z.c z.w (by decide) ?_;rw[xU _ _ (by decide+kernel)];have q:=q.put ([]++[(Str.ofString "way",V.ref w)]);generalize upd H x _=H1 at q⊢;subst hu
  try dsimp only
  refine jB λu hu=>?_;rw[ap_seq];walk_at "i";intro pr ab;have q:=q.new (o:=.dK []) ab;generalize upd H1 pr _=H1a at q⊢;refine sw q.n.h z.c z.r (by simp) ?_;rw[lU (f:=Str.ofString "rows") ["way"]];have q:=q.put (([]++[(Str.ofString "way",V.ref w)])++[(Str.ofString "rows",V.ref pr)]);generalize upd H1a x _=H2 at q⊢;subst hu
  try dsimp only
  refine jB λu hu=>?_;rw[ap_seq];walk_at "i";refine sw q.n.h z.c z.l (by simp) ?_;rw[lU (f:=Str.ofString "last_place") ["way", "rows"]];have q:=q.put ((([]++[(Str.ofString "way",V.ref w)])++[(Str.ofString "rows",V.ref pr)])++[(Str.ofString "last_place",V.non)]);generalize upd H2 x _=H3 at q⊢;subst hu
  try dsimp only
  refine jB λu hu=>?_;rw[ap_seq];walk_at "i";refine sw q.n.h z.c z.p (by simp) ?_;rw[lU (f:=Str.ofString "paid") ["way", "rows", "last_place"]];have q:=q.put (((([]++[(Str.ofString "way",V.ref w)])++[(Str.ofString "rows",V.ref pr)])++[(Str.ofString "last_place",V.non)])++[(Str.ofString "paid",V.int 0)]);generalize upd H3 x _=H4 at q⊢;subst hu
  try dsimp only
  refine jB λu hu=>?_;rw[ap_seq];walk_at "i";refine sw q.n.h z.c z.b (by simp) ?_;rw[lU (f:=Str.ofString "brought") ["way", "rows", "last_place", "paid"]];have q:=q.put ((((([]++[(Str.ofString "way",V.ref w)])++[(Str.ofString "rows",V.ref pr)])++[(Str.ofString "last_place",V.non)])++[(Str.ofString "paid",V.int 0)])++[(Str.ofString "brought",V.int 0)]);generalize upd H4 x _=H5 at q⊢;subst hu
  try dsimp only
  refine jB λu hu=>?_;rw[ap_seq];walk_at "i";refine⟨sz,λps ac=>?_⟩;have q:=q.new (o:=.lst []) ac;generalize upd H5 ps _=H5a at q⊢;refine sw q.n.h z.c z.s (by simp) ?_;rw[lU (f:=Str.ofString "sales_done") ["way", "rows", "last_place", "paid", "brought"]];have q:=q.put (((((([]++[(Str.ofString "way",V.ref w)])++[(Str.ofString "rows",V.ref pr)])++[(Str.ofString "last_place",V.non)])++[(Str.ofString "paid",V.int 0)])++[(Str.ofString "brought",V.int 0)])++[(Str.ofString "sales_done",V.ref ps)]);generalize upd H5a x _=H6 at q⊢;subst hu
  try dsimp only
  walk_at "i";refine⟨sz,λpg aa=>?_⟩;have q:=q.new (o:=.lst []) aa;generalize upd H6 pg _=H6a at q⊢;refine sw q.n.h z.c z.g (by simp) ?_;rw[lU (f:=Str.ofString "givings_done") ["way", "rows", "last_place", "paid", "brought", "sales_done"]];exact k pr ps pg _ (q.put _)
def akq{B H:Hp}{x C dx w pr ps pg:Addr}{z:Option (Int×Addr×List V)}{os:List (Addr×HO)}(h:Ini B H x C dx (k0 C w pr ps pg z).fs (os++os0 pr ps pg))(hc:(C=A.acX/\z=none)\/(C=A.acZ/\z≠none))(hx:∀y,z=some y->(y.2.1,HO.lst [])∈os/\y.2.2=[]):
  jd A H x (k0 C w pr ps pg z)/\∀m∈(k0 C w pr ps pg z).M x,B m=none:=by
 have m1:(pg,HO.lst [])∈os++os0 pr ps pg:=zG _ (zn (i:=0) rfl);have m2:(ps,HO.lst [])∈os++os0 pr ps pg:=zG _ (zn (i:=1) rfl);have m3:(pr,HO.dK [])∈os++os0 pr ps pg:=zG _ (zn (i:=2) rfl);have hu:=List.pairwise_append.mp h.u;have aa:pg≠ps:=List.rel_of_pairwise_cons hu.2.1 zk;refine⟨⟨hc,⟨dx,h.n.h⟩,(h.o _ m3).2.2,(h.o _ m2).2.2,(h.o _ m1).2.2,λy e=>?_,Ne.symm aa,⟨λt q=>(zo q).elim,λt q=>(by cases q),λt q=>(zo q).elim,λt q=>(zo q).elim⟩⟩,λm hm=>?_⟩
 ·obtain⟨g1,g2⟩:=hx y e
  refine⟨by rw[g2];exact(h.o _ (yI _ g1)).2.2,hu.2.2 _ g1 _ (zn (i:=1) rfl),hu.2.2 _ g1 _ (zn (i:=0) rfl)⟩
 ·unfold BkD.M at hm
  rcases zI.mp hm with c|c
  ·rcases zv.mp c with rfl|c
   ·exact h.n.n
   rcases zv.mp c with rfl|c
   ·exact(h.o _ m3).2.1
   rcases zv.mp c with rfl|c
   ·exact(h.o _ m2).2.1
   ·rw[zy.mp c]
    exact(h.o _ m1).2.1
  ·unfold BkD.xm at c
   split at c
   ·exact(zo c).elim
   ·next y e=>
    rw[zy.mp c];exact(h.o _ (yI _ (hx y e).1)).2.1
inductive oE(A:Adr)(vs:List V)(H:Hp)(Q:VK)(E:XK):Prop
 |mk (x w:Addr) (g:Int) (B:Hp) (dx:Addr) (_:vs=[.ref x,.ref w,.int g]) (_:New B H x A.acZ dx []) (_:∀k H',Same B H'->jd A H' x k->(∀m∈k.M x,B m=none)->(∃pr ps pg xo,k=k0 A.acZ w pr ps pg xo/\k.ll=0)->Q .non H'):oE A vs H Q E
def vJ(T:Txt K mg A D):jK P w K mg base CX0 2 A.acl D.acl ["self", "way", "days"] (oE A):=by
 refine T.aer.okv vN λ_ _ _ _ H vs Q E hr h=>?_
 ·obtain⟨x,w,g,B,dx,rfl,hN,k⟩:=h
  refine ⟨_,(iu (jj (oG T.ahW (vh (K:=K) T) (hr.mono (by decide)) (by rfl) T.afl T.aep.kp (vU T) .nil jC (pav 0 (pav 1 iw))))
   (iu (jr (K:=K) (pv 0) (pvD 2) rfl)
   (iB (jr (K:=K) (pv 0) (kZ iw) rfl)))),?_⟩
  have hC:CB K A.acZ:=⟨T.agC,T.agD,T.agE,T.agF,T.agG,T.agH,T.agI,T.agJ⟩;simp only[start_eq];walk_at "m";refine⟨x,w,B,A.acZ,dx,rfl,hN,hC,λpr ps pg H1 q=>?_⟩;walk_at "a";refine sw q.n.h T.agC T.agK (show(7:Nat)<1000 by decide) (?_);rw[lU (f:=Str.ofString "days") ["way", "rows", "last_place", "paid", "brought", "sales_done", "givings_done"]];have q:=q.put ((k0 A.acZ w pr ps pg none).fs++[(Str.ofString "days",V.int g)]);generalize upd H1 x _=H2 at q⊢;refine⟨sz,λla z=>?_⟩;have q:=q.new (o:=.lst []) z;generalize upd H2 la _=H3 at q⊢;refine sw q.n.h T.agC T.agL (show(8:Nat)<1000 by decide) (?_);rw[lU (f:=Str.ofString "layings") ["way", "rows", "last_place", "paid", "brought", "sales_done", "givings_done", "days"]];have q:=q.put ((k0 A.acZ w pr ps pg (some (g,la,[]))).fs);obtain⟨g1,g2⟩:=akq (A:=A) (os:=[(la,.lst [])]) q (.inr ⟨rfl,λc=>by cases c⟩) λy e=>by cases e;exact⟨zk,rfl⟩
  exact k _ _ q.n.s g1 g2 ⟨pr,ps,pg,_,rfl,rfl⟩
def st0{ns:List Int}{k:BkD}(h:∃C w pr ps pg q,k=k0 C w pr ps pg q/\k.ll=0):StB ns [] k:=by
 obtain⟨C,w,pr,ps,pg,q,rfl,hl⟩:=h;exact⟨⟨.nil,λt h=>(zo h).elim,λt h=>(zo h).elim⟩,λz=>rfl,yY _,λt h=>(zo h).elim,λt h=>(zo h).elim,zm _,by rw[hl];exact zJ _⟩
inductive HY(A:Adr)(vs:List V)(H:Hp)(Q:VK)(E:XK):Prop
 |mk (b q:Addr) (k:BkD) (es:EL) (hs:List Ent) (_:vs=[.ref b,.ref q]) (_:jd A H b k) (_:(∃C w pr ps pg xo,k=k0 C w pr ps pg xo/\k.ll=0)) (_:(∃Cw dw,H k.way=some (.ins Cw dw [])/\Tu A Cw)) (_:k.way∉k.M b) (_:H q=some (.lst (Dh es))) (_:Nh A H es) (_:Zg hs) (_:hs.Pairwise BfE) (_:hs.length<=56) (_:(hs.map Ent.num).Nodup) (_:(es.map (·.2)).Perm hs) (_:∀k' H',jd A H' b k'->Stp (k.M b) (k'.M b) H H'->StB (hs.map Ent.num) hs k'->k'.C=k.C->Q (.ref b) H'):HY A vs H Q E
def vo(T:Txt K mg A D):jK P w K mg base CX0 10 A.aci D.aci ["book", "entries"] (HY A):=by
 refine T.aeo.F.okv vg λ_ _ _ _ H vs Q E hr h=>?_
 ·obtain⟨b,q,kb,es,z,rfl,hB,h0,hw,ao,hq,hE,hH,hb,hl,hn,ag,k⟩:=h
  refine ⟨_,(iu (nQ zO rfl (lJ (K:=K) (pcg (Rk T) hr T.adv (Vh T) (pav 1 iw))) (iK (i:=2) vg.nd rfl orl)
    (iB (jj (jx (pv 0) (mc T.agp T.ahQ (Lx T) hr (Og T) (mc T.agC T.ahR (Lx T) hr (Og T) .nil)) jC (pav 2 iw)))))
   (iB (iR (pvD 0)))),?_⟩
  simp only[start_eq];rw[ap_seq,ap_for];walk_at "i";have az:es.length=z.length:=by have:=ag.length_eq;rwa [za]at this
  refine⟨q,es,rfl,hq,hE,by omega,?_,λp ab H1 s1 hp h1 af aw=>?_⟩
  ·have:=(ag.map Ent.num).nodup_iff.mpr hn
   rwa [zx]at this
  have ai:ab.map (·.2)=z:=akE ((af.map (·.2)).trans ag) aw hb;have an:Nh A H1 ab:=λr hr=>(hE r (af.mem_iff.mp hr)).same s1;have al:=hB.same s1;refine⟨p,rfl,⟨_,iI h1⟩,?_⟩
  refine Bw.listN (K:=K) (a:=p) (xs:=Dh ab) (λi σ H2=>∃(k2:BkD)(v2:Option V),σ=[some (.ref b),some (.ref q),v2]/\jd A H2 b k2/\Stp (kb.M b) (k2.M b) H1 H2/\StB (z.map Ent.num) (z.take i) k2/\k2.C=kb.C/\k2.way=kb.way/\∀t,k2.last=some t->∃e∈z.take i,t.2.1=e.day/\t.2.2=e.num)
   ⟨kb,_,rfl,al,pA (same_refl _),st0 h0,rfl,rfl,λt ht=>?_⟩ (λi σ H2 _ ⟨k2,_,_,_,o2,_⟩=>iI (o2.k p _ (hB.fresh hp) h1)) ?_ ?_
  ·obtain⟨C,w,pr,ps,pg,xo,rfl,_⟩:=h0
   cases ht
  ·rintro i y σ H2 hi ⟨k2,v2,rfl,ad,o2,ae,c2,w2,ac⟩ N hN
   obtain⟨r,ah,rfl⟩:=Qx hi;have ar:=zn ah;have ay:i<ab.length:=(zp.mp ah).1;have aa:z[i]? =some r.2:=by rw[<-ai,zf,ah];rfl
   have hln':ab.length=z.length:=by rw[<-ai,za]
   have am:=hH.g r.2 (zn aa);have ap:=al.keepE o2 (an r ar) am.2.1;obtain⟨ax,av⟩:=ad.i;have htk:z.take (i+1)=z.take i++[r.2]:=by rw[zS,aa];rfl
   have ak:Can A H2 (z.map Ent.num) (z.take i) k2 r.2:=⟨ae,by rw[z0];omega,by rw[za];omega,am,zj.mpr ⟨_,zn aa,rfl⟩,hH.f i _ aa,hH.m i,let⟨Cw,dw,g1,g2⟩:=hw;⟨Cw,dw,by rw[w2];exact o2.k _ _ ao (s1 _ _ g1),g2⟩⟩
   have aj:Aft k2 r.2:=λt ht=>by
    obtain⟨e,he,ed,en⟩:=ac t ht;have h4:=hb;rw[<-yW i z]at h4
    have h5:=(List.pairwise_append.mp h4).2.2 e he r.2 (by
     have hil':i<z.length:=by omega
     rw[zzN hil'];have:z[i]=r.2:=by rw[zh hil']at aa;exact zw aa
     rw[this];exact zk)
    rw[ed,en];exact h5
   walk_at "i";refine md av ad.me (k2.noM _ (by decide+kernel)) ⟨b,r.1,k2,r.2,_,_,rfl,ad,ap,ak,aj,λk3 t H3 as o3 au c3 w3 aq=>?_⟩;refine hN _ _ ⟨k3,_,rfl,as,o2.trans o3,htk▸au,c3.trans c2,w3.trans w2,λu hu=>?_⟩;rw[aq]at hu;cases hu;exact⟨r.2,by rw[htk];exact zI.mpr (.inr (by simp)),rfl,rfl⟩
  ·rintro σ H2 ⟨k2,v2,rfl,ad,o2,ae,c2,w2,ac⟩
   rw[vR,show ab.length=z.length by rw[<-ai,za],zU]at ae;walk_at "a";exact k k2 H2 ad ((pA s1).trans o2) ae c2
structure ala(A:Adr)(H:Hp)(w q:Addr)(es:EL)(hs:List Ent):Prop where
 w:∃Cw dw,H w=some (.ins Cw dw [])/\Tu A Cw
 q:H q=some (.lst (Dh es))
 e:Nh A H es
 h:Zg hs
 b:hs.Pairwise BfE
 l:hs.length<=56
 n:(hs.map Ent.num).Nodup
 p:(es.map (·.2)).Perm hs
def mine{B H:Hp}{b:Addr}{k q:BkD}(s:Same B H){H':Hp}(hm:∀m∈k.M b,B m=none)(o:Stp (k.M b) (q.M b) H H'):Same B H'/\∀m∈q.M b,B m=none:=
 ⟨λa u e=>o.k a u (λc=>by rw[hm a c]at e;cases e) (s _ _ e),λm c=>(o.f m c).elim (hm m) λe=>s.free e⟩
inductive Lg(A:Adr)(vs:List V)(H:Hp)(Q:VK)(E:XK):Prop
 |mk (w q:Addr) (es:EL) (hs:List Ent) (_:vs=[.ref w,.ref q]) (_:ala A H w q es hs) (_:∀b k H',Same H H'->jd A H' b k->(∀m∈k.M b,H m=none)->StB (hs.map Ent.num) hs k->Q (.ref b) H'):Lg A vs H Q E
def VJ(T:Txt K mg A D):jK P w K mg base CX0 11 A.ack D.ack ["way", "entries"] (Lg A):=by
 refine T.aeq.F.okv VN λ_ _ _ _ H vs Q E hr h=>?_
 ·obtain⟨w,q,es,hs,rfl,z,k⟩:=h
  refine⟨_,(iB (iR (pcg (vo T) hr T.aeo (vW T) (ir (lK T.ag1 (vh (K:=K) T) (hr.mono (by decide)) (by rfl) T.afl (vU T) .nil jC (pav 0 iw)) (pav 1 iw))))),?_⟩;walk_at "a";intro b db hb ab _;have hN:=pY (C:=A.acX) hb ab;refine⟨b,w,H,A.acX,db,rfl,hN,⟨T.agp,T.agq,T.agr,T.ags,T.agt,T.agu,T.agv,T.agw⟩,λpr ps pg H1 hI=>⟨rfl,?_⟩⟩;obtain⟨hB,hm⟩:=akq (A:=A) (os:=[]) hI (.inl ⟨rfl,rfl⟩) λy e=>by cases e
  have s1:=hI.n.s;obtain⟨Cw,dw,w1,w2⟩:=z.w;refine⟨b,q,_,es,hs,rfl,hB,⟨_,_,_,_,_,_,rfl,rfl⟩,⟨Cw,dw,s1 _ _ w1,w2⟩,λc=>?_,s1 _ _ z.q,λr hr=>(z.e r hr).same s1,z.h,z.b,z.l,z.n,z.p,λk2 H2 aa o2 ac c2=>?_⟩
  ·have c:H w=none:=hm _ c
   rw[w1]at c;cases c
  ·obtain⟨g1,g2⟩:=mine s1 hm o2
   exact k b k2 H2 g1 aa g2 ac
inductive tQ(A:Adr)(vs:List V)(H:Hp)(Q:VK)(E:XK):Prop
 |mk (w q:Addr) (g:Int) (es:EL) (hs:List Ent) (_:vs=[.ref w,.int g,.ref q]) (_:ala A H w q es hs) (_:∀b k H',Same H H'->jd A H' b k->(∀m∈k.M b,H m=none)->StB (hs.map Ent.num) hs k->Q (.ref b) H'):tQ A vs H Q E
def Ec(T:Txt K mg A D):jK P w K mg base CX0 11 A.acm D.acm ["way", "days", "entries"] (tQ A):=by
 refine T.aes.F.okv Es λ_ _ _ _ H vs Q E hr h=>?_
 ·obtain⟨w,q,g,es,hs,rfl,z,k⟩:=h
  refine⟨_,(iB (iR (pcg (vo T) hr T.aeo (vW T) (ir (lK T.ag2 (vJ (K:=K) T) (hr.mono (by decide)) (by rfl) T.afn (xG T) .nil jC (pav 0 (pav 1 iw))) (pav 2 iw))))),?_⟩;walk_at "a";intro b db hb ab _;have hN:=pY (C:=A.acZ) hb ab;refine⟨b,w,g,H,db,rfl,hN,λk1 H1 s1 hB hm hk=>⟨rfl,?_⟩⟩;obtain⟨pr,ps,pg,xo,rfl,hl⟩:=hk;obtain⟨Cw,dw,w1,w2⟩:=z.w;refine⟨b,q,_,es,hs,rfl,hB,⟨_,_,_,_,_,_,rfl,hl⟩,⟨Cw,dw,s1 _ _ w1,w2⟩,λc=>?_,s1 _ _ z.q,λr hr=>(z.e r hr).same s1,z.h,z.b,z.l,z.n,z.p,λk2 H2 aa o2 ac c2=>?_⟩
  ·have c:H w=none:=hm _ c
   rw[w1]at c;cases c
  ·obtain⟨g1,g2⟩:=mine s1 hm o2
   exact k b k2 H2 g1 aa g2 ac
def ajY{H:Hp}{D:Addr}{u:HO}:But D H (upd H D u):=λb o n e=>(iQ n).trans e
noncomputable def jJ.dat(s:jJ):(Int×Int×Str×Int×SP5)×Option Int:=(s.core,s.lo)
theorem aaU{H0 H:Hp}:∀{sl:List (Addr×jJ)}{acc:List V},wH (λt v=>∃y s,v=.ref y/\(jO A H y s/\H0 s.pl=none)/\s.dat=t.2.dat) sl acc->∃q:List (Addr×jJ),acc=pR q/\q.map (λt=>t.2.dat)=sl.map (λt=>t.2.dat)/\∀t∈q,jO A H t.1 t.2/\H0 t.2.pl=none
 |[],[],_=>⟨[],rfl,rfl,λt h=>(zo h).elim⟩
 |t::sl,v::acc,h=>by
  obtain⟨⟨y,s,rfl,hs,hc⟩,h2⟩:=h;obtain⟨q,e1,e2,e3⟩:=aaU h2;refine⟨(y,s)::q,by rw[e1];rfl,by rw[zi,e2,hc];rfl,λu z=>?_⟩;rcases zv.mp z with rfl|z
  ·exact hs
  ·exact e3 u z
 |[],_::_,h=>h.elim
 |_::_,[],h=>h.elim
inductive Dl(A:Adr)(vs:List V)(H:Hp)(Q:VK)(E:XK):Prop
 |mk (b:Addr) (k:BkD) (_:vs=[.ref b]) (_:jd A H b k) (_:k.sl.length<=100) (_:∀l sl H',Same H H'->H l=none->H' l=some (.lst (pR sl))->(∀t∈sl,jO A H' t.1 t.2/\H t.2.pl=none)->sl.map (λt=>t.2.dat)=k.sl.map (λt=>t.2.dat)->Q (.ref l) H'):Dl A vs H Q E
def lB(T:Txt K mg A D):jK P w K mg base CX0 4 A.aco D.aco ["self"] (Dl A):=by
 refine T.aeu.okv Mm λ_ _ _ _ H vs Q E hr h=>?_
 ·obtain⟨b,kb,rfl,z,hl,k⟩:=h
  refine⟨_,(iB (iR (jW (cap:=[none]) (N':=["sale"]) rfl (by walk_at "c") (lJ (K:=K) (fv K 0)) (λ_ _ _ _=>(iK (i:=0) nd1 rfl orl orr)) (λ_ _ _ _=>jN) (λ_ _ _ _=>(pcg (JH T) hr T.aet (Kv T) (pav 0 iw)))))),?_⟩;walk_at "a";obtain⟨dx,hb⟩:=z.i;have hC:=Fb T z;refine rd hb hC.c hC.s (by rfl) ⟨kb.sales,rfl,⟨_,iI z.s⟩,?_⟩;refine Pb (f:=λt:Addr×jJ=>V.ref t.1) (λσ=>∃a,σ=[a]) (λ_ t v H'=>∃y s,v=.ref y/\(jO A H' y s/\H s.pl=none)/\s.dat=t.2.dat) (iI z.s) ⟨_,rfl⟩ (by omega) ?_ ?_
  ·rintro Da t ht σ H5 R ⟨_,rfl⟩ sm hD ⟨acc,hA⟩ kk
   walk_at "i";exact⟨t.1,t.2,rfl,(z.frz.s t ht).same sm,λy pl H6 s6 hy q hS=>kk (.ref y) _ H6 ⟨_,rfl⟩ s6 λH' hb=>⟨y,_,rfl,⟨hS.but (s6 _ _ hA) (λe=>by rw[show pl=Da from e,hA]at q;cases q) hb,sm.free q⟩,rfl⟩⟩
  ·intro Da H' acc hD sm hA hF
   obtain⟨sl,e1,e2,e3⟩:=aaU hF;exact k Da sl H' sm hD (e1▸hA) e3 e2
abbrev Dat:=(Int×Int×Str×Int×SP5)×Option Int
noncomputable def ajN(c:Dat):Int:=if c.2=none then c.1.2.2.2.1 - (c.1.2.2.2.2.map λr=>r.2.1.c).sum else 0
noncomputable def Dm(d:Int)(cs:List Dat):Int:=((cs.filter λc=>decide (c.1.2.1<=d)).map ajN).sum
def SQ{d:Int}{sl:List (Addr×jJ)}:Dm d (sl.map λt=>t.2.dat)=((sl.filter λt=>decide (t.2.d<=d)).map λt=>t.2.cnt).sum:=by
 unfold Dm;rw[List.filter_map,zx];rfl
inductive FQ(A:Adr)(vs:List V)(H:Hp)(Q:VK)(E:XK):Prop
 |mk (b:Addr) (k:BkD) (d:Int) (_:vs=[.ref b,.int d]) (_:jd A H b k) (_:k.sl.length<=100) (_:∀H',Same H H'->Q (.int (Dm d (k.sl.map λt=>t.2.dat))) H'):FQ A vs H Q E
def Fz(T:Txt K mg A D):jK P w K mg base CX0 5 A.acH D.acH ["book", "day"] (FQ A):=by
 refine T.aeN.F.okv Qw λ_ _ _ _ H vs Q E z h=>?_
 ·obtain⟨b,kb,d,rfl,hB,hl,k⟩:=h
  refine⟨_,(iB (iR (jm (ql (K:=K) rfl) (by rfl) T.ae3 (by decide+kernel) (ir (jW (cap:=[none,some 1]) (N':=["sale", "day"]) rfl (by walk_at "c") (lJ (K:=K) (lZ (pv 0) (mc T.agp T.ahS (lB T) z (lQ T) (mc T.agC T.ahT (lB T) z (lQ T) .nil)) jC)) (λ_ _ _ _=>(iK (i:=0) (show(["sale", "day"]:List Str).Nodup from by decide+kernel) rfl orl orr)) (λ_ _ _ _=>(HW (iY (MN) (fv K 0) (pvD 1) (jf _)))) (λ_ _ _ _=>(lZ (pv 0) (mc T.agM T.ahU (qy T) z (rQ T) .nil) jC))) iw)))),?_⟩;obtain⟨db,hb⟩:=hB.i;walk_at "a";refine md hb hB.me (kb.noM _ (by decide+kernel)) ⟨b,kb,rfl,hB,hl,λq sl H2 s2 hq h2 ab hd=>?_⟩;have ad:sl.length=kb.sl.length:=by simpa using congrArg List.length hd
  rw[<-hd,SQ]at k;refine⟨q,rfl,⟨_,iI h2⟩,?_⟩;refine aiR (f:=λt:Addr×jJ=>V.ref t.1) (λσ=>∃a,σ=[a,some (.int d)]) (λt=>decide (t.2.d<=d)) (λ_ t v _=>v=.int t.2.cnt) (iI h2) ⟨_,rfl⟩ (by omega) ?_ ?_
  ·rintro Da t ht σ H5 R1 R2 ⟨_,rfl⟩ sm hD hA k1 k2
   have hS:=(ab t ht).1.same sm;obtain⟨dt,hi⟩:=hS.i;walk_at "i";refine rd hi T.agM T.agO (by rfl) ⟨_,rfl,?_⟩;by_cases e:t.2.d<=d
   ·rw[zg e]
    exact md hi zk (by rfl) ⟨t.1,t.2,rfl,hS,λH7 s7=>k1 (zD e) _ _ _ ⟨_,rfl⟩ s7 λ_ _=>rfl⟩
   ·rw[zc e]
    exact k2 (zF e) _ _ ⟨_,rfl⟩ (same_refl _)
  ·intro D3 H3 ac ae s3 h3 aa
   rw[wH.ints aa]at h3;rw[ap_rSum];exact⟨_,iI h3,k H3 (s2.trans s3)⟩
noncomputable def gnC(z:Bool)(g:Int)(c:Dat)(r:Addr×jq×Int):Int:=if decide (g<=c.1.2.1 - r.2.1.s)=z then(if c.2=none then r.2.2 - r.2.1.c else 0)else 0
noncomputable def RX(z:Bool)(g:Int)(c:Dat):Int:=(c.1.2.2.2.2.map (gnC z g c)).sum
noncomputable def ZW(z:Bool)(g f l:Int)(cs:List Dat):Int:=(cs.map λc=>if f<=c.1.2.1/\c.1.2.1<=l then RX z g c else 0).sum
noncomputable def sm2(a b:Int):List (Key×V):=[(Sum.inr "short",.int a),(Sum.inr "long",.int b)]
def RB{a b:Int}:Li [] (sm2 a b)=sm2 a b:=MJ (sm2 a b) [] (by show([Sum.inr "short",Sum.inr "long"]:List Key).Nodup;decide+kernel)
def Cy{sl:List (Addr×jJ)}{i:Nat}{y:V}(h:(pR sl)[i]? =some y):∃t,sl[i]? =some t/\y=.ref t.1:=by
 unfold pR at h;rw[zf]at h
 cases e:sl[i]? with
 |none=>rw[e]at h;cases h
 |some r=>rw[e]at h;exact⟨r,rfl,(zw h).symm⟩
def jO.butK{H H':Hp}{D x:Addr}{s:jJ}{kvs:List (Key×V)}(h:jO A H x s)(hD:H D=some (.dK kvs))(b:But D H H'):jO A H' x s:=by
 have ne:∀{a:Addr}{o:HO},H a=some o->(∀kvs,o≠.dK kvs)->H' a=some o:=fun{a o} e c=>b _ _ (λz=>by rw[z,hD]at e;exact c _ (zw e).symm) e;exact⟨let⟨dx,e⟩:=h.i;⟨dx,ne e λ_ c=>(by cases c)⟩,ne h.p λ_ c=>(by cases c),λr q=>ne (h.t r q) λ_ c=>(by cases c),h.l⟩
def Ms{z:Bool}{g f l:Int}{sl:List (Addr×jJ)}:ZW z g f l (sl.map λt=>t.2.dat)=(sl.map λt=>if f<=t.2.d/\t.2.d<=l then RX z g t.2.dat else 0).sum:=by
 unfold ZW;rw[zx];rfl
def qd{α:Type}{F:α->Int}{xs:List α}{i:Nat}{x:α}(h:xs[i]? =some x):((xs.take (i+1)).map F).sum=((xs.take i).map F).sum+F x:=by
 rw[zS,h,zu,yH];show _+(F x+0)=_;rw[zW]
inductive vy(A:Adr)(vs:List V)(H:Hp)(Q:VK)(E:XK):Prop
 |mk (b:Addr) (k:BkD) (g f l:Int) (_:vs=[.ref b,.int g,.int f,.int l]) (_:jd A H b k) (_:k.sl.length<=100) (_:∀p H',Same H H'->H p=none->H' p=some (.dK (sm2 (ZW false g f l (k.sl.map λt=>t.2.dat)) (ZW true g f l (k.sl.map λt=>t.2.dat))))->Q (.ref p) H'):vy A vs H Q E
def pP(T:Txt K mg A D):jK P w K mg base CX0 5 A.acF D.acF ["book", "long", "first", "last"] (vy A):=by
 refine T.aeL.F.okv jV λ_ _ _ _ H vs Q E hr h=>?_
 ·obtain⟨b,kb,g,f,l,rfl,hB,hl,k⟩:=h
  refine ⟨_,(iu (iU (i:=4) jV.nd rfl orl (QQ (xX jw iz (xX jw iz RZ)) rfl rfl (zzw _ _) (zzr rfl)))
   (iu (nQ zO rfl (lJ (K:=K) (lZ (pv 0) (mc T.agp T.ahS (lB T) hr (lQ T) (mc T.agC T.ahT (lB T) hr (lQ T) .nil)) jC)) (iK (i:=5) jV.nd rfl orl)
    (iB (jT (Zm (MN) (MN) (pvD 2) (fv K 5) (pvD 3)) (iB (nQ zO rfl (lJ (K:=K) (pcg (Io T) hr T.aeK (Kz T) (pav 5 (pav 1 iw)))) (mZ (K:=K) (n:=5) rfl (jk (iK (i:=6) jV.nd rfl orl) (jk (iK (i:=7) jV.nd rfl orl) (jk (iK (i:=8) jV.nd rfl orl) (jk (iK (i:=9) jV.nd rfl orl) (jk (iK (i:=10) jV.nd rfl orl) mX))))))
      (iB (uE (oV hr) (pvD 4) (pvD 9) (jb jD (BV (oV hr) (pvD 4) (pvD 9) (λ_ _=>rfl)) (pvD 10)) rfl)))) jo)))
   (iB (iR (pvD 4))))),?_⟩
  simp only[start_eq];refine jB λu hu=>?_;rw[ap_seq];walk_at "i";unfold ZK;intro z ag;simp only[Lj];walk_at "i";refine⟨iC,sm2 0 0,rfl,(show(2:Nat)<=15 by decide),?_⟩;rw[RB];have s1:Same H (upd (upd H z (.dK [])) z (.dK (sm2 0 0))):=λa o h=>(iQ (jE h ag)).trans (iH ag _ _ h);have h1:(upd (upd H z (.dK [])) z (.dK (sm2 0 0))) z=some (.dK (sm2 0 0)):=iC;generalize upd (upd H z (.dK [])) z (.dK (sm2 0 0))=H1 at s1 h1⊢;subst hu;have ak:=hB.same s1;obtain⟨db,ay⟩:=ak.i
  (try dsimp only)
  rw[ap_seq,ap_for];walk_at "i";refine md ay ak.me (kb.noM _ (by decide+kernel)) ⟨b,kb,rfl,ak,hl,λq sl H2 s2 hq h2 aw hd=>?_⟩;have az:sl.length=kb.sl.length:=by simpa using congrArg List.length hd
  have ar:z≠q:=λe=>by rw[<-e,h1]at hq;cases hq
  have S2:=s1.trans s2;rw[<-hd,Ms,Ms]at k;refine⟨q,rfl,⟨_,iI h2⟩,?_⟩
  refine Bw.listN (K:=K) (a:=q) (xs:=pR sl) (λi σ H3=>∃v5 v6 v7 v8 v9 ac:Option V,σ=[some (.ref b),some (.int g),some (.int f),some (.int l),some (.ref z),v5,v6,v7,v8,v9,ac]/\Same H H3/\H3 q=some (.lst (pR sl))/\(∀t∈sl,jO A H3 t.1 t.2)/\H3 z=some (.dK (sm2 ((sl.take i).map λt=>if f<=t.2.d/\t.2.d<=l then RX false g t.2.dat else 0).sum ((sl.take i).map λt=>if f<=t.2.d/\t.2.d<=l then RX true g t.2.dat else 0).sum)))
   ⟨_,_,_,_,_,_,rfl,S2,h2,λt ht=>(aw t ht).1,s2 _ _ h1⟩ (λi σ H3 _ ⟨_,_,_,_,_,_,_,_,h,_⟩=>iI h) ?_ ?_
  ·rintro i y σ H3 hi ⟨v5,v6,v7,v8,v9,ac,rfl,s3,h3,ah,aa⟩ N hN
   obtain⟨t,ht,rfl⟩:=Cy hi;have au:=zn ht;have hT:=ah t au;obtain⟨dt,aq⟩:=hT.i;rw[qd ht,qd ht]at hN;walk_at "i";refine rd aq T.agM T.agO (by rfl) ⟨_,rfl,?_⟩;generalize((sl.take i).map λt=>if f<=t.2.d/\t.2.d<=l then RX false g t.2.dat else 0).sum=a at aa hN;generalize((sl.take i).map λt=>if f<=t.2.d/\t.2.d<=l then RX true g t.2.dat else 0).sum=c at aa hN;by_cases e1:f<=t.2.d
   ·rw[zg e1]
    refine⟨_,rfl,?_⟩;by_cases e2:t.2.d<=l
    ·simp only[zg (And.intro e1 e2)]at hN
     rw[zg e2,ap_for];walk_at "i";refine⟨t.1,t.2,g,rfl,hT,λl4 as H4 s4 ba h4 al=>?_⟩;have ai:=s4 _ _ aa;refine⟨l4,rfl,⟨_,iI h4⟩,?_⟩
     refine Bw.listN (K:=K) (a:=l4) (xs:=as.map V.ref) (λj σ H5=>∃v6 v7 v8 v9 ac:Option V,σ=[some (.ref b),some (.int g),some (.int f),some (.int l),some (.ref z),some (.ref t.1),v6,v7,v8,v9,ac]/\But z H4 H5/\Same H H5/\H5 z=some (.dK (sm2 (a+((t.2.ps.take j).map (gnC false g t.2.dat)).sum) (c+((t.2.ps.take j).map (gnC true g t.2.dat)).sum))))
      ⟨_,_,_,_,_,rfl,λ_ _ _ h=>h,s3.trans s4,by rw[List.take_zero];show H4 z=some (.dK (sm2 (a+0) (c+0)));rw[zW,zW];exact ai⟩ (λj σ H5 _ ⟨_,_,_,_,_,_,hb,_⟩=>iI (hb _ _ (λe=>by rw[e,ai]at h4;cases h4) h4)) ?_ ?_
     ·rintro j y σ H5 hj ⟨v6,v7,v8,v9,ac,rfl,ae,s5,ab⟩ N2 af
      obtain ⟨ad,ax,rfl⟩:∃ad,as[j]? =some ad/\y=.ref ad:=by
       rw[zf]at hj
       cases e:as[j]? with
       |none=>rw[e]at hj;cases hj
       |some r=>rw[e]at hj;exact⟨r,rfl,(zw hj).symm⟩
      obtain⟨x,hx,aj⟩:=al.2 j ad ax
      obtain ⟨r,ap,rfl⟩:∃r,t.2.ps[j]? =some r/\x=alF t.2 g r.2.1 r.2.2:=by
       unfold Uz at hx;rw[zf]at hx
       cases e:t.2.ps[j]? with
       |none=>rw[e]at hx;cases hx
       |some r=>rw[e]at hx;exact⟨r,rfl,(zw hx).symm⟩
      have av:=ae _ _ (λe=>by rw[e,ai]at aj;cases aj) aj;rw[qd ap,qd ap]at af;walk_at "i";refine⟨_,jG av,rfl,_,_,rfl,_,_,rfl,_,_,rfl,_,_,rfl,_,_,rfl,rfl,?_⟩;have an:∀{o:HO},But z H4 (upd H5 z o):=λb o' ao h=>(iQ ao).trans (ae _ _ ao h);by_cases e:g<=t.2.d - r.2.1.s
      ·rw[show kdP t.2 r.2.1 g=Str.ofString "long" from zg e]
       rw[show gnC true g t.2.dat r=gnP t.2 r.2.1 r.2.2 from zg (zD e),show gnC false g t.2.dat r=0 from zc (by rw[show decide (g<=t.2.dat.1.2.1 - r.2.1.s)=true from zD e];decide),zW,<-zzV]at af;exact⟨_,rF (k:=Sum.inr "long") ab,_,rfl,_,rfl,_,vm (k:=Sum.inr "long") ab (by rw[zq];show(2:Nat)<_;decide),af _ _ ⟨_,_,_,_,_,rfl,an,s5.upd ag,iC⟩⟩
      ·rw[show kdP t.2 r.2.1 g=Str.ofString "short" from zc e]
       rw[show gnC false g t.2.dat r=gnP t.2 r.2.1 r.2.2 from zg (zF e),show gnC true g t.2.dat r=0 from zc (by rw[show decide (g<=t.2.dat.1.2.1 - r.2.1.s)=false from zF e];decide),zW,<-zzV]at af;exact⟨_,rF (k:=Sum.inr "short") ab,_,rfl,_,rfl,_,vm (k:=Sum.inr "short") ab (by rw[zq];show(2:Nat)<_;decide),af _ _ ⟨_,_,_,_,_,rfl,an,s5.upd ag,iC⟩⟩
     ·rintro σ H5 ⟨v6,v7,v8,v9,ac,rfl,ae,s5,ab⟩
      have am:as.length=t.2.ps.length:=by rw[al.1];unfold Uz;rw[za]
      rw[za,am,zU]at ab;exact hN _ _ ⟨_,_,_,_,_,_,rfl,s5,ae _ _ (Ne.symm ar) (s4 _ _ h3),λt ht=>((ah t ht).same s4).butK ai ae,ab⟩
    ·rw[zc e2]
     simp only[zc (λc:f<=t.2.d/\t.2.d<=l=>e2 c.2),zW]at hN;exact hN _ _ ⟨_,_,_,_,_,_,rfl,s3,h3,ah,aa⟩
   ·rw[zc e1]
    simp only[zc (λc:f<=t.2.d/\t.2.d<=l=>e1 c.1),zW]at hN;exact hN _ _ ⟨_,_,_,_,_,_,rfl,s3,h3,ah,aa⟩
  ·rintro σ H3 ⟨v5,v6,v7,v8,v9,ac,rfl,s3,h3,ah,aa⟩
   rw[Js,zU]at aa;walk_at "a";exact k z H3 s3 ag aa
theorem Wi{α:Type}{p:α->Bool}{F:α->Int}:∀{xs:List α},((xs.filter p).map F).sum=(xs.map λx=>if p x=true then F x else 0).sum
 |[]=>rfl
 |x::xs=>by
  rw[zi,zK,<-Wi (xs:=xs),zzu];split
  ·rw[zi,zK]
  ·rw[zzG]
def aaw{d:Int}{sl:List (Addr×jJ)}:Dm d (sl.map λt=>t.2.dat)=(sl.map λt=>if t.2.d<=d then t.2.cnt else 0).sum:=by
 rw[SQ,Wi];simp only[decide_eq_true_eq]
inductive Ga(A:Adr)(vs:List V)(H:Hp)(Q:VK)(E:XK):Prop
 |mk (q:Addr) (sl:List (Addr×jJ)) (d:Int) (_:vs=[.ref q,.int d]) (_:H q=some (.lst (pR sl))) (_:(∀t∈sl,jO A H t.1 t.2)) (_:∀H',Same H H'->Q (.int (Dm d (sl.map λt=>t.2.dat))) H'):Ga A vs H Q E
def Oa(T:Txt K mg A D):jK P w K mg base CX0 1 A.acI D.acI ["_law_sales", "_law_day"] (Ga A):=by
 refine T.aeO.F.okv rB λ_ _ _ _ H vs Q E hr h=>?_
 ·obtain⟨q,sl,d,rfl,hq,hS,k⟩:=h
  refine ⟨_,(iu (iU (i:=2) rB.nd rfl orl iz)
   (iu (nQ zO rfl (jM (K:=K) (pv 0)) (iK (i:=3) rB.nd rfl orl)
    (iB (jT (PW.pt (Fl (iY (MN) (fv K 3) (pvD 1) (jf _)) (BZ (iY (Aj) (fv K 3) nj (jf _))))) (iB (iU (i:=2) rB.nd rfl orl (jb pD (jb jD (pvD 2) (fv K 3)) (jm (ql (K:=K) rfl) (by rfl) T.ae3 (by decide+kernel) (ir (jW (cap:=[none]) (N':=["_law_part"]) rfl (by walk_at "c") (lJ (K:=K) (fv K 3)) (λ_ _ _ _=>(iK (i:=0) nd1 rfl orl orr)) (λ_ _ _ _=>jN) (λ_ _ _ _=>(jy (je (K:=K)) (pvD 0) iz (λ_ _=>rfl)))) iw))))) jo)))
   (iB (iR (pvD 2))))),?_⟩
  rw[aaw]at k;simp only[start_eq];walk_at "m"
  (try dsimp only)
  rw[ap_seq,ap_for];walk_at "i";refine⟨⟨_,iI hq⟩,?_⟩;refine Bw.listN (K:=K) (a:=q) (xs:=pR sl) (λi σ H3=>∃v3:Option V,σ=[some (.ref q),some (.int d),some (.int ((sl.take i).map λt=>if t.2.d<=d then t.2.cnt else 0).sum),v3]/\Same H H3) ⟨_,rfl,same_refl _⟩ (λi σ H3 _ ⟨_,_,s⟩=>iI (s _ _ hq)) ?_ ?_
  ·rintro i y σ H3 hi ⟨v3,rfl,s3⟩ N hN
   obtain⟨t,ht,rfl⟩:=Cy hi;have z:=(hS t (zn ht)).same s3;obtain⟨dt,aa⟩:=z.i;rw[qd ht]at hN;walk_at "i";refine rd aa T.agM T.agO (by rfl) ⟨_,rfl,?_⟩;by_cases e:t.2.d<=d
   ·rw[zg e]at hN
    rw[zg e];refine rd aa T.agM T.agS (v:=loV t.2.lo) (by rfl) ?_;generalize((sl.take i).map λt=>if t.2.d<=d then t.2.cnt else 0).sum=a at hN⊢;unfold jJ.cnt at hN
    cases e2:t.2.lo with
    |none=>
     rw[zg (show loV none=V.non from rfl)];rw[e2,zg rfl]at hN;refine rd aa T.agM T.agQ (by rfl) ⟨_,rfl,rd aa T.agM T.agR (by rfl) ⟨_,rfl,⟨_,iI z.p⟩,?_⟩⟩;refine Pb (f:=λr:Addr×jq×Int=>V.ref r.1) (λσ=>∃a,σ=[a]) (λ_ r v _=>v=.int r.2.1.c) (iI z.p) ⟨_,rfl⟩ (by have:=z.l;omega) ?_ ?_
     ·rintro Da r ab σ H5 R ⟨_,rfl⟩ sm hD hA kk
      have h5:=sm _ _ (z.t r ab);walk_at "i";exact⟨_,jG h5,_,rfl,kk _ _ _ ⟨_,rfl⟩ (same_refl _) λ_ _=>rfl⟩
     ·intro D5 H5 acc ac s5 h5 hF
      rw[wH.ints hF]at h5;rw[ap_rSum];refine⟨_,iI h5,?_⟩;exact⟨_,rfl,hN _ _ ⟨_,by rw[show a+t.2.pr - (t.2.ps.map λr=>r.2.1.c).sum=a+(t.2.pr - t.2.co) by show a+t.2.pr - t.2.co=_;omega],s3.trans s5⟩⟩
    |some n=>
     rw[zc (show¬loV (some n)=V.non from λc=>by cases c)];rw[e2,zc (λc=>by cases c),zW]at hN;exact hN _ _ ⟨_,rfl,s3⟩
   ·rw[zc e,zW]at hN
    rw[zc e];exact hN _ _ ⟨_,rfl,s3⟩
  ·rintro σ H3 ⟨v3,rfl,s3⟩
   rw[Js,zU];walk_at "a";exact k H3 s3
theorem Nt{α:Type}:∀l:List α,(l.map λ_=>(0:Int)).sum=0
 |[]=>rfl
 |_::l=>by rw[zi,zK,Nt l];rfl
def Yl{z:Bool}{g:Int}{c:Dat}(h:c.2≠none):RX z g c=0:=by
 unfold RX gnC;simp only[zc h,ite_self];exact Nt _
inductive FZ(A:Adr)(vs:List V)(H:Hp)(Q:VK)(E:XK):Prop
 |mk (q:Addr) (sl:List (Addr×jJ)) (g f l:Int) (_:vs=[.ref q,.int g,.int f,.int l]) (_:H q=some (.lst (pR sl))) (_:(∀t∈sl,jO A H t.1 t.2)) (_:∀p H',Same H H'->H p=none->H' p=some (.dK (sm2 (ZW false g f l (sl.map λt=>t.2.dat)) (ZW true g f l (sl.map λt=>t.2.dat))))->Q (.ref p) H'):FZ A vs H Q E
def Gd(T:Txt K mg A D):jK P w K mg base CX0 1 A.acJ D.acJ ["_law_sales", "_law_long", "_law_first", "_law_last"] (FZ A):=by
 refine T.aeP.F.okv lD λ_ _ _ _ H vs Q E hr h=>?_
 ·obtain⟨q,sl,g,f,l,rfl,hq,hS,k⟩:=h
  refine ⟨_,(iu (iU (i:=4) lD.nd rfl orl (QQ (xX jw iz (xX jw iz RZ)) rfl rfl (zzw _ _) (zzr rfl)))
   (iu (nQ zO rfl (jM (K:=K) (pv 0)) (iK (i:=5) lD.nd rfl orl)
    (iB (jT (PW.pt (Fl (iY (MN) (pvD 2) (fv K 5) (jf _)) (Fl (iY (MN) (fv K 5) (pvD 3) (jf _)) (BZ (iY (Aj) (fv K 5) nj (jf _)))))) (iB (nQ zO rfl (lJ (K:=K) (fv K 5)) (mZ (K:=K) (n:=5) rfl (jk (iK (i:=6) lD.nd rfl orl) (jk (iK (i:=7) lD.nd rfl orl) (jk (iK (i:=8) lD.nd rfl orl) (jk (iK (i:=9) lD.nd rfl orl) (jk (iK (i:=10) lD.nd rfl orl) mX))))))
      (iu (iU (i:=11) lD.nd rfl orl (jy (lA (K:=K)) (kZ (ir jw (ir jw iw))) (nu Wc (by rfl) T.aeU (by decide+kernel) (ir (uP (akm) (fv K 5) (jb jD (pvD 7) (pvD 1)) (jf _)) iw)) (λ_ _=>rfl)))
      (iB (uE (oV hr) (pvD 4) (pvD 11) (jb pD (jb jD (BV (oV hr) (pvD 4) (pvD 11) (λ_ _=>rfl)) (pvD 10)) (pvD 9)) rfl))))) jo)))
   (iB (iR (pvD 4))))),?_⟩
  rw[Ms,Ms]at k;simp only[start_eq];refine jB λu hu=>?_;rw[ap_seq];walk_at "i";unfold ZK;intro pd ae;simp only[Lj];walk_at "i";refine⟨iC,sm2 0 0,rfl,(show(2:Nat)<=15 by decide),?_⟩;rw[RB];have s1:Same H (upd (upd H pd (.dK [])) pd (.dK (sm2 0 0))):=λa o h=>(iQ (jE h ae)).trans (iH ae _ _ h);have h1:(upd (upd H pd (.dK [])) pd (.dK (sm2 0 0))) pd=some (.dK (sm2 0 0)):=iC;generalize upd (upd H pd (.dK [])) pd (.dK (sm2 0 0))=H1 at s1 h1⊢;subst hu
  (try dsimp only)
  rw[ap_seq,ap_for];walk_at "i";refine⟨⟨_,iI (s1 _ _ hq)⟩,?_⟩
  refine Bw.listN (K:=K) (a:=q) (xs:=pR sl) (λi σ H3=>∃v5 v6 v7 v8 v9 ac ab:Option V,σ=[some (.ref q),some (.int g),some (.int f),some (.int l),some (.ref pd),v5,v6,v7,v8,v9,ac,ab]/\Same H H3/\H3 pd=some (.dK (sm2 ((sl.take i).map λt=>if f<=t.2.d/\t.2.d<=l then RX false g t.2.dat else 0).sum ((sl.take i).map λt=>if f<=t.2.d/\t.2.d<=l then RX true g t.2.dat else 0).sum)))
   ⟨_,_,_,_,_,_,_,rfl,s1,h1⟩ (λi σ H3 _ ⟨_,_,_,_,_,_,_,_,s,_⟩=>iI (s _ _ hq)) ?_ ?_
  ·rintro i y σ H3 hi ⟨v5,v6,v7,v8,v9,ac,ab,rfl,s3,z⟩ N hN
   obtain⟨t,ht,rfl⟩:=Cy hi;have ah:=zn ht;have hT:=(hS t ah).same s3;obtain⟨dt,ag⟩:=hT.i;rw[qd ht,qd ht]at hN;walk_at "i";refine rd ag T.agM T.agO (by rfl) ⟨_,rfl,?_⟩;generalize((sl.take i).map λt=>if f<=t.2.d/\t.2.d<=l then RX false g t.2.dat else 0).sum=a at z hN;generalize((sl.take i).map λt=>if f<=t.2.d/\t.2.d<=l then RX true g t.2.dat else 0).sum=c at z hN;by_cases e1:f<=t.2.d
   ·rw[zg e1]
    refine rd ag T.agM T.agO (by rfl) ⟨_,rfl,?_⟩;by_cases e2:t.2.d<=l
    ·simp only[zg (And.intro e1 e2)]at hN
     rw[zg e2];refine rd ag T.agM T.agS (v:=loV t.2.lo) (by rfl) ?_
     cases e3:t.2.lo with
     |none=>
      rw[zg (show loV none=V.non from rfl),ap_for];walk_at "i";refine rd ag T.agM T.agR (by rfl) ⟨t.2.pl,rfl,⟨_,iI hT.p⟩,?_⟩
      refine Bw.listN (K:=K) (a:=t.2.pl) (xs:=Gr t.2.ps) (λj σ H5=>∃v6 v7 v8 v9 ac ab:Option V,σ=[some (.ref q),some (.int g),some (.int f),some (.int l),some (.ref pd),some (.ref t.1),v6,v7,v8,v9,ac,ab]/\Same H H5/\H5 pd=some (.dK (sm2 (a+((t.2.ps.take j).map (gnC false g t.2.dat)).sum) (c+((t.2.ps.take j).map (gnC true g t.2.dat)).sum))))
       ⟨_,_,_,_,_,_,rfl,s3,by rw[List.take_zero];show H3 pd=some (.dK (sm2 (a+0) (c+0)));rw[zW,zW];exact z⟩ (λj σ H5 _ ⟨_,_,_,_,_,_,_,s,_⟩=>iI ((hS t ah).same s).p) ?_ ?_
      ·rintro j y σ H5 hj ⟨v6,v7,v8,v9,ac,ab,rfl,s5,ad⟩ N2 aa
       obtain⟨r,ai,rfl⟩:=Ij hj;have aj:=(hS t ah).same s5;have am:=aj.t r (zn ai);obtain⟨an,al⟩:=aj.i;rw[qd ai,qd ai]at aa;generalize((t.2.ps.take j).map (gnC false g t.2.dat)).sum=a2 at ad aa;generalize((t.2.ps.take j).map (gnC true g t.2.dat)).sum=c2 at ad aa;walk_at "i";refine⟨_,jG am,rfl,_,_,rfl,_,_,rfl,_,_,rfl,_,_,rfl,_,_,rfl,rfl,?_⟩;refine jB λu2 ak=>?_;rw[ap_seq];walk_at "i";refine⟨sz,λp hp=>?_⟩;have s6:=iH (o:=.lst [V.str (Str.ofString "short"),V.str (Str.ofString "long")]) hp;have af:=s6 _ _ ad;have S6:=s5.trans s6;refine rd (s6 _ _ al) T.agM T.agO (by rfl) ⟨_,rfl,.inr ⟨_,iI iC,.str (kdP t.2 r.2.1 g),?_,?_⟩⟩
       ·unfold kdP
        by_cases c:g<=t.2.d - r.2.1.s
        ·rw[zg c,zg (by omega)];rfl
        ·rw[zc c,zc (by omega)];rfl
       generalize upd H5 p _=H6 at s6 af S6;subst ak;walk_at "i";by_cases e:g<=t.2.d - r.2.1.s
       ·rw[show kdP t.2 r.2.1 g=Str.ofString "long" from zg e]
        rw[show gnC true g t.2.dat r=r.2.2 - r.2.1.c from(zg (zD e)).trans (zg e3),show gnC false g t.2.dat r=0 from zc (by rw[show decide (g<=t.2.dat.1.2.1 - r.2.1.s)=true from zD e];decide),zW]at aa;exact⟨_,rF (k:=Sum.inr "long") af,_,rfl,_,vm (k:=Sum.inr "long") af (by rw[zq];show(2:Nat)<_;decide),aa _ _ ⟨_,_,_,_,_,_,rfl,S6.upd ae,by rw[show c+(c2+(r.2.2 - r.2.1.c))=c+c2+r.2.2 - r.2.1.c by omega];exact iC⟩⟩
       ·rw[show kdP t.2 r.2.1 g=Str.ofString "short" from zc e]
        rw[show gnC false g t.2.dat r=r.2.2 - r.2.1.c from(zg (zF e)).trans (zg e3),show gnC true g t.2.dat r=0 from zc (by rw[show decide (g<=t.2.dat.1.2.1 - r.2.1.s)=false from zF e];decide),zW]at aa;exact⟨_,rF (k:=Sum.inr "short") af,_,rfl,_,vm (k:=Sum.inr "short") af (by rw[zq];show(2:Nat)<_;decide),aa _ _ ⟨_,_,_,_,_,_,rfl,S6.upd ae,by rw[show a+(a2+(r.2.2 - r.2.1.c))=a+a2+r.2.2 - r.2.1.c by omega];exact iC⟩⟩
      ·rintro σ H5 ⟨v6,v7,v8,v9,ac,ab,rfl,s5,ad⟩
       rw[tR,zU]at ad;exact hN _ _ ⟨_,_,_,_,_,_,_,rfl,s5,ad⟩
     |some n=>
      rw[zc (show¬loV (some n)=V.non from λc=>by cases c)];simp only[Yl (show t.2.dat.2≠none from λc=>by rw[show t.2.dat.2=t.2.lo from rfl,e3]at c;cases c),zW]at hN;exact hN _ _ ⟨_,_,_,_,_,_,_,rfl,s3,z⟩
    ·rw[zc e2]
     simp only[zc (λc:f<=t.2.d/\t.2.d<=l=>e2 c.2),zW]at hN;exact hN _ _ ⟨_,_,_,_,_,_,_,rfl,s3,z⟩
   ·rw[zc e1]
    simp only[zc (λc:f<=t.2.d/\t.2.d<=l=>e1 c.1),zW]at hN;exact hN _ _ ⟨_,_,_,_,_,_,_,rfl,s3,z⟩
  ·rintro σ H3 ⟨v5,v6,v7,v8,v9,ac,ab,rfl,s3,z⟩
   rw[Js,zU]at z;walk_at "a";exact k pd H3 s3 ae z
theorem Tg{α:Type}{a b:α->Int}:∀l:List α,(l.map λr=>a r+b r).sum=(l.map a).sum+(l.map b).sum
 |[]=>rfl
 |r::l=>by rw[zi,zi,zi,zK,zK,zK,Tg l];omega
theorem SN{α:Type}{a b:α->Int}:∀l:List α,(l.map λr=>a r - b r).sum=(l.map a).sum - (l.map b).sum
 |[]=>rfl
 |r::l=>by rw[zi,zi,zi,zK,zK,zK,SN l];omega
def aiU{g:Int}{c:Dat}{r:Addr×jq×Int}:gnC false g c r+gnC true g c r=if c.2=none then r.2.2 - r.2.1.c else 0:=by
 unfold gnC;by_cases h:g<=c.1.2.1 - r.2.1.s
 ·rw[zD h,zc (show¬(true=false) by decide),zg rfl,zzG]
 ·rw[zF h,zg rfl,zc (show¬(false=true) by decide),zW]
noncomputable def YW(c:Int×Int×Str×Int×SP5):Prop:=(c.2.2.2.2.map λr=>r.2.2).sum=c.2.2.2.1/\c.2.1<=1000000
def Xk{g:Int}{c:Dat}(q:YW c.1):RX false g c+RX true g c=ajN c:=by
 unfold RX;rw[<-Tg];simp only[aiU];unfold ajN;by_cases h:c.2=none
 ·simp only[zg h]
  rw[<-q.1];exact SN _
 ·simp only[zc h]
  exact Nt _
def Hf{d:Int}{cs:List Dat}:Dm d cs=(cs.map λc=>if c.1.2.1<=d then ajN c else 0).sum:=by
 unfold Dm;rw[Wi];simp only[decide_eq_true_eq]
theorem Qn{g f:Int}(hf:f<1000000):∀{cs:List Dat},(∀c∈cs,YW c.1)->Dm f cs+ZW false g (f+1) 1000000 cs+ZW true g (f+1) 1000000 cs=Dm 1000000 cs
 |[],_=>rfl
 |c::cs,h=>by
  have q:=Qn (g:=g) hf (cs:=cs) λx hx=>h x (zt _ hx);rw[Hf,Hf]at q⊢;unfold ZW at q⊢;simp only[zi,zK];have z:=h c zk;have e:=Xk (g:=g) z;have hd:=z.2;rw[zg hd];by_cases h1:c.1.2.1<=f
  ·have h2:¬(f+1<=c.1.2.1/\c.1.2.1<=1000000):=by omega
   rw[zg h1,zc h2,zc h2];omega
  ·have h2:f+1<=c.1.2.1/\c.1.2.1<=1000000:=by omega
   rw[zc h1,zg h2,zg h2];omega
def Yg{f:Int}(z:1000000<=f){cs:List Dat}(h:∀c∈cs,YW c.1):Dm f cs=Dm 1000000 cs:=by
 rw[Hf,Hf];refine congrArg List.sum (yd λc q=>?_);have hd:=(h c q).2;rw[zg hd,zg (by omega)]
def Oj(a b:Int):Alike (sm2 a b) (sm2 a b):=by
 have hu:((sm2 a b).map (·.1)).Nodup:=by show([Sum.inr "short",Sum.inr "long"]:List Key).Nodup;decide+kernel
 refine⟨rfl,λz q=>?_⟩;have hv:=Ma hu (k:=z.1) (v:=z.2) q
 obtain ⟨i,e⟩:∃i,z.2=.int i:=by
  unfold sm2 at q;simp only[zv,zo,or_false]at q;rcases q with rfl|rfl<;>exact⟨_,rfl⟩
 exact⟨i,e,e▸hv⟩
noncomputable def aiA:V->List V->Hp->VK->Prop:=λx vs H Q=>∃l kvs,x=.ref l/\vs=[]/\H l=some (.dK kvs)/\Q .non (upd H l (.dK []))
def YB{X:Cx}:MtM X "dict.clear" aiA:=by
 intro pins s σ H x vs v us Q I rx rv h;obtain⟨l,kvs,rfl,rfl,hH,q⟩:=h;cases rx;have z:=rv.zero;subst z;exact aiz I hH λs' I'=>⟨.non,_,I',rfl,q⟩
def Aa{e:Int}(h1:0<=e)(h2:e<=1000000):alf 10 e:=⟨h1,h2,by decide⟩
structure Dg(B H:Hp)(l:Addr)(c:Int):Prop where
 s:But l B H
 n:∃c0,B l=some (.lst [.int c0])
 h:H l=some (.lst [.int c])
def Dg.of{H:Hp}{l:Addr}{c:Int}(h:H l=some (.lst [.int c])):Dg H H l c:=⟨λ_ _ _ e=>e,⟨c,h⟩,h⟩
def Dg.trans{B H H':Hp}{l:Addr}{c q:Int}(h:Dg B H l c)(g:Dg H H' l q):Dg B H' l q:=⟨λb o n e=>g.s b o n (h.s b o n e),h.n,g.h⟩
def Dg.same{B H H':Hp}{l:Addr}{c:Int}(h:Dg B H l c)(s:Same H H'):Dg B H' l c:=⟨λb o n e=>s _ _ (h.s b o n e),h.n,s _ _ h.h⟩
def Dg.put{B H:Hp}{l:Addr}{c:Int}(h:Dg B H l c)(q:Int):Dg B (upd H l (.lst [.int q])) l q:=⟨λb o n e=>(iQ n).trans (h.s b o n e),h.n,iC⟩
def Dg.t{B H:Hp}{l b:Addr}{c:Int}{xs:List V}(h:Dg B H l c)(e:B b=some (.tup xs)):H b=some (.tup xs):=h.s b _ (λz=>by obtain⟨q,g⟩:=h.n;rw[z,g]at e;cases e) e
def Dg.d{B H:Hp}{l b:Addr}{c:Int}{xs:List (Key×V)}(h:Dg B H l c)(e:B b=some (.dK xs)):H b=some (.dK xs):=h.s b _ (λz=>by obtain⟨q,g⟩:=h.n;rw[z,g]at e;cases e) e
def Dg.off{q B H:Hp}{l:Addr}{c:Int}(h:Dg B H l c)(s:Same q B)(n:q l=none):Same q H:=λb o e=>h.s b o (λz=>by rw[z,n]at e;cases e) (s _ _ e)
def Ov{i j:Int}(q:0<j)(h1:j<10^30):Oi i j:=by
 refine⟨q,?_⟩;have:j.natAbs<2^100:=by omega
 exact zH this (yJ (by decide) (by decide))
inductive rH(vs:List V)(H:Hp)(Q:VK)(E:XK):Prop
 |mk (l:Addr) (c m:Int) (_:vs=[.ref l,.int m]) (_:H l=some (.lst [.int c])) (_:0<m) (_:m<10^30) (_:∀H',Dg H H' l (c/m)->Q (.int (c%m)) H'):rH vs H Q E
def ji(T:Txt K mg A D):jK P w K mg base CX0 1 A.acs D.acs ["_law_digits", "_law_many"] rH:=by
 refine T.aey.F.okv Ft λ_ _ _ _ H vs Q E hr h=>?_
 ·obtain⟨l,c,m,rfl,q,z,h1,k⟩:=h
  refine ⟨_,(iu (iU (i:=2) Ft.nd rfl orl (jb mW (jy (lA (K:=K)) (pvD 0) iz (λ_ _=>rfl)) (pvD 1)))
   (iu (Xh (jb oY (jy (lA (K:=K)) (pvD 0) iz (λ_ _=>rfl)) (pvD 1)) (ajD (pvD 0) iz set_list))
   (iB (iR (pvD 2))))),?_⟩
  simp only[start_eq];walk_at "m";refine⟨_,iI q,_,rfl,_,rfl,z,?_⟩;walk_at "m";refine⟨_,iI q,_,rfl,_,rfl,Ov z h1,?_⟩;unfold alI;walk_at "i";exact⟨l,_,0,0,rfl,rfl,q,rfl,k _ ⟨λb o n e=>(iQ n).trans e,⟨c,q⟩,iC⟩⟩
inductive Df(vs:List V)(H:Hp)(Q:VK)(E:XK):Prop
 |mk (c k:Int) (_:vs=[.int c,.int k]) (_:0<=k) (_:k<=1000) (_:∀r:Int,Q (.int r) H):Df vs H Q E
def Ng(T:Txt K mg A D):jK P w K mg base CX0 1 A.acq D.acq ["_law_cell", "_law_k"] Df:=by
 refine T.aew.F.okv mR λ_ _ _ _ H vs Q E hr h=>?_
 ·obtain⟨c,k',rfl,aa,hk,k⟩:=h
  refine ⟨_,(iu (iU (i:=2) mR.nd rfl orl iz)
   (iu (nQ zO rfl (Cm (by rfl) T.ae8 (ir iz iw)) (iK (i:=3) mR.nd rfl orl)
    (iu (iU (i:=4) mR.nd rfl orl (jb mW (jb lN (jb jD (jb jD (jb jD (jb mW (pvD 0) (jb nP iz iz)) (jb lN iz (pvD 1))) (jb lN iz (pvD 3))) iz) iz) iz))
    (iu (iU (i:=4) mR.nd rfl orl (jb mW (jb lN (jb jD (jb jD (pvD 4) (jb lN iz (pvD 3))) (pvD 1)) iz) iz))
    (iB (iU (i:=2) mR.nd rfl orl (jb jD (jb lN (pvD 2) iz) (pvD 4)))))))
   (iB (iR (pvD 2))))),?_⟩
  simp only[start_eq];walk_at "m";rw[ap_seq,ap_for];walk_at "i";refine⟨by decide,by decide,?_⟩;refine Bw.range (lo:=0) (n:=8) (λi σ H2=>H2=H/\∃(n:Int)(z q:Option V),σ=[some (.int c),some (.int k'),some (.int n),z,q]) ⟨rfl,0,_,_,rfl⟩ ?_ ?_
  ·rintro i σ H2 hi ⟨rfl,n,z,q,rfl⟩
   walk_at "i";walk_at "m";refine⟨Aa (by decide) (by decide),by decide,Qj (by decide) (by decide),Qj (by decide) (by decide),rG (by decide) (by decide),by decide,?_⟩;walk_at "m";refine⟨Qj (by decide) (by decide),rG (by decide) (by decide),by decide,?_⟩;exact rG (by decide) (by decide)
  ·rintro σ H2 ⟨rfl,n,z,q,rfl⟩
   walk_at "a";exact k n
inductive oX(vs:List V)(H:Hp)(Q:VK)(E:XK):Prop
 |mk (l:Addr) (c:Int) (_:vs=[.ref l]) (_:H l=some (.lst [.int c])) (_:∀v c' H',Dg H H' l c'->Rg 1 1000000 v->Q (.int v) H'):oX vs H Q E
def Ay(T:Txt K mg A D):jK P w K mg base CX0 2 A.acx D.acx ["_law_digits"] oX:=by
 refine T.aeD.F.okv Kf λ_ _ _ _ H vs Q E hr h=>?_
 ·obtain⟨l,c,rfl,hl,k⟩:=h
  refine⟨_,(iB (iR (jb jD iz (pcg (ji T) hr T.aey (jn T) (pav 0 (ir (jy (lA (K:=K)) (kZ (ir iz (ir iz (ir (jb nP iz iz) iw)))) (pcg (ji T) hr T.aey (jn T) (pav 0 (ir iz iw))) (λ_ _=>rfl)) iw)))))),?_⟩;simp only[start_eq];walk_at "i";refine⟨Aa (by decide) (by decide),sz,λp hp=>?_⟩;have z:p≠l:=λe=>by rw[e,hl]at hp;cases hp
  refine⟨l,c,3,rfl,(iQ (Ne.symm z)).trans hl,by decide,by decide,λH1 D1=>?_⟩;obtain⟨v,hv,q⟩:=at3 (i:=c%3) (a:=9) (b:=500) (c:=1000000) (lo:=1) (hi:=1000000) (z6 _ (by decide)) (zY _ (by decide)) ⟨by decide,by decide⟩ ⟨by decide,by decide⟩ ⟨by decide,by decide⟩;refine⟨_,_,rfl,iI (D1.s _ _ z iC),_,hv,l,_,v,rfl,D1.h,by have:=q.1;omega,by have:=q.2;omega,λH2 D2=>⟨_,rfl,k _ _ _ ⟨λb o n e=>(D1.trans D2).s b o n (iH hp _ _ e),⟨c,hl⟩,D2.h⟩ ?_⟩⟩;have h1:=z6 (c/3) (show v≠0 by have:=q.1;omega);have h2:=zY (c/3) (show 0<v by have:=q.1;omega);exact⟨by omega,by have:=q.2;omega⟩
inductive uH(vs:List V)(H:Hp)(Q:VK)(E:XK):Prop
 |mk (l:Addr) (c:Int) (_:vs=[.ref l]) (_:H l=some (.lst [.int c])) (_:∀v c' H',Dg H H' l c'->Rg 0 1000000000 v->Q (.int v) H'):uH vs H Q E
def Cq(T:Txt K mg A D):jK P w K mg base CX0 2 A.acw D.acw ["_law_digits"] uH:=by
 refine T.aeC.F.okv Nj λ_ _ _ _ H vs Q E hr h=>?_
 ·obtain⟨l,c,rfl,hl,k⟩:=h
  refine⟨_,(iB (iR (pcg (ji T) hr T.aey (jn T) (pav 0 (ir (jy (lA (K:=K)) (kZ (ir iz (ir iz (ir (jb jD (jb nP iz iz) iz) iw)))) (pcg (ji T) hr T.aey (jn T) (pav 0 (ir iz iw))) (λ_ _=>rfl)) iw))))),?_⟩;simp only[start_eq];walk_at "i";refine⟨Aa (by decide) (by decide),sz,λp hp=>?_⟩;have z:p≠l:=λe=>by rw[e,hl]at hp;cases hp
  refine⟨l,c,3,rfl,(iQ (Ne.symm z)).trans hl,by decide,by decide,λH1 D1=>?_⟩;obtain⟨v,hv,q⟩:=at3 (i:=c%3) (a:=10) (b:=100) (c:=1000000001) (lo:=1) (hi:=1000000001) (z6 _ (by decide)) (zY _ (by decide)) ⟨by decide,by decide⟩ ⟨by decide,by decide⟩ ⟨by decide,by decide⟩;refine⟨_,_,rfl,iI (D1.s _ _ z iC),_,hv,l,_,v,rfl,D1.h,by have:=q.1;omega,by have:=q.2;omega,λH2 D2=>k _ _ _ ⟨λb o n e=>(D1.trans D2).s b o n (iH hp _ _ e),⟨c,hl⟩,D2.h⟩ ?_⟩;have h1:=z6 (c/3) (show v≠0 by have:=q.1;omega);have h2:=zY (c/3) (show 0<v by have:=q.1;omega);exact⟨by omega,by have:=q.2;omega⟩
inductive Fo(vs:List V)(H:Hp)(Q:VK)(E:XK):Prop
 |mk (l:Addr) (c h:Int) (_:vs=[.ref l,.int h]) (_:H l=some (.lst [.int c])) (_:Rg 1 1000000000 h) (_:∀v c' H',Dg H H' l c'->Rg 1 h v->Q (.int v) H'):Fo vs H Q E
def FP(T:Txt K mg A D):jK P w K mg base CX0 2 A.acv D.acv ["_law_digits", "_law_here"] Fo:=by
 refine T.aeB.F.okv Py λ_ _ _ _ H vs Q E hr h=>?_
 ·obtain⟨l,c,h,rfl,hl,z,k⟩:=h
  refine ⟨_,(iu (jT (iY (mU) (pcg (ji T) hr T.aey (jn T) (pav 0 (ir iz iw))) iz (jf _)) (iB (iR (pvD 1))) jo)
   (iB (iR (jb jD iz (pcg (ji T) hr T.aey (jn T) (pav 0 (pav 1 iw))))))),?_⟩
  simp only[start_eq];walk_at "m";unfold Rg at z;refine⟨l,c,3,rfl,hl,by decide,by decide,λH1 q=>⟨rfl,?_⟩⟩;split
  ·exact k _ _ _ q ⟨z.1,zzQ _⟩
  ·refine⟨l,_,h,rfl,q.h,by omega,by omega,λH2 D2=>⟨_,rfl,k _ _ _ (q.trans D2) ?_⟩⟩
   have h1:=z6 (c/3) (show h≠0 by omega);have h2:=zY (c/3) (show 0<h by omega);exact⟨by omega,by omega⟩
inductive um(vs:List V)(H:Hp)(Q:VK)(E:XK):Prop
 |mk (l:Addr) (c d n h:Int) (w:Str) (_:vs=[.int d,.int n,.str w,.ref l,.int h]) (_:H l=some (.lst [.int c])) (_:Rg 0 1000000000 h) (_:∀t m f H',But l H H'->H' t=some (.tup [.str "split",.int d,.int n,.str w,.int m,.int f])->Rg 1 1000 m->Rg 1 1000 f->(h=0\/1<=h*m/f)->Q (.ref t) H'):um vs H Q E
def Ea(T:Txt K mg A D):jK P w K mg base CX0 2 A.act D.act ["_law_day", "_law_number", "_law_ware", "_law_digits", "_law_here"] um:=by
 refine T.aez.F.okv oF λ_ _ _ _ H vs Q E hr h=>?_
 ·obtain⟨l,c,d,n,h,w,rfl,hl,hh,k⟩:=h
  refine ⟨_,(iu (iU (i:=5) oF.nd rfl orl (jb jD iz (pcg (ji T) hr T.aey (jn T) (pav 3 (ir iz iw)))))
   (iu (iU (i:=6) oF.nd rfl orl (jb jD iz (pcg (ji T) hr T.aey (jn T) (pav 3 (ir iz iw)))))
   (iu (jT (PW.pt (DN (iY (Ku) (jb oY (jb lN (pvD 4) (pvD 5)) (pvD 6)) (jb nP iz iz) (jf _)) (Ai (PW.pt (Fl (iY (Ku) (pvD 4) iz (jf _)) (BZ (iY (mU) (jb oY (jb lN (pvD 4) (pvD 5)) (pvD 6)) iz (jf _)))))))) (iB (iR (mj (ir jw (pav 0 (pav 1 (pav 2 (ir iz (ir iz iw))))))))) jo)
   (iB (iR (mj (ir jw (pav 0 (pav 1 (pav 2 (pav 5 (pav 6 iw)))))))))))),?_⟩
  simp only[start_eq];walk_at "m";refine⟨l,c,10,rfl,hl,by decide,by decide,λH1 D1=>⟨_,rfl,?_⟩⟩;walk_at "m";refine⟨l,_,10,rfl,D1.h,by decide,by decide,λH2 D2=>⟨_,rfl,?_⟩⟩;have b1:=vD (x:=c) (m:=10) (lo:=0) (hi:=9) (by decide) (by decide) (by decide);have b2:=vD (x:=c/10) (m:=10) (lo:=0) (hi:=9) (by decide) (by decide) (by decide);generalize c/10%10=f0 at b2;generalize c%10=m0 at b1;unfold Rg at b1 b2 hh;walk_at "m";have c1:Ab h (1+m0):=Qj (by omega) (by omega);have c2:∀i:Int,Oi i (1+f0):=λi=>Ov (by omega) (by omega);have z:6<=sizeLine:=sz;have out:∀m f:Int,Rg 1 1000 m->Rg 1 1000 f->(h=0\/1<=h*m/f)->∀p,H2 p=none->Q (.ref p) (upd H2 p (.tup [.str (Str.ofString "split"),.int d,.int n,.str w,.int m,.int f])):=λm f hm hf hq p hp=>k p m f _ (λb o n e=>iH hp _ _ ((D1.trans D2).s b o n e)) iC hm hf hq;have q:Rg 1 1000 1:=⟨by decide,by decide⟩;have r2:Rg 1 1000 (1+m0):=⟨by omega,by omega⟩;have r3:Rg 1 1000 (1+f0):=⟨by omega,by omega⟩;have r0:h=0\/1<=h*1/1:=by rw[Int.mul_one,Int.ediv_one];omega
  have r4:0<=h*(1+m0)/(1+f0):=Int.ediv_nonneg (Int.mul_nonneg hh.1 (by omega)) (by omega);refine⟨c1,c2 _,Aa (by decide) (by decide),?_⟩;split
  ·exact⟨z,out 1 1 q q r0⟩
  ·split
   ·refine⟨c1,c2 _,?_⟩
    split
    ·exact⟨z,out 1 1 q q r0⟩
    ·exact⟨z,out _ _ r2 r3 (by omega)⟩
   ·exact⟨z,out _ _ r2 r3 (by omega)⟩
inductive vA(vs:List V)(H:Hp)(Q:VK)(E:XK):Prop
 |mk (l p cd:Addr) (c d n:Int) (w u:Str) (kvs:List (Key×V)) (_:vs=[.int d,.int n,.ref p,.ref l,.ref cd]) (_:H l=some (.lst [.int c])) (_:H p=some (.tup [.str w,.str u])) (_:H cd=some (.dK kvs)) (_:Cnt kvs) (_:((∀t s r H',But l H H'->H' t=some (.tup [.str "part",.int d,.int n,.str w,.str u,.int s,.int r])->Rg 1 1000000 r->Rg 0 r s->Q (.ref t) H')/\∀t H',But l H H'->H' t=some (.tup [.str "split",.int d,.int n,.str w,.int 1,.int 1])->Q (.ref t) H')):vA vs H Q E
def GF(T:Txt K mg A D):jK P w K mg base CX0 2 A.acu D.acu ["_law_day", "_law_number", "_law_wares", "_law_digits", "_law_counts"] vA:=by
 refine T.aeA.F.okv mq λ_ _ _ _ H vs Q E hr h=>?_
 ·obtain⟨l,p,cd,c,d,n,w,u,kvs,rfl,hl,hp,ac,hC,k1,k2⟩:=h
  refine ⟨_,(iu (Xh (pvD 2) (mZ (K:=K) (n:=2) rfl (jk (iK (i:=5) mq.nd rfl orl) (jk (iK (i:=6) mq.nd rfl orl) mX))))
   (iu (iU (i:=7) mq.nd rfl orl (jb jD iz (pcg (ji T) hr T.aey (jn T) (pav 3 (ir (jy (lA (K:=K)) (kZ (ir iz (ir (jb nP iz iz) iw))) (pcg (ji T) hr T.aey (jn T) (pav 3 (ir iz iw))) (λ_ _=>rfl)) iw)))))
   (iu (iU (i:=8) mq.nd rfl orl (pcg (ji T) hr T.aey (jn T) (pav 3 (ir (jb jD (pvD 7) iz) iw))))
   (iu (jT (iY (Ku) (jb jD (pq (oV hr) (pvD 4) (pvD 5) iz ⟨rfl,rfl,rfl,rfl⟩) (pq (oV hr) (pvD 4) (pvD 6) iz ⟨rfl,rfl,rfl,rfl⟩)) (jb nP iz iz) (jf _)) (iB (iR (mj (ir jw (pav 0 (pav 1 (pav 5 (ir iz (ir iz iw))))))))) jo)
   (iB (iR (mj (ir jw (pav 0 (pav 1 (pav 5 (pav 6 (pav 8 (pav 7 iw)))))))))))))),?_⟩
  simp only[start_eq];walk_at "m";refine⟨_,jG hp,rfl,_,_,rfl,_,_,rfl,rfl,?_⟩;walk_at "m";refine⟨Aa (by decide) (by decide),sz,λq hq=>?_⟩;have aa:q≠l:=λe=>by rw[e,hl]at hq;cases hq
  refine⟨l,c,2,rfl,(iQ (Ne.symm aa)).trans hl,by decide,by decide,λH1 D1=>?_⟩
  obtain ⟨v,hv,bv⟩:∃v,atI [V.int 9,V.int (10^(6:Int).toNat)] (c%2)=some (.int v)/\Rg 1 1000000 v:=by
   rcases(show c%2=0\/c%2=1 by omega)with e|e<;>rw[e]
   ·exact⟨9,rfl,by decide,by decide⟩
   ·exact⟨1000000,rfl,by decide,by decide⟩
  unfold Rg at bv;refine⟨_,_,rfl,iI (D1.s _ _ aa iC),_,hv,l,_,v,rfl,D1.h,by omega,by omega,λH2 D2=>⟨_,rfl,?_⟩⟩;have D0:Dg H (upd H q (.lst [V.int 9,V.int (10^(6:Int).toNat)])) l c:=(Dg.of hl).same (iH hq);have D2:=D0.trans (D1.trans D2);have b1:=z6 (c/2) (show v≠0 by omega);have b2:=zY (c/2) (show 0<v by omega);obtain⟨r,ab⟩:∃r,r=1+c/2%v:=⟨_,rfl⟩;rw[<-ab];have br:Rg 1 1000000 r:=⟨by omega,by omega⟩;walk_at "m";refine⟨l,_,r+1,rfl,D2.h,by omega,by omega,λH3 D3=>?_⟩;have D3:=D2.trans D3;have s1:=z6 (c/2/v) (show r+1≠0 by omega);have s2:=zY (c/2/v) (show 0<r+1 by omega);generalize c/2/v%(r+1)=sh at s1 s2;obtain⟨g1,ad⟩:=hC.get w;obtain⟨g2,ae⟩:=hC.get u;walk_at "m";have z:=D3.d ac;refine⟨.inl ⟨kvs,.inl z⟩,_,rF (k:=Sum.inr w) z,.inl ⟨kvs,.inl z⟩,_,rF (k:=Sum.inr u) z,?_⟩;rw[g1,g2];walk_at "i";have bt:∀{p:Addr}{u:HO},H3 p=none->But l H (upd H3 p u):=λhp b o n e=>iH hp _ _ (D3.s b o n e);refine⟨Aa (by decide) (by decide),?_⟩;split
  ·exact⟨sz,λp hp=>k2 p _ (bt hp) iC⟩
  ·exact⟨sz,λp hp=>k1 p sh r _ (bt hp) iC br ⟨s1,by omega⟩⟩
def Qq:∀w∈mH,Nm w:=by
 unfold Nm;decide+kernel
def Zh:mH.Nodup:=by decide+kernel
inductive Jj(vs:List V)(H:Hp)(Q:VK)(E:XK):Prop
 |mk (r cd:Addr) (d n kd ix rest:Int) (kvs:List (Key×V)) (_:vs=[.ref r,.ref cd,.bl true]) (_:H r=some (.tup [.int d,.int n,.int kd,.int ix,.int rest])) (_:H cd=some (.dK kvs)) (_:Cnt kvs) (_:(∀z,jA kvs z<=1000000000)) (_:Rg 0 1000000 d) (_:Rg 0 1000000 n) (_:Rg 0 7 kd) (_:Rg 0 2 ix) (_:∀(t:Addr)(e:Ent)(H':Hp),Same H H'->H' t=some (.tup (.str e.word::e.args .non))->(e.good/\e.lots=none/\e.ware∈mH/\e.oth∈mH)->e.day=d->e.num=n->aiV (jA kvs) e->Q (.ref t) H'):Jj vs H Q E
def Rf(T:Txt K mg A D):jK P w K mg base CX0 3 A.acy D.acy ["_law_raw_here", "_law_counts", "_law_giving"] Jj:=by
 refine T.aeE.F.okv kj λ_ _ _ _ H vs Q E hr h=>?_
 ·obtain⟨r,cd,d,n,kd,ix,rest,kvs,rfl,av,ba,hC,hM,bd,bn,bk,bi,k⟩:=h
  refine ⟨_,(iu (Xh (pvD 0) (mZ (K:=K) (n:=5) rfl (jk (iK (i:=3) kj.nd rfl orl) (jk (iK (i:=4) kj.nd rfl orl) (jk (iK (i:=5) kj.nd rfl orl) (jk (iK (i:=6) kj.nd rfl orl) (jk (iK (i:=7) kj.nd rfl orl) mX)))))))
   (iu (iU (i:=8) kj.nd rfl orl (kZ (pav 7 iw)))
   (iu (iU (i:=9) kj.nd rfl orl (kZ (ir jw (ir jw (ir jw iw)))))
   (iu (iU (i:=10) kj.nd rfl orl (jy (lA (K:=K)) (pvD 9) (pvD 6) (λ_ _=>rfl)))
   (iu (iU (i:=11) kj.nd rfl orl (pq (oV hr) (pvD 1) (pvD 10) iz ⟨rfl,rfl,rfl,rfl⟩))
   (iu (jT (iY (mU) (pvD 5) iz (jf _)) (iB (iR (pcg (Ea T) hr T.aez (GR T) (pav 3 (pav 4 (pav 10 (pav 8 (pav 11 iw)))))))) jo)
   (iu (jT (iY (mU) (pvD 5) iz (jf _)) (iu (iU (i:=12) kj.nd rfl orl (jy (lA (K:=K)) (pvD 9) (jb mW (jb jD (jb jD (pvD 6) iz) (pcg (ji T) hr T.aey (jn T) (pav 8 (ir iz iw)))) iz) (λ_ _=>rfl)))
    (iB (iR (pcg (GF T) hr T.aeA (Jm T) (pav 3 (pav 4 (ir (mj (pav 10 (pav 12 iw))) (pav 8 (pav 1 iw))))))))) jo)
   (iu (jT (PW.pt (Fl (iY (mU) (pvD 5) iz (jf _)) (BZ (PW.pt (DN (iY (mU) (pvD 11) iz (jf _)) (DN (Dy (nO (pvD 2))) (Ai (iY (mU) (pcg (ji T) hr T.aey (jn T) (pav 8 (ir iz iw))) iz (jf _))))))))) (iu (iU (i:=13) kj.nd rfl orl (jy (lA (K:=K)) (kZ (ir (pcg (ji T) hr T.aey (jn T) (pav 8 (ir iz iw))) (ir (pcg (ji T) hr T.aey (jn T) (pav 8 (ir (jb nP iz iz) iw))) iw))) (pcg (ji T) hr T.aey (jn T) (pav 8 (ir iz iw))) (λ_ _=>rfl)))
    (iB (iR (mj (ir jw (pav 3 (pav 4 (pav 10 (ir (pcg (Ay T) hr T.aeD (Dq T) (pav 8 iw)) (pav 13 (ir (pcg (ji T) hr T.aey (jn T) (pav 8 (ir (jb jD (pvD 3) iz) iw))) iw))))))))))) jo)
   (iu (jT (iY (mU) (pvD 5) iz (jf _)) (iB (iR (mj (ir jw (pav 3 (pav 4 (pav 10 (ir (pcg (FP T) hr T.aeB (JL T) (pav 8 (pav 11 iw))) (ir nj iw))))))))) jo)
   (iu (jT (PW.pt (DN (iY (Mx) (pvD 5) iz (jf _)) (Ai (iY (mU) (pvD 11) iz (jf _))))) (iB (iR (mj (ir jw (pav 3 (pav 4 (pav 10 (ir (pcg (Ay T) hr T.aeD (Dq T) (pav 8 iw)) (ir (pcg (Cq T) hr T.aeC (Fw T) (pav 8 iw)) (ir (pcg (ji T) hr T.aey (jn T) (pav 8 (ir iz iw))) iw)))))))))) jo)
   (iB (iR (mj (ir jw (pav 3 (pav 4 (pav 10 (ir (pcg (FP T) hr T.aeB (JL T) (pav 8 (pav 11 iw))) (ir (pcg (Cq T) hr T.aeC (Fw T) (pav 8 iw)) (ir (pcg (ji T) hr T.aey (jn T) (pav 8 (ir iz iw))) (ir nj iw))))))))))))))))))))),?_⟩
  unfold Rg at bd bn bk bi;simp only[start_eq];walk_at "n";refine⟨_,jG av,rfl,_,_,rfl,_,_,rfl,_,_,rfl,_,_,rfl,_,_,rfl,rfl,?_⟩;walk_at "n";refine⟨sz,λl hl=>?_⟩;have s1:=iH (o:=.lst [.int rest]) hl;have h1:(upd H l (.lst [.int rest])) l=some (.lst [.int rest]):=iC;generalize upd H l (.lst [.int rest])=H1 at s1 h1;walk_at "n";refine⟨sz,λwa be=>?_⟩;have s2:=iH (o:=.lst [.str (Str.ofString "tin"),.str (Str.ofString "ore"),.str (Str.ofString "abcdefgh")]) be;have h2:(upd H1 wa (.lst [.str (Str.ofString "tin"),.str (Str.ofString "ore"),.str (Str.ofString "abcdefgh")])) wa=some (.lst (mH.map V.str)):=iC;generalize upd H1 wa (.lst [.str (Str.ofString "tin"),.str (Str.ofString "ore"),.str (Str.ofString "abcdefgh")])=H2 at s2 h2;obtain⟨w,as,al⟩:=Yk (ws:=mH) (i:=ix) bi.1 (by show ix<3;omega);have q:=zn al;have bb:Nm w:=Qq w q;walk_at "n";refine⟨_,iI h2,_,as,?_⟩;have S2:=s1.trans s2;have ad:=S2 _ _ ba;obtain⟨hg,aj⟩:=hC.get w;have ae:=hM w;walk_at "n";refine⟨.inl ⟨kvs,.inl ad⟩,_,rF (k:=Sum.inr w) ad,?_⟩;rw[hg];have ac:=s2 _ _ h1;have ar:wa≠l:=λe=>by rw[e,ac]at h2;cases h2
  have am:=aj;generalize ah:jA kvs w=th at hg aj ae;walk_at "n";have hB:Base d n w:=⟨bd.1,bd.2,bn.1,bn.2,bb⟩;have ab:∀{X:Hp},But l H2 X->Same H X:=λb x o e=>b x o (λz=>by rw[z,hl]at e;cases e) (S2 _ _ e);by_cases h6:kd=6
  ·rw[zg h6]
   exact⟨l,rest,d,n,th,w,rfl,ac,⟨aj,ae⟩,λt m f H' b ht hm hf hq=>k t (.split d n w m f) H' (ab b) ht ⟨⟨hB,hm,hf⟩,rfl,q,q⟩ rfl rfl (by show jA kvs w=0\/_;rw[ah];exact hq)⟩
  rw[zc h6];walk_at "n";by_cases h7:kd=7
  ·rw[zg h7]
   walk_at "n";refine⟨l,rest,2,rfl,ac,by decide,by decide,λH3 D3=>?_⟩;have b3:0<=rest%2/\rest%2<2:=by omega
   generalize rest%2=q3 at b3;have ay:0<=(ix+1+q3)%3:=z6 _ (by decide);have aq:(ix+1+q3)%3<3:=zY _ (by decide);obtain⟨u,au,ai⟩:=Yk (ws:=mH) (i:=(ix+1+q3)%3) ay aq;have aw:Nm u:=Qq u (zn ai);have ap:u≠w:=aiY Zh ai al λe=>Zv (L:=3) bi.1 (by omega) b3.1 (by omega) (by omega);refine⟨_,rfl,by decide,_,iI (D3.s _ _ ar h2),_,au,?_⟩;rw[ap_ret];walk_at "i";refine⟨sz,λp hp=>?_⟩;have af:l≠p:=λe=>by rw[<-e,D3.h]at hp;cases hp
   have D4:=D3.same (iH (o:=.tup [V.str w,V.str u]) hp)
   exact ⟨l,p,cd,_,d,n,w,u,kvs,rfl,D4.h,iC,D4.d ad,hC,λt s r H' b ht hr hs=>k t (.part d n w u s r) H' (ab (λx o nn e=>b x o nn (D4.s x o nn e))) ht ⟨⟨hB,aw,ap,hr,hs⟩,rfl,q,zn ai⟩ rfl rfl trivial,
    λt H' b ht=>k t (.split d n w 1 1) H' (ab (λx o nn e=>b x o nn (D4.s x o nn e))) ht ⟨⟨hB,⟨by decide,by decide⟩,⟨by decide,by decide⟩⟩,rfl,q,q⟩ rfl rfl (by show jA kvs w=0\/1<=jA kvs w*1/1;rw[Int.mul_one,Int.ediv_one];omega)⟩
  rw[zc h7]
  have ag:∀(H6:Hp)(c6:Int),Dg H2 H6 l c6->∀(aa:Int),Rg 0 1000000000000000 aa->oX [V.ref l] H6 (λx H1=>rH [V.ref l,V.int (d+1)] H1 (λy H1=>7<=sizeLine/\∀p,H1 p=none->Q (V.ref p) (upd H1 p (HO.tup [V.str (Str.ofString "gift"),V.int d,V.int n,V.str w,x,V.int aa,y]))) E0) E0:=λH6 c6 D6 aa bc=>
   ⟨l,c6,rfl,D6.h,λv c7 H7 D7 bv=>⟨l,c7,d+1,rfl,D7.h,by omega,by omega,λH8 D8=>⟨sz,λp hp=>by
    unfold Rg at bc bv;have z1:=z6 c7 (show d+1≠0 by omega);have z2:=zY c7 (show 0<d+1 by omega);have D:=((D6.trans D7).trans D8).same (iH (o:=.tup [V.str (Str.ofString "gift"),V.int d,V.int n,V.str w,V.int v,V.int aa,V.int (c7%(d+1))]) hp);exact k p (.gift d n w v aa (c7%(d+1))) _ (ab D.s) iC ⟨⟨hB,⟨by omega,by omega⟩,⟨by omega,by omega⟩,⟨by omega,by omega⟩⟩,rfl,q,q⟩ rfl rfl trivial⟩⟩⟩
  have an:oX [V.ref l] H2 (λx H1=>uH [V.ref l] H1 (λaz H1=>rH [V.ref l,V.int 50] H1 (λax H1=>7<=sizeLine/\∀p,H1 p=none->Q (V.ref p) (upd H1 p (HO.tup [V.str (Str.ofString "buy"),V.int d,V.int n,V.str w,x,az,ax]))) E0) E0) E0:=
   ⟨l,rest,rfl,ac,λv c3 H3 D3 bv=>⟨l,c3,rfl,D3.h,λpr c4 H4 D4 bp=>⟨l,c4,50,rfl,D4.h,by decide,by decide,λH5 D5=>⟨sz,λp hp=>by
    unfold Rg at bv bp;have D:=((D3.trans D4).trans D5).same (iH (o:=.tup [V.str (Str.ofString "buy"),V.int d,V.int n,V.str w,V.int v,V.int pr,V.int (c4%50)]) hp);exact k p (.buy d n w v pr (c4%50)) _ (ab D.s) iC ⟨⟨hB,⟨by omega,by omega⟩,⟨by omega,by omega⟩,⟨by omega,by omega⟩⟩,rfl,q,q⟩ rfl rfl trivial⟩⟩⟩⟩
  have ak:∀(x y c:Int),Rg 0 999 x->Rg 0 999999999999999 y->∃v,atI [V.int x,V.int y] (c%2)=some (.int v)/\Rg 0 1000000000000000 v:=λx y c bx ao=>by
   unfold Rg at bx ao;rcases(show c%2=0\/c%2=1 by omega)with e|e<;>rw[e]
   ·exact⟨x,rfl,by omega,by omega⟩
   ·exact⟨y,rfl,by omega,by omega⟩
  walk_at "n";by_cases h5:kd=5
  ·rw[zg h5]
   by_cases h0:th=0
   ·rw[zg h0]
    walk_at "n";refine⟨l,rest,1000,rfl,ac,by decide,by decide,λH4 D4=>⟨Aa (by decide) (by decide),l,_,10^(15:Int).toNat,rfl,D4.h,by decide,by decide,λH5 D5=>⟨sz,λp hp=>?_⟩⟩⟩;have D5:=D4.trans D5;obtain⟨v,hv,bv⟩:=ak (rest%1000) (rest/1000%10^(15:Int).toNat) (rest/1000/10^(15:Int).toNat) (vD (by decide) (by decide) (by decide)) (vD (by decide) (by decide) (by decide));have D6:=D5.same (iH (o:=.lst [V.int (rest%1000),V.int (rest/1000%10^(15:Int).toNat)]) hp);have af:p≠l:=λe=>by rw[e,D5.h]at hp;cases hp
    refine⟨l,_,2,rfl,D6.h,by decide,by decide,λH7 D7=>⟨_,_,rfl,iI (D7.s _ _ af iC),_,hv,?_⟩⟩;rw[ap_ret];walk_at "i";exact ag H7 _ (D6.trans D7) v bv
   ·rw[zc h0]
    refine⟨l,rest,2,rfl,ac,by decide,by decide,λH3 D3=>⟨rfl,?_⟩⟩;have some':1<=th:=by omega
    split
    ·walk_at "n"
     refine⟨l,_,1000,rfl,D3.h,by decide,by decide,λH4 D4=>⟨Aa (by decide) (by decide),l,_,10^(15:Int).toNat,rfl,D4.h,by decide,by decide,λH5 D5=>⟨sz,λp hp=>?_⟩⟩⟩;have D5:=(D3.trans D4).trans D5;obtain⟨v,hv,bv⟩:=ak (rest/2%1000) (rest/2/1000%10^(15:Int).toNat) (rest/2/1000/10^(15:Int).toNat) (vD (by decide) (by decide) (by decide)) (vD (by decide) (by decide) (by decide));have D6:=D5.same (iH (o:=.lst [V.int (rest/2%1000),V.int (rest/2/1000%10^(15:Int).toNat)]) hp);have af:p≠l:=λe=>by rw[e,D5.h]at hp;cases hp
     refine⟨l,_,2,rfl,D6.h,by decide,by decide,λH7 D7=>⟨_,_,rfl,iI (D7.s _ _ af iC),_,hv,?_⟩⟩;rw[ap_ret];walk_at "i";exact ag H7 _ (D6.trans D7) v bv
    ·walk_at "n"
     rw[zg h5];refine⟨l,_,th,rfl,D3.h,⟨some',ae⟩,λv c4 H4 D4 bv=>⟨sz,λp hp=>?_⟩⟩;unfold Rg at bv;have D:=(D3.trans D4).same (iH (o:=.tup [V.str (Str.ofString "give"),V.int d,V.int n,V.str w,V.int v,V.non]) hp);exact k p (.give d n w v none) _ (ab D.s) iC ⟨⟨hB,⟨by omega,by omega⟩,trivial⟩,rfl,q,q⟩ rfl rfl (by show v<=jA kvs w;rw[ah];exact bv.2)
  iterate 2 (rw[zc h5];walk_at "n")
  split
  ·exact an
  ·split
   ·exact an
   ·rename_i bf am
    rw[ap_ret];walk_at "i";refine⟨l,rest,th,rfl,ac,⟨by omega,ae⟩,λv c3 H3 D3 bv=>⟨l,c3,rfl,D3.h,λpr c4 H4 D4 bp=>⟨l,c4,50,rfl,D4.h,by decide,by decide,λH5 D5=>⟨sz,λp hp=>?_⟩⟩⟩⟩;unfold Rg at bv bp;have D:=((D3.trans D4).trans D5).same (iH (o:=.tup [V.str (Str.ofString "sell"),V.int d,V.int n,V.str w,V.int v,V.int pr,V.int (c4%50),V.non]) hp);exact k p (.sell d n w v pr (c4%50) none) _ (ab D.s) iC ⟨⟨hB,⟨by omega,by omega⟩,⟨by omega,by omega⟩,⟨by omega,by omega⟩,trivial⟩,rfl,q,q⟩ rfl rfl (by show v<=jA kvs w;rw[ah];exact bv.2)
def Yd(kvs:List (Key×V))(z y:Str)(i:Int):jA (putK kvs (Sum.inr z) (.int i)) y=if y=z then i else jA kvs y:=by
 unfold jA;rw[ZQ];by_cases e:y=z
 ·rw[zg (by rw[e]),zg e]
 ·rw[zc (λh=>e (yZ h)),zc e]
inductive wX(vs:List V)(H:Hp)(Q:VK)(E:XK):Prop
 |mk (cd t:Addr) (kvs:List (Key×V)) (e:Ent) (_:vs=[.ref cd,.ref t]) (_:H cd=some (.dK kvs)) (_:Cnt kvs) (_:(∀z,jA kvs z<=1000000000)) (_:kvs.length<=1000) (_:H t=some (.tup (.str e.word::e.args .non))) (_:e.good) (_:aiV (jA kvs) e) (_:∀(q:Addr)(kv:List (Key×V))(H':Hp),Same H H'->H q=none->H' q=some (.dK kv)->Cnt kv->kv.length<=kvs.length+1->(∀z,jA kv z=aiN (jA kvs) e z)->Q (.ref q) H'):wX vs H Q E
def Jb(T:Txt K mg A D):jK P w K mg base CX0 1 A.acz D.acz ["_law_counts", "_law_row_here"] wX:=by
 refine T.aeF.F.okv mJ λ_ _ _ _ H vs Q E hr h=>?_
 ·obtain⟨cd,t,kvs,e,rfl,ae,hC,hM,ag,ht,hg,hF,k⟩:=h
  refine ⟨_,(iu (iU (i:=2) mJ.nd rfl orl (jy (je (K:=K)) (pvD 1) iz (λ_ _=>rfl)))
   (iu (iU (i:=3) mJ.nd rfl orl (jy (je (K:=K)) (pvD 1) iz (λ_ _=>rfl)))
   (iu (iU (i:=4) mJ.nd rfl orl (pq (oV hr) (pvD 0) (pvD 3) iz ⟨rfl,rfl,rfl,rfl⟩))
   (iu (iU (i:=5) mJ.nd rfl orl (nu Jp (by rfl) T.ae4 (by decide+kernel) (pav 0 iw)))
   (iu (jT (PW.pt (DN (iY (mU) (pvD 2) jw (jf _)) (Ai (iY (mU) (pvD 2) jw (jf _))))) (iB (uE (oV hr) (pvD 5) (pvD 3) (jb jD (pvD 4) (jy (je (K:=K)) (pvD 1) iz (λ_ _=>rfl))) rfl)) jo)
   (iu (jT (PW.pt (DN (iY (mU) (pvD 2) jw (jf _)) (Ai (iY (mU) (pvD 2) jw (jf _))))) (iB (uE (oV hr) (pvD 5) (pvD 3) (jb pD (pvD 4) (jy (je (K:=K)) (pvD 1) iz (λ_ _=>rfl))) rfl)) jo)
   (iu (jT (iY (mU) (pvD 2) jw (jf _)) (iB (uE (oV hr) (pvD 5) (pvD 3) (jb oY (jb lN (pvD 4) (jy (je (K:=K)) (pvD 1) iz (λ_ _=>rfl))) (jy (je (K:=K)) (pvD 1) iz (λ_ _=>rfl))) rfl)) jo)
   (iu (jT (iY (mU) (pvD 2) jw (jf _)) (iB (uE (oV hr) (pvD 5) (jy (je (K:=K)) (pvD 1) iz (λ_ _=>rfl)) (jb jD (pq (oV hr) (pvD 0) (jy (je (K:=K)) (pvD 1) iz (λ_ _=>rfl)) iz ⟨rfl,rfl,rfl,rfl⟩) (pvD 4)) rfl)) jo)
   (iB (iR (pvD 5))))))))))),?_⟩
  simp only[start_eq];have a0:atI (V.str e.word::e.args .non) 0=some (.str e.word):=by cases e<;>rfl
  have a3:atI (V.str e.word::e.args .non) 3=some (.str e.ware):=by cases e<;>rfl
  walk_at "n";refine⟨_,jG ht,_,a0,?_⟩;walk_at "n";refine⟨_,jG ht,_,a3,?_⟩;obtain⟨g1,g2⟩:=hC.get e.ware;have g3:=hM e.ware;walk_at "n";refine⟨.inl ⟨kvs,.inl ae⟩,_,rF (k:=Sum.inr e.ware) ae,?_⟩;rw[g1];walk_at "n";refine⟨kvs,.inl ae,λq hq=>?_⟩;have s1:=iH (o:=.dK kvs) hq;have ab:(upd H q (.dK kvs)) q=some (.dK kvs):=iC;generalize upd H q (.dK kvs)=H1 at s1 ab;have hsz:kvs.length<sizeLine:=by rw[zq];omega
  have out:∀(z:Str)(i:Int),0<=i->(∀y,(if y=z then i else jA kvs y)=aiN (jA kvs) e y)->Q (.ref q) (upd H1 q (.dK (putK kvs (Sum.inr z) (.int i)))):=λz i h0 h1=>k q _ _ (s1.upd hq) hq iC (hC.put z h0) (uI _ _ _) λy=>(Yd kvs z y i).trans (h1 y);have hh:jA kvs e.ware=jA kvs e.ware/\0<=jA kvs e.ware/\jA kvs e.ware<=1000000000:=⟨rfl,g2,g3⟩;clear g1 g2 g3 a0 a3
  cases e with
  |buy d n w p r f=>
   dsimp only[Ent.word,Ent.ware]at hh⊢;obtain⟨_,ac,ad⟩:=hh;have aa:=s1 _ _ ht;refine jB λu hu=>?_;refine go2 rfl (.inl rfl) ?_;walk_at "i";subst hu;refine⟨_,jG aa,_,rfl,_,rfl,_,vm (k:=Sum.inr w) ab hsz,?_⟩;refine sk2 rfl (by decide+kernel) (by decide+kernel) ?_;refine sk1 rfl (by decide+kernel) ?_;refine sk1 rfl (by decide+kernel) ?_;walk_at "i";obtain⟨_,⟨hp,_⟩,_⟩:=hg;exact out _ _ (by omega) λy=>rfl
  |sell d n w p r f o=>
   dsimp only[Ent.word,Ent.ware]at hh⊢;obtain⟨_,ac,ad⟩:=hh;have aa:=s1 _ _ ht;refine sk2 rfl (by decide+kernel) (by decide+kernel) ?_;refine jB λu hu=>?_;refine go2 rfl (.inl rfl) ?_;walk_at "i";subst hu;refine⟨_,jG aa,_,rfl,_,rfl,_,vm (k:=Sum.inr w) ab hsz,?_⟩;refine sk1 rfl (by decide+kernel) ?_;refine sk1 rfl (by decide+kernel) ?_;walk_at "i";have hF:p<=jA kvs w:=hF;obtain⟨_,⟨hp,_⟩,_⟩:=hg;exact out _ _ (by omega) λy=>rfl
  |gift d n w p c s=>
   dsimp only[Ent.word,Ent.ware]at hh⊢;obtain⟨_,ac,ad⟩:=hh;have aa:=s1 _ _ ht;refine jB λu hu=>?_;refine go2 rfl (.inr rfl) ?_;walk_at "i";subst hu;refine⟨_,jG aa,_,rfl,_,rfl,_,vm (k:=Sum.inr w) ab hsz,?_⟩;refine sk2 rfl (by decide+kernel) (by decide+kernel) ?_;refine sk1 rfl (by decide+kernel) ?_;refine sk1 rfl (by decide+kernel) ?_;walk_at "i";obtain⟨_,⟨hp,_⟩,_⟩:=hg;exact out _ _ (by omega) λy=>rfl
  |give d n w p o=>
   dsimp only[Ent.word,Ent.ware]at hh⊢;obtain⟨_,ac,ad⟩:=hh;have aa:=s1 _ _ ht;refine sk2 rfl (by decide+kernel) (by decide+kernel) ?_;refine jB λu hu=>?_;refine go2 rfl (.inr rfl) ?_;walk_at "i";subst hu;refine⟨_,jG aa,_,rfl,_,rfl,_,vm (k:=Sum.inr w) ab hsz,?_⟩;refine sk1 rfl (by decide+kernel) ?_;refine sk1 rfl (by decide+kernel) ?_;walk_at "i";have hF:p<=jA kvs w:=hF;obtain⟨_,⟨hp,_⟩,_⟩:=hg;exact out _ _ (by omega) λy=>rfl
  |split d n w m f=>
   dsimp only[Ent.word,Ent.ware]at hh⊢;obtain⟨_,ac,ad⟩:=hh;have aa:=s1 _ _ ht;refine sk2 rfl (by decide+kernel) (by decide+kernel) ?_;refine sk2 rfl (by decide+kernel) (by decide+kernel) ?_;refine jB λu hu=>?_;refine go1 rfl ?_;walk_at "i";subst hu;obtain⟨_,⟨hm,ah⟩,⟨hf,aj⟩⟩:=hg;have bm:0<=jA kvs w*m:=Int.mul_nonneg ac (by omega);have bq:0<=jA kvs w*m/f:=Int.ediv_nonneg bm (by omega);refine⟨_,jG aa,_,rfl,_,rfl,Qj (by omega) (by omega),_,jG aa,_,rfl,_,rfl,Ov (by omega) (by omega),_,vm (k:=Sum.inr w) ab hsz,?_⟩;refine sk1 rfl (by decide+kernel) ?_;walk_at "i";exact out _ _ bq λy=>rfl
  |part d n w u a b=>
   dsimp only[Ent.word,Ent.ware]at hh⊢;obtain⟨_,ac,ad⟩:=hh;have aa:=s1 _ _ ht;refine sk2 rfl (by decide+kernel) (by decide+kernel) ?_;refine sk2 rfl (by decide+kernel) (by decide+kernel) ?_;refine sk1 rfl (by decide+kernel) ?_;refine jB λu hu=>?_;refine go1 rfl ?_;walk_at "i";subst hu;have af:=s1 _ _ ae;obtain⟨gu,ai⟩:=hC.get u;refine⟨.inl ⟨kvs,.inl af⟩,_,jG aa,_,rfl,_,rF (k:=Sum.inr u) af,_,gu,_,jG aa,_,rfl,_,vm (k:=Sum.inr u) ab hsz,?_⟩;walk_at "i";exact out _ _ (by omega) λy=>rfl
inductive JZ(vs:List V)(H:Hp)(Q:VK)(E:XK):Prop
 |mk (s k:Int) (_:vs=[.int s,.int k]) (_:∀(t:Addr)(d m kd ix rest:Int)(H':Hp),Same H H'->H' t=some (.tup [.int d,.int (m*64+k),.int kd,.int ix,.int rest])->Rg 0 1000000 d->Rg 0 1999 m->Rg 0 7 kd->Rg 0 2 ix->Q (.ref t) H'):JZ vs H Q E
def RV(T:Txt K mg A D):jK P w K mg base CX0 2 A.acA D.acA ["_law_source", "_law_k"] JZ:=by
 refine T.aeG.F.okv nF λ_ _ _ _ H vs Q E hr h=>?_
 ·obtain⟨s,kk,rfl,k⟩:=h
  refine ⟨_,(iu (iU (i:=2) nF.nd rfl orl (kZ (pav 0 iw)))
   (iu (iU (i:=3) nF.nd rfl orl (pcg (ji T) hr T.aey (jn T) (pav 2 (ir iz iw))))
   (iu (iU (i:=4) nF.nd rfl orl (pcg (ji T) hr T.aey (jn T) (pav 2 (ir iz iw))))
   (iu (iU (i:=5) nF.nd rfl orl (pcg (ji T) hr T.aey (jn T) (pav 2 (ir iz iw))))
   (iu (jT (iY (mU) (pcg (ji T) hr T.aey (jn T) (pav 2 (ir iz iw))) iz (jf _)) (iB (iU (i:=5) nF.nd rfl orl (pcg (ji T) hr T.aey (jn T) (pav 2 (ir (jb jD (jb nP iz iz) iz) iw))))) jo)
   (iu (iU (i:=6) nF.nd rfl orl (jb jD (jb lN (pcg (ji T) hr T.aey (jn T) (pav 2 (ir iz iw))) iz) (pvD 1)))
   (iB (iR (mj (pav 5 (pav 6 (pav 3 (pav 4 (ir (jy (lA (K:=K)) (pvD 2) iz (λ_ _=>rfl)) iw)))))))))))))),?_⟩
  simp only[start_eq];walk_at "n";refine⟨sz,λl hl=>?_⟩;have s1:=iH (o:=.lst [.int s]) hl;have h1:(upd H l (.lst [.int s])) l=some (.lst [.int s]):=iC;generalize upd H l (.lst [.int s])=H1 at s1 h1;walk_at "n";refine⟨l,s,8,rfl,h1,by decide,by decide,λH2 D2=>?_⟩;have b2:=vD (x:=s) (m:=8) (lo:=0) (hi:=7) (by decide) (by decide) (by decide);generalize s%8=kd at b2;walk_at "n";refine⟨l,_,3,rfl,D2.h,by decide,by decide,λH3 D3=>?_⟩;have D3:=D2.trans D3;have b3:=vD (x:=s/8) (m:=3) (lo:=0) (hi:=2) (by decide) (by decide) (by decide);generalize s/8%3=ix at b3;walk_at "n";refine⟨l,_,30,rfl,D3.h,by decide,by decide,λH4 D4=>?_⟩;have D4:=D3.trans D4;have b4:=vD (x:=s/8/3) (m:=30) (lo:=0) (hi:=1000000) (by decide) (by decide) (by decide);generalize s/8/3%30=aa at b4;generalize s/8/3/30=c4 at D4;walk_at "n";refine⟨l,c4,6,rfl,D4.h,by decide,by decide,λH5 z=>⟨rfl,?_⟩⟩;have z:=D4.trans z;split
  ·refine⟨Aa (by decide) (by decide),l,_,_,rfl,z.h,by decide,by decide,λH6 D6=>?_⟩
   have D6:=z.trans D6;have b6:=vD (x:=c4/6) (m:=10^(6:Int).toNat+1) (lo:=0) (hi:=1000000) (by decide) (by decide) (by decide);generalize c4/6%(10^(6:Int).toNat+1)=dy at b6;walk_at "n";refine⟨l,_,2000,rfl,D6.h,by decide,by decide,λH7 q=>⟨_,rfl,rG (by decide) (by decide),?_⟩⟩;have q:=D6.trans q;rw[ap_ret];walk_at "i";refine⟨_,iI q.h,_,rfl,sz,λp hp=>?_⟩;exact k p dy _ kd ix _ _ ((q.same (iH hp)).off s1 hl) iC b6 (vD (by decide) (by decide) (by decide)) b2 b3
  ·walk_at "n"
   refine⟨l,_,2000,rfl,z.h,by decide,by decide,λH7 q=>⟨_,rfl,rG (by decide) (by decide),?_⟩⟩;have q:=z.trans q;rw[ap_ret];walk_at "i";refine⟨_,iI q.h,_,rfl,sz,λp hp=>?_⟩;exact k p aa _ kd ix _ _ ((q.same (iH hp)).off s1 hl) iC b4 (vD (by decide) (by decide) (by decide)) b2 b3
def air(ns:List Int)(m:Nat):∃cs:List Int,Zd (ns.map V.int) (some 1) (some ((m:Int)+1))=cs.map V.int/\cs.length<=m:=by
 refine⟨(ns.drop (min 1 (ns.map V.int).length)).take (min (m+1) (ns.map V.int).length - min 1 (ns.map V.int).length),?_,?_⟩
 ·rw[show((m:Int)+1)=((m+1:Nat):Int) by omega,show(1:Int)=((1:Nat):Int)from rfl]
  unfold Zd;rw[HT.sIx_nat,HT.sIx_nat,List.map_take,List.map_drop]
 ·rw[z0,yD]
  omega
inductive wk(K:Fg_)(vs:List V)(H:Hp)(Q:VK)(E:XK):Prop
 |mk (a:Addr) (ns:List Int) (_:vs=[.ref a]) (_:SqL K H a (ns.map V.int)) (_:∀(p:Addr)(xs:List Int) H',Same H H'->H p=none->H' p=some (.lst (xs.map V.int))->1<=xs.length->xs.length<=56->Q (.ref p) H'):wk K vs H Q E
def JF(T:Txt K mg A D):jK P w K mg base CX0 2 A.acr D.acr ["_law_script"] (wk K):=by
 refine T.aex.F.okv nW λ_ _ _ _ H vs Q E hr h=>?_
 ·obtain⟨a,ns,rfl,hS,k⟩:=h
  refine ⟨_,(iu (iU (i:=1) nW.nd rfl orr (SX (Tr (K:=K)) (pvD 0) (Rj iz) (Rj iz)))
   (iu (jT (PW.pt (Fl (iY (mU) (jb mW (pcg (jH T) hr T.ads (jP T) (pav 0 (ir iz iw))) iz) iz (jf _)) (BZ (iY (Ku) (jm (mG (K:=K)) (by rfl) T.aeY (by decide+kernel) (pav 1 iw)) iz (jf _))))) (iB (iR (jW (cap:=[none]) (N':=["_law_cell"]) rfl (by walk_at "c") (jM (K:=K) (pv 1)) (λ_ _ _ _=>(iK (i:=0) nd1 rfl orl orr)) (λ_ _ _ _=>jN) (λ_ _ _ _=>(jb mW (pvD 0) (jb lN (jb nP iz iz) (jb nP iz iz))))))) jo)
   (iu (iU (i:=1) nW.nd rfl orr (jb Za (pvD 1) (kZ (ir (pcg (jH T) hr T.ads (jP T) (pav 0 (ir iz iw))) iw))))
   (iu (iU (i:=2) nW.nd rfl orl (jb jD iz (jb mW (jb oY (pcg (jH T) hr T.ads (jP T) (pav 0 (ir iz iw))) iz) iz)))
   (iB (iR (jW (cap:=[none,some 1]) (N':=["_law_k", "_law_cells"]) rfl (by walk_at "c") (Cm (by rfl) T.ae8 (pav 2 iw)) (λ_ _ _ _=>(iK (i:=0) (show(["_law_k", "_law_cells"]:List Str).Nodup from by decide+kernel) rfl orl orr)) (λ_ _ _ _=>jN) (λ_ _ _ _=>(pcg (Ng T) hr T.aew (Qm T) (ir (jy (lA (K:=K)) (pvD 1) (jb mW (pvD 0) (jm (mG (K:=K)) (by rfl) T.aeY (by decide+kernel) (pav 1 iw))) (λ_ _=>rfl)) (pav 0 iw))))))))))),?_⟩
  simp only[start_eq];walk_at "n";refine⟨_,hS,λp hp=>?_⟩;obtain⟨cs,ad,af⟩:=air ns 56;rw[show(57:Int)=((56:Nat):Int)+1 from rfl,ad];have z:=iH (o:=.lst (cs.map V.int)) hp;have h1:(upd H p (.lst (cs.map V.int))) p=some (.lst (cs.map V.int)):=iC;generalize upd H p (.lst (cs.map V.int))=H1 at z h1
  (try dsimp only)
  refine jB λu hu=>?_;rw[ap_seq];walk_at "i"
  have rest:u {nx:=λ_ H'=>Q V.non H',rt:=Q} [some (V.ref a),some (V.ref p),none] H1:=by
   subst hu;walk_at "n";refine⟨a,ns,0,rfl,z.seq hS,?_⟩;generalize ns.getD 0 0=q;refine⟨sz,λp1 ag=>?_⟩;have s2:=iH (o:=.lst [V.int q]) ag;refine⟨_,s2 _ _ h1,_,iC,by rw[za,zq];simp;omega,λp2 ac=>?_⟩;have s3:=iH (o:=.lst (cs.map V.int++[V.int q])) ac;have h3:(upd (upd H1 p1 (.lst [V.int q])) p2 (.lst (cs.map V.int++[V.int q]))) p2=some (.lst ((cs++[q]).map V.int)):=by rw[iC,zu];rfl
   have S3:=z.trans (s2.trans s3);generalize upd (upd H1 p1 (.lst [V.int q])) p2 (.lst (cs.map V.int++[V.int q]))=H3 at S3 h3;walk_at "n";refine⟨a,ns,0,rfl,S3.seq hS,_,rfl,⟨by decide,by decide⟩,by decide,?_⟩;obtain⟨m,hm⟩:∃m,m=4+ns.getD 0 0/2%24:=⟨_,rfl⟩;have bm:4<=m/\m<28:=by omega
   rw[<-hm];rw[ap_ret];walk_at "i";refine⟨by omega,by omega,?_⟩;refine akN (λσ=>∃v,σ=[v,some (.ref p2)]) (λi v _=>∃r,v=.int r) ⟨_,rfl⟩ (by rw[zq];omega) ?_ ?_
   ·rintro Da i hi σ H5 R ⟨v,rfl⟩ sm hD hA kk
    walk_at "i";have h5:=sm _ _ h3;have aa:0<(cs++[q]).length:=by rw[zB];exact Nat.succ_pos _
    refine⟨_,.inl (iI h5),by rw[za];omega,_,iI h5,?_⟩;rw[za];generalize cs++[q]=dl at aa h5;have e0:=z6 (0+(i:Int)) (show(dl.length:Int)≠0 by omega);have e1:=zY (0+(i:Int)) (show(0:Int)<dl.length by omega);obtain⟨j,hj⟩:∃j:Nat,(0+(i:Int))%(dl.length:Int)=j:=⟨_,(Int.toNat_of_nonneg e0).symm⟩;rw[hj]at e1⊢;have ae:j<dl.length:=by omega
    exact⟨.int dl[j],Iz (by rw[zf,zh ae];rfl),_,_,rfl,by omega,by omega,λr=>kk _ _ H5 ⟨_,rfl⟩ (same_refl _) λ_ _=>⟨r,rfl⟩⟩
   ·intro Da H' acc hD sm hA ab hF
    obtain ⟨xs,hx⟩:∃xs:List Int,acc=xs.map V.int:=by
     refine⟨acc.map toI,?_⟩;rw[zx];refine(Hh λv hv=>?_).symm;obtain⟨j,hj,ej⟩:=zZ hv;obtain⟨r,rfl⟩:=hF j v (by rw[zh hj,ej]);rfl
    rw[hx]at hA;have ah:xs.length=m.toNat:=by rw[<-ab,hx,za]
    exact k Da xs H' (S3.trans sm) (S3.free hD) hA (by omega) (by omega)
  refine⟨a,ns,0,rfl,z.seq hS,_,rfl,by decide,?_⟩;split
  ·refine⟨_,.inl (iI h1),?_⟩
   rw[za];split
   ·rename_i hc
    have c1:Ab (10^(60:Int).toNat) (10^(30:Int).toNat):=Ab.big (by decide+kernel) (by decide+kernel);refine⟨⟨_,iI h1⟩,lq.list (K:=K) (λσ=>∃v,σ=[v]) (λ_=>true) (λv=>match v with|.int i=> .int (i%(10^(60:Int).toNat*10^(30:Int).toNat))|v=>v) (iI h1) ⟨_,rfl⟩ (by rw[za,zq];omega) ?_ ?_⟩
    ·rintro x hx σ H5 R1 R2 ⟨v,rfl⟩ sm k1 k2
     obtain⟨i,_,rfl⟩:=zj.mp hx;walk_at "i";exact⟨Aa (by decide) (by decide),Aa (by decide) (by decide),c1,by decide+kernel,k1 rfl _ _ ⟨_,rfl⟩ (same_refl _)⟩
    ·intro Da H' hD sm e
     rw[JM,zx]at e;refine k Da (cs.map λi=>i%(10^(60:Int).toNat*10^(30:Int).toNat)) H' (z.trans sm) (z.free hD) (by rw[e,zx];rfl) (by rw[za];omega) (by rw[za];exact af)
   ·exact rest
  ·exact rest
abbrev RWL:=List (Addr×List Int)
noncomputable def Bx(rs:RWL):List V:=rs.map λr=>V.ref r.1
noncomputable def Ws(i:Nat)(xs:List Int):Prop:=∃d m kd ix rest:Int,xs=[d,m*64+i,kd,ix,rest]/\Rg 0 1000000 d/\Rg 0 1999 m/\Rg 0 7 kd/\Rg 0 2 ix
noncomputable def Uv(H:Hp)(rs:RWL):Prop:=∀r∈rs,H r.1=some (.tup (r.2.map V.int))
def Uv.same{H H':Hp}{rs:RWL}(h:Uv H rs)(s:Same H H'):Uv H' rs:=λr q=>s _ _ (h r q)
theorem akO{H:Hp}:∀{acc:List V}{j:Nat},(∀(i:Nat) v,acc[i]? =some v->∃b xs,v=.ref b/\H b=some (.tup (xs.map V.int))/\Ws (j+i) xs)->∃rs:RWL,acc=Bx rs/\Uv H rs/\∀(i:Nat) r,rs[i]? =some r->Ws (j+i) r.2
 |[],_,_=>⟨[],rfl,λr h=>(zo h).elim,λi r h=>by simp at h⟩
 |v::acc,j,h=>by
  obtain⟨b,xs,rfl,hb,hx⟩:=h 0 v rfl
  obtain ⟨rs,e1,z,e3⟩:=akO (acc:=acc) (j:=j+1) λi v hv=>by
   have:=h (i+1) v hv
   rwa [show j+(i+1)=j+1+i by omega]at this
  refine⟨(b,xs)::rs,by rw[e1];rfl,λr q=>?_,λi r hi=>?_⟩
  ·rcases zv.mp q with rfl|q
   ·exact hb
   ·exact z r q
  ·cases i with
   |zero=>cases hi;exact hx
   |succ i=>have:=e3 i r hi;rwa [show j+1+i=j+(i+1) by omega]at this
noncomputable def akj(xs:List Int):Int:=xs.getD 1 0
def Wm{rs:RWL}(hl:rs.length<=56)(h:∀(i:Nat) r,rs[i]? =some r->Ws i r.2):(rs.map λr=>akj r.2).Nodup:=by
 refine yv.mpr λi j hi z ab=>?_;rw[za]at hi z;rw[yF,yF];obtain⟨d,m,kd,ix,rest,e,_,bm,_⟩:=h i _ (zh hi);obtain⟨d',m',ad,ac,q,e',_,aa,_⟩:=h j _ (zh z);rw[e,e'];show m*64+(i:Int)≠m'*64+(j:Int);omega
noncomputable def tsT(H:Hp):V->List Int
 |.ref b=>match H b with
  |some (.tup xs)=>xs.map toI
  |_=>[]
 |_=>[]
def ake{H:Hp}{b:Addr}{xs:List Int}(h:H b=some (.tup (xs.map V.int))):tsT H (.ref b)=xs:=by
 unfold tsT
 try dsimp only
 rw[h]
 try dsimp only
 rw[zx];exact Hh λx _=>rfl
noncomputable def dnE(tl:EL):List (Int×Int):=tl.map λr=>(r.2.day,r.2.num)
noncomputable def dnR(xs:List Int):Int×Int:=(xs.getD 0 0,akj xs)
structure Hs(B H:Hp)(pt c:Addr)(tl:EL)(kc:List (Key×V))(ds:List (Int×Int))(i:Nat):Prop where
 s:Same B H
 l:H pt=some (.lst (Dh tl))
 cd:H c=some (.dK kc)
 cn:B c=none
 t:Wg H tl
 g:Zg (tl.map (·.2))
 k:Cnt kc
 c:∀z,jA kc z=runC (tl.map (·.2)) z
 u:(dnE tl).Sublist (ds.take i)
 n:kc.length<=i
theorem Hs.same{B H H':Hp}{q c:Addr}{tl:EL}{z:List (Key×V)}{ds:List (Int×Int)}{i:Nat}(h:Hs B H q c tl z ds i)(s:Same H H'):Hs B H' q c tl z ds i:=
 ⟨h.s.trans s,s _ _ h.l,s _ _ h.cd,h.cn,h.t.same s,h.g,h.k,h.c,h.u,h.n⟩
theorem Hs.m{B H:Hp}{pt c:Addr}{tl:EL}{q:List (Key×V)}{ds:List (Int×Int)}{i:Nat}(h:Hs B H pt c tl q ds i)(z:Str):jA q z<=1000000000:=by
 have:=h.g.m tl.length z;rw[z3 (by rw[za];exact zm _)]at this;rw[h.c];exact this
def ajV{d n d' z:Int}{r r':List Int}(h:vQ (d::n::r) (d'::z::r') false=true)(hn:n≠z):d<d'\/(d=d'/\n<z):=by
 rw[vQ]at h;by_cases q:d=d'
 ·rw[zg q,vQ,zc hn]at h
  exact .inr ⟨q,z8 h⟩
 ·rw[zc q]at h
  exact .inl (z8 h)
inductive wL(K:Fg_)(vs:List V)(H:Hp)(Q:VK)(E:XK):Prop
 |mk (a:Addr) (ns:List Int) (_:vs=[.ref a,.bl true]) (_:SqL K H a (ns.map V.int)) (_:∀p (tl:EL) H',Same H H'->H p=none->H' p=some (.lst (Dh tl))->Wg H' tl->Zg (tl.map (·.2))->(tl.map (·.2)).Pairwise BfE->tl.length<=56->(tl.map λr=>r.2.num).Nodup->Q (.ref p) H'):wL K vs H Q E
def Jt(T:Txt K mg A D):jK P w K mg base CX0 4 A.acB D.acB ["_law_script", "_law_giving"] (wL K):=by
 refine T.aeH.F.okv kh λ_ _ _ _ H vs Q E hr h=>?_
 ·obtain⟨a,ns,rfl,hS,k⟩:=h
  refine ⟨_,(iu (iU (i:=2) kh.nd rfl orl Tz)
   (iu (iU (i:=3) kh.nd rfl orl (kZ iw))
   (iu (iU (i:=4) kh.nd rfl orr (pcg (JF T) hr T.aex (Ke T) (pav 0 iw)))
   (iu (nQ zO rfl (lJ (K:=K) (jm (RN (K:=K)) (by rfl) T.ae0 (by decide+kernel) (ir (jW (cap:=[none,some 4]) (N':=["_law_k", "_law_sources_here"]) rfl (by walk_at "c") (Cm (by rfl) T.ae8 (ir (jm (mG (K:=K)) (by rfl) T.aeY (by decide+kernel) (pav 4 iw)) iw)) (λ_ _ _ _=>(iK (i:=0) (show(["_law_k", "_law_sources_here"]:List Str).Nodup from by decide+kernel) rfl orl orr)) (λ_ _ _ _=>jN) (λ_ _ _ _=>(pcg (RV T) hr T.aeG (Ux T) (ir (jy (lA (K:=K)) (pvD 1) (pvD 0) (λ_ _=>rfl)) (pav 0 iw))))) iw))) (iK (i:=5) kh.nd rfl orl)
    (iu (iU (i:=6) kh.nd rfl orl (pcg (Rf T) hr T.aeE (Vf T) (pav 5 (pav 2 (pav 1 iw)))))
    (iu (iU (i:=7) kh.nd rfl orr (pcg (Jb T) hr T.aeF (Kp T) (pav 2 (pav 6 iw))))
    (iB (jT (iY (MN) (jm (Ut (K:=K) rfl) (by rfl) T.ae9 (by decide+kernel) (ir (jb Za (kZ (ir iz iw)) (Xy (jW (cap:=[none,some 7]) (N':=["_law_ware", "_law_more"]) rfl (by walk_at "c") (ajs (pvD 7)) (λ_ _ _ _=>(iK (i:=0) (show(["_law_ware", "_law_more"]:List Str).Nodup from by decide+kernel) rfl orl orr)) (λ_ _ _ _=>jN) (λ_ _ _ _=>(BV (oV hr) (pvD 1) (pvD 0) (λ_ _=>rfl)))))) iw)) (jb nP iz iz) (jf _)) (iu (jj (tZ (K:=K) zL zQ zR lY (pvD 3) (pav 6 iw)))
     (iB (iU (i:=2) kh.nd rfl orl (pvD 7)))) jo)))))
   (iB (iR (pvD 3))))))),?_⟩
  simp only[start_eq];walk_at "n";intro pd bv;have s1:=iH (o:=.dK []) bv;have b1:(upd H pd (.dK [])) pd=some (.dK []):=iC;generalize upd H pd (.dK [])=H1 at s1 b1;walk_at "n";refine⟨sz,λpt bp=>?_⟩;have s2:=iH (o:=.lst []) bp;have aw:(upd H1 pt (.lst [])) pt=some (.lst []):=iC;have bs:=s2 _ _ b1;generalize upd H1 pt (.lst [])=H2 at s2 aw bs;have S2:=s1.trans s2;walk_at "n";refine⟨a,ns,rfl,S2.seq hS,λq xs H3 s3 hq h3 cu cm=>?_⟩;have S3:=S2.trans s3
  (try dsimp only)
  refine jB λu hu=>?_;rw[ap_seq];refine Di λtb b8=>?_;rw[ap_for];walk_at "i";refine⟨_,.inl (iI h3),by omega,by rw[za];omega,?_⟩;rw[za,zzP];have lz:∀n:Nat,n<=1000->n<=sizeLine:=λn h=>by rw[zq];omega
  refine akN (λσ=>∃v,σ=[v,some (.ref q)]) (λi v H'=>∃b ys,v=.ref b/\H' b=some (.tup (ys.map V.int))/\Ws i ys) ⟨_,rfl⟩ (lz _ (by omega)) ?_ ?_
  ·rintro Da i hi σ H5 R ⟨_,rfl⟩ sm hD ⟨acc,hA⟩ kk
   walk_at "i";rw[zzG];refine⟨_,iI (sm _ _ h3),.int xs[i],Iz (by rw[zf,zh hi];rfl),xs[i],i,rfl,λt d m kd ix rest H6 s6 ht bd bm bk bi=>?_⟩;refine kk (.ref t) _ H6 ⟨_,rfl⟩ s6 λH' hb=>⟨t,[d,m*64+i,kd,ix,rest],rfl,hb _ _ (λz=>?_) ht,d,m,kd,ix,rest,rfl,bd,bm,bk,bi⟩;rw[z,s6 _ _ hA]at ht;cases ht
  ·intro Da H4 acc hD s4 hA bn hF
   obtain⟨rs,e1,e2,e3⟩:=akO (H:=H4) (acc:=acc) (j:=0) (λi v hv=>by rw[Nat.zero_add];exact hF i v hv);rw[e1]at hA;have cd:rs.length=xs.length:=by rw[<-bn,e1];unfold Bx;rw[za]
   have ab:∀(i:Nat) r,rs[i]? =some r->Ws i r.2:=λi r h=>by have:=e3 i r h;rwa [Nat.zero_add]at this
   have au:=Wm (by omega) ab;rw[ap_rSortP];have ah:∀r∈rs,tsT H4 (.ref r.1)=r.2:=λr hr=>ake (e2 r hr);refine⟨_,tsT H4,4,iI hA,by unfold Bx;rw[za];omega,?_,λy hy=>?_,λp zs hp ax bh=>?_⟩
   ·unfold Bx
    rw[zx];refine zT.mpr (yN (fun{a b} ha hb h z=>h ?_) (zT.mp au));have z:tsT H4 (.ref a.1)=tsT H4 (.ref b.1):=z;rw[ah a ha,ah b hb]at z;rw[z]
   ·obtain⟨r,hr,rfl⟩:=zj.mp hy
    rw[ah r hr];obtain⟨j,hj⟩:=y0 hr;obtain⟨d,m,kd,ix,rest,e,_⟩:=ab j r hj;exact⟨by rw[e];rfl,r.1,[],rfl,jG (by rw[yn];exact e2 r hr)⟩
   ·obtain⟨os,rfl,ae⟩:=Eh (f:=λr:Addr×List Int=>V.ref r.1) ax rfl
    have b9:(os.map λr=>dnR r.2).Pairwise λx y=>x.1<y.1\/(x.1=y.1/\x.2<y.2):=by
     have hnu':(os.map λr=>akj r.2).Nodup:=(ae.map (λr:Addr×List Int=>akj r.2)).nodup_iff.mpr au;refine zT.mpr (yN (fun{a b} ha hb h=>?_) ((zT.mp bh).and (zT.mp hnu')));obtain⟨h1,h2⟩:=h;have ha:=ae.mem_iff.mp ha;have hb:=ae.mem_iff.mp hb;rw[ah a ha,ah b hb]at h1;obtain⟨j,hj⟩:=y0 ha;obtain⟨j',b6⟩:=y0 hb;obtain⟨d,m,kd,ix,rest,e,_⟩:=ab j a hj;obtain⟨d',m',cw,cq,b7,e',_⟩:=ab j' b b6;rw[e,e']at h1 h2⊢;exact ajV h1 h2
    have s5:=iH (o:=.lst (Bx os)) hp;have h5:(upd H4 p (.lst (Bx os))) p=some (.lst (Bx os)):=iC;change(∃cl,_);have S5:=S3.trans (s4.trans s5);have ar:=s3.trans (s4.trans s5);have bg:Uv (upd H4 p (.lst (Bx os))) os:=λr hr=>s5 _ _ (e2 r (ae.mem_iff.mp hr));have ce:(upd H4 p (.lst (os.map λr=>V.ref r.1)))=upd H4 p (.lst (Bx os)):=rfl;rw[ce];generalize upd H4 p (.lst (Bx os))=H5 at s5 h5 S5 ar bg;have bf:p≠pt:=λz=>by rw[z,(s3.trans s4) _ _ aw]at hp;cases hp
    refine⟨p,rfl,⟨_,iI h5⟩,?_⟩;have ct:os.length=xs.length:=by rw[ae.length_eq,cd]
    have am:=s1.free bp
    refine Bw.listN (K:=K) (a:=p) (xs:=Bx os) (λi σ Hx=>∃(c:Addr)(tl:EL)(kc:List (Key×V))(v5 v6 v7:Option V),σ=[some (.ref a),some (.bl true),some (.ref c),some (.ref pt),some (.ref q),v5,v6,v7]/\Hs H Hx pt c tl kc (os.map λr=>dnR r.2) i/\Hx p=some (.lst (Bx os))/\Uv Hx os)
     ⟨pd,[],[],_,_,_,rfl,⟨S5,ar _ _ aw,ar _ _ bs,bv,λr h=>(zo h).elim,Zg.nil,Cnt.nil,λz=>rfl,yY _,zm _⟩,h5,bg⟩ (λi σ Hx _ ⟨_,_,_,_,_,_,_,_,h,_⟩=>iI h) ?_ ?_
    ·rintro i y σ Hx hi ⟨c,tl,kc,v5,v6,v7,rfl,L,bq,as⟩ N hN
     obtain ⟨r,ay,rfl⟩:∃r,os[i]? =some r/\y=.ref r.1:=by
      unfold Bx at hi;rw[zf]at hi
      cases e:os[i]? with
      |none=>rw[e]at hi;cases hi
      |some r=>rw[e]at hi;exact⟨r,rfl,(zw hi).symm⟩
     have bb:=zn ay;obtain⟨j,hj⟩:=y0 (ae.mem_iff.mp bb);obtain⟨d,m,kd,ix,rest,er,bd,bm,bk,bi⟩:=ab j r hj;have cn:j<rs.length:=(zp.mp hj).1;have cr:i<os.length:=(zp.mp ay).1;have be:=as r bb;rw[er]at be;subst b8;walk_at "n";unfold Rg at bm;refine⟨r.1,c,d,m*64+j,kd,ix,rest,kc,rfl,be,L.cd,L.k,L.m,bd,⟨by omega,by omega⟩,bk,bi,λt e H6 s6 ht hg ca ci b0=>?_⟩;have L6:=L.same s6;walk_at "n";have co:=L6.n;refine⟨c,t,kc,e,rfl,L6.cd,L6.k,L6.m,by omega,ht,hg.1,b0,λq2 k2 H7 s7 cc h7 ai cs cj=>?_⟩;have L7:=L6.same s7
     (try dsimp only)
     walk_at "i";have al:H q2=none:=L6.s.free cc;refine⟨lz _ (by decide),λp1 ck=>?_⟩;have s8:=iH (o:=.lst [V.int 0]) ck;have bx:(upd H7 p1 (.lst [V.int 0])) p1=some (.lst [V.int 0]):=iC;generalize upd H7 p1 (.lst [V.int 0])=H8 at s8 bx;have L8:=L7.same s8;have h8:=s8 _ _ h7;have cg:=s8 _ _ (s7 _ _ ht);have av:=((as.same s6).same s7).same s8;have bc:=s8 _ _ (s7 _ _ (s6 _ _ bq));refine⟨k2,h8,λo=>?_⟩;have h9:(upd H8 q2 (.frz o (.dK k2))) q2=some (.frz o (.dK k2)):=iC;have o9:But q2 H8 (upd H8 q2 (.frz o (.dK k2))):=ajY;generalize upd H8 q2 (.frz o (.dK k2))=H9 at h9 o9;refine aaA (λσ=>∃v,σ=[v,some (.ref q2)]) (λi v _=>∃kv,k2[i]? =some kv/\v=kv.2) h9 ⟨_,rfl⟩ (lz _ (by omega)) ?_ ?_
     ·rintro Db j' kv b2 σ aj R ⟨_,rfl⟩ sm ap az kk
      have hv:=Ma ai.u (k:=kv.1) (v:=kv.2) (zn b2);walk_at "i";exact⟨kv.2,hv▸.inl ⟨_,kv.1,.inr ⟨o,sm _ _ h9⟩,rfl,rfl⟩,kk _ _ _ ⟨_,rfl⟩ (same_refl _) λ_ _=>⟨kv,b2,rfl⟩⟩
     ·intro Db aj bz ap bo az b3 b4
      have hb':=bo _ _ h9;have b5:Db≠q2:=λe=>by rw[e,h9]at ap;cases ap
      refine⟨q2,o,k2,hb',λo' u' e=>?_,?_⟩
      ·have e:H q2=some (.frz o' u'):=e
       rw[al]at e;cases e
      have S:Same H8 (upd aj q2 (.dK k2)):=λa u h=>by
       by_cases e:a=q2
       ·subst e;rw[h8]at h;rw[iC];exact h
       ·exact(iQ e).trans (bo _ _ (o9 a u e h))
      have ao:(upd aj q2 (.dK k2)) Db=some (.lst ((k2.map λkv=>toI kv.2).map V.int)):=by
       refine(iQ b5).trans (az.trans ?_);congr 2;refine zzl λn=>?_;rw[zf,zf];by_cases hn:n<bz.length
       ·obtain⟨kv,g1,g2⟩:=b4 n _ (zh hn)
        obtain⟨z',i',e',_⟩:=ai.k kv (zn g1);rw[zh hn,g2,g1,e'];rfl
       ·rw[z5 (by omega),z5 (by omega)]
        rfl
      generalize upd aj q2 (.dK k2)=bl at S ao;walk_at "i";refine⟨_,S _ _ bx,_,ao,by rw[za,za,zq];simp;omega,λp3 cf=>?_⟩;have ba:=iH (o:=.lst ([V.int 0]++(k2.map λkv=>toI kv.2).map V.int)) cf;have bt:(upd bl p3 (.lst ([V.int 0]++(k2.map λkv=>toI kv.2).map V.int))) p3=some (.lst ((0::k2.map λkv=>toI kv.2).map V.int)):=iC;generalize upd bl p3 (.lst ([V.int 0]++(k2.map λkv=>toI kv.2).map V.int))=br at ba bt;have ad:=S.trans ba;have aa:=L8.same ad;have ag:br q2=some (.dK k2):=ad _ _ h8
      have ak:(os.map λr=>dnR r.2)[i]? =some (e.day,e.num):=by
       rw[zf,ay,ca,ci];show some (dnR r.2)=_;rw[er];rfl
      refine⟨_,iI bt,zzw _ _,λM cv cb=>⟨Aa (by decide) (by decide),?_⟩⟩;rw[show(10:Int)^(9:Int).toNat=1000000000 by decide];split
      ·rename_i bj
       walk_at "n";refine⟨.inl ⟨rfl,_,iI aa.l⟩,_,aa.l,by rw[vR,zq];have:=aa.u.length_le;rw[z0]at this;unfold dnE at this;rw[za]at this;omega,?_⟩;walk_at "i";have af:∀{b:Addr}{ys:List V},br b=some (.tup ys)->b≠pt:=λh e=>by rw[e,aa.l]at h;cases h
       have aq:q2≠pt:=λe=>by rw[e,aa.l]at ag;cases ag
       have an:=ad _ _ cg;have bw:(tl++[(t,e)]).map (·.2)=tl.map (·.2)++[e]:=by rw[zu];rfl
       have hcE':∀z,jA k2 z=aiN (runC (tl.map (·.2))) e z:=λz=>by
        rw[cj,show jA kc=runC (tl.map (·.2))from funext aa.c]
       have ch:∀z,jA k2 z<=1000000000:=λz'=>by
        unfold jA
        cases ev:pF k2 (Sum.inr z')with
        |none=>show(0:Int)<=_;decide
        |some v=>
         obtain⟨y',i',ey,_⟩:=ai.k _ (Eg ev);have bu:=cb (toI v) (zt _ (zj.mpr ⟨_,Eg ev,rfl⟩));cases ey;exact Int.le_trans bu bj
       refine hN _ _ ⟨q2,tl++[(t,e)],k2,_,_,_,rfl,⟨aa.s.upd am,?_,(iQ aq).trans ag,al,λr' ac=>?_,?_,ai,λz=>by rw[bw,Dz];exact hcE' z,?_,by omega⟩,(iQ bf).trans (ad _ _ bc),λr' ac=>(iQ (af (ad _ _ (av r' ac)))).trans (ad _ _ (av r' ac))⟩
       ·rw[iC];unfold Dh;rw[zu];rfl
       ·rcases zI.mp ac with ac|ac
        ·exact(aa.t r' ac).put aa.l
        ·obtain rfl:=zy.mp ac
         exact⟨.non,(iQ (af an)).trans an,by rw[hg.2.1];exact rfl⟩
       ·rw[bw]
        exact aa.g.snoc hg (by rw[<-show jA kc=runC (tl.map (·.2))from funext aa.c];exact b0) λz=>hcE' z▸ch z
       ·have hn:dnE (tl++[(t,e)])=dnE tl++[(e.day,e.num)]:=by unfold dnE;rw[zu];rfl
        rw[hn,zS,ak];exact aa.u.append (yY _)
      ·refine hN _ _ ⟨c,tl,kc,_,_,_,rfl,⟨aa.s,aa.l,aa.cd,aa.cn,aa.t,aa.g,aa.k,aa.c,aa.u.trans ?_,by have:=aa.n;omega⟩,ad _ _ bc,av.same ad⟩
       rw[zS];exact y9 _ _
    ·rintro σ Hx ⟨c,tl,kc,v5,v6,v7,rfl,L,bq,as⟩
     subst hu;walk_at "a";have hlen':(Bx os).length=os.length:=by unfold Bx;rw[za]
     rw[hlen']at L;have hu:=L.u;rw[z3 (by rw[za];exact zm _)]at hu
     have cp:tl.length<=os.length:=by
      have:=hu.length_le;unfold dnE at this
      rwa [za,za]at this
     have hb:=b9.sublist hu;unfold dnE at hb;refine k pt tl Hx L.s am L.l L.t L.g (zT.mpr ((zT.mp hb).imp λh=>h)) (by omega) ?_
     have hnu':((os.map λr=>dnR r.2).map (·.2)).Nodup:=by
      rw[zx];exact(ae.map (λr:Addr×List Int=>akj r.2)).nodup_iff.mpr au
     have:=(hu.map (·.2)).nodup hnu';unfold dnE at this;rw[zx]at this;exact this
def mK{t:TA}{σ:L2.St}{H:Hp}{Q:List V->Hp->Prop}{q:Addr}{xs:List V}{i:Int}{v:V}{j:Nat}(hσ:σ[j]? =some (some (.ref q)))(z:H q=some (.tup xs))(hv:atI xs i=some v)(k:t σ H λvs H'=>Q (v::vs) H'):EY (tOp (aif K) (tV j) (tC (.int i))) t σ H Q:=by
 simp only[L2.ap_cons,L2.ap_op,L2.av_V,L2.atV_iff,L2.ap_c,L2.ap_ixT];exact⟨_,hσ,q,xs,i,v,rfl,rfl,jG z,hv,k⟩
inductive Dr(A:Adr)(vs:List V)(H:Hp)(Q:VK)(E:XK):Prop
 |mk (q:Addr) (e:Ent) (_:vs=[.ref q]) (_:aaE H q e) (_:e.lots=none) (_:e.good) (_:∀x B H',Same H B->Made A B H' x e->Q (.ref x) H'):Dr A vs H Q E
def Ni(T:Txt K mg A D):jK P w K mg base CX0 6 A.abj D.abj ["_law_row_here"] (Dr A):=by
 refine T.adr.F.okv MK λ_ _ _ _ H vs Q E hr h=>?_
 ·obtain⟨q,e,rfl,⟨nv,z,hn⟩,ho,hg,k⟩:=h
  refine ⟨_,(iu (jT (iY (mU) (jy (je (K:=K)) (pvD 0) iz (λ_ _=>rfl)) jw (jf _)) (iB (iR (lK T.agU (Jo (K:=K) T) (hr.mono (by decide)) (by rfl) T.afg (uY T).choose_spec.1 (uY T).choose_spec.2 jC (ir (jy (je (K:=K)) (pvD 0) iz (λ_ _=>rfl)) (ir (jy (je (K:=K)) (pvD 0) iz (λ_ _=>rfl)) (ir (jy (je (K:=K)) (pvD 0) iz (λ_ _=>rfl)) (ir (jy (je (K:=K)) (pvD 0) iz (λ_ _=>rfl)) (ir (jy (je (K:=K)) (pvD 0) iz (λ_ _=>rfl)) (ir (jy (je (K:=K)) (pvD 0) iz (λ_ _=>rfl)) iw))))))))) jo)
   (iu (jT (iY (mU) (jy (je (K:=K)) (pvD 0) iz (λ_ _=>rfl)) jw (jf _)) (iB (iR (lK T.agV (Gf (K:=K) T) (hr.mono (by decide)) (by rfl) T.afh (ud T).choose_spec.1 (ud T).choose_spec.2 jC (ir (jy (je (K:=K)) (pvD 0) iz (λ_ _=>rfl)) (ir (jy (je (K:=K)) (pvD 0) iz (λ_ _=>rfl)) (ir (jy (je (K:=K)) (pvD 0) iz (λ_ _=>rfl)) (ir (jy (je (K:=K)) (pvD 0) iz (λ_ _=>rfl)) (ir (jy (je (K:=K)) (pvD 0) iz (λ_ _=>rfl)) (ir (jy (je (K:=K)) (pvD 0) iz (λ_ _=>rfl)) (ir (jy (je (K:=K)) (pvD 0) iz (λ_ _=>rfl)) iw)))))))))) jo)
   (iu (jT (iY (mU) (jy (je (K:=K)) (pvD 0) iz (λ_ _=>rfl)) jw (jf _)) (iB (iR (lK T.agW (GJ (K:=K) T) (hr.mono (by decide)) (by rfl) T.afi (Ju T) .nil jC (ir (jy (je (K:=K)) (pvD 0) iz (λ_ _=>rfl)) (ir (jy (je (K:=K)) (pvD 0) iz (λ_ _=>rfl)) (ir (jy (je (K:=K)) (pvD 0) iz (λ_ _=>rfl)) (ir (jy (je (K:=K)) (pvD 0) iz (λ_ _=>rfl)) (ir (jy (je (K:=K)) (pvD 0) iz (λ_ _=>rfl)) (ir (jy (je (K:=K)) (pvD 0) iz (λ_ _=>rfl)) iw))))))))) jo)
   (iu (jT (iY (mU) (jy (je (K:=K)) (pvD 0) iz (λ_ _=>rfl)) jw (jf _)) (iB (iR (lK T.agX (Gs (K:=K) T) (hr.mono (by decide)) (by rfl) T.afj (ux T).choose_spec.1 (ux T).choose_spec.2 jC (ir (jy (je (K:=K)) (pvD 0) iz (λ_ _=>rfl)) (ir (jy (je (K:=K)) (pvD 0) iz (λ_ _=>rfl)) (ir (jy (je (K:=K)) (pvD 0) iz (λ_ _=>rfl)) (ir (jy (je (K:=K)) (pvD 0) iz (λ_ _=>rfl)) (ir (jy (je (K:=K)) (pvD 0) iz (λ_ _=>rfl)) iw)))))))) jo)
   (iu (jT (iY (mU) (jy (je (K:=K)) (pvD 0) iz (λ_ _=>rfl)) jw (jf _)) (iB (iR (lK T.agY (DW (K:=K) T) (hr.mono (by decide)) (by rfl) T.afk (Gk T) .nil jC (ir (jy (je (K:=K)) (pvD 0) iz (λ_ _=>rfl)) (ir (jy (je (K:=K)) (pvD 0) iz (λ_ _=>rfl)) (ir (jy (je (K:=K)) (pvD 0) iz (λ_ _=>rfl)) (ir (jy (je (K:=K)) (pvD 0) iz (λ_ _=>rfl)) (ir (jy (je (K:=K)) (pvD 0) iz (λ_ _=>rfl)) iw)))))))) jo)
   (iB (iR (lK T.agT (BP (K:=K) T) (hr.mono (by decide)) (by rfl) T.aff (Ck T) .nil jC (ir (jy (je (K:=K)) (pvD 0) iz (λ_ _=>rfl)) (ir (jy (je (K:=K)) (pvD 0) iz (λ_ _=>rfl)) (ir (jy (je (K:=K)) (pvD 0) iz (λ_ _=>rfl)) (ir (jy (je (K:=K)) (pvD 0) iz (λ_ _=>rfl)) (ir (jy (je (K:=K)) (pvD 0) iz (λ_ _=>rfl)) (ir (jy (je (K:=K)) (pvD 0) iz (λ_ _=>rfl)) iw)))))))))))))),?_⟩
  rw[ho]at hn;obtain rfl:nv=.non:=hn;simp only[start_eq]
  cases e with
  |buy d n w p r f=>
   have z:H q=some (.tup [.str "buy",.int d,.int n,.str w,.int p,.int r,.int f]):=z;refine gi1 rfl z rfl ?_;rw[ap_ret,ap_make];refine mK rfl z rfl (mK rfl z rfl (mK rfl z rfl (mK rfl z rfl (mK rfl z rfl (mK rfl z rfl (?_))))));rw[ap_nil];intro x dx hx aa ab;exact⟨x,d,n,p,r,f,w,H,dx,rfl,pY hx aa,hg,λH' hM=>⟨rfl,k x _ H' (same_refl H) hM⟩⟩
  |sell d n w p r f o=>
   obtain rfl:o=none:=ho;have z:H q=some (.tup [.str "sell",.int d,.int n,.str w,.int p,.int r,.int f,.non]):=z;refine si1 rfl z rfl (by decide+kernel) ?_;refine gi1 rfl z rfl ?_;rw[ap_ret,ap_make];refine mK rfl z rfl (mK rfl z rfl (mK rfl z rfl (mK rfl z rfl (mK rfl z rfl (mK rfl z rfl (mK rfl z rfl (?_)))))));rw[ap_nil];intro x dx hx aa ab;exact⟨x,d,n,p,r,f,w,H,dx,rfl,pY hx aa,hg,λH' hM=>⟨rfl,k x _ H' (same_refl H) hM⟩⟩
  |gift d n w p c s=>
   have z:H q=some (.tup [.str "gift",.int d,.int n,.str w,.int p,.int c,.int s]):=z;refine si1 rfl z rfl (by decide+kernel) ?_;refine si1 rfl z rfl (by decide+kernel) ?_;refine gi1 rfl z rfl ?_;rw[ap_ret,ap_make];refine mK rfl z rfl (mK rfl z rfl (mK rfl z rfl (mK rfl z rfl (mK rfl z rfl (mK rfl z rfl (?_))))));rw[ap_nil];intro x dx hx aa ab;exact⟨x,d,n,p,c,s,w,H,dx,rfl,pY hx aa,hg,λH' hM=>⟨rfl,k x _ H' (same_refl H) hM⟩⟩
  |give d n w p o=>
   obtain rfl:o=none:=ho;have z:H q=some (.tup [.str "give",.int d,.int n,.str w,.int p,.non]):=z;refine si1 rfl z rfl (by decide+kernel) ?_;refine si1 rfl z rfl (by decide+kernel) ?_;refine si1 rfl z rfl (by decide+kernel) ?_;refine gi1 rfl z rfl ?_;rw[ap_ret,ap_make];refine mK rfl z rfl (mK rfl z rfl (mK rfl z rfl (mK rfl z rfl (mK rfl z rfl (?_)))));rw[ap_nil];intro x dx hx aa ab;exact⟨x,d,n,p,w,H,dx,rfl,pY hx aa,hg,λH' hM=>⟨rfl,k x _ H' (same_refl H) hM⟩⟩
  |split d n w m f=>
   have z:H q=some (.tup [.str "split",.int d,.int n,.str w,.int m,.int f]):=z;refine si1 rfl z rfl (by decide+kernel) ?_;refine si1 rfl z rfl (by decide+kernel) ?_;refine si1 rfl z rfl (by decide+kernel) ?_;refine si1 rfl z rfl (by decide+kernel) ?_;refine gi1 rfl z rfl ?_;rw[ap_ret,ap_make];refine mK rfl z rfl (mK rfl z rfl (mK rfl z rfl (mK rfl z rfl (mK rfl z rfl (?_)))));rw[ap_nil];intro x dx hx aa ab;exact⟨x,d,n,m,f,w,H,dx,rfl,pY hx aa,hg,λH' hM=>⟨rfl,k x _ H' (same_refl H) hM⟩⟩
  |part d n w u s t=>
   have z:H q=some (.tup [.str "part",.int d,.int n,.str w,.str u,.int s,.int t]):=z;refine si1 rfl z rfl (by decide+kernel) ?_;refine si1 rfl z rfl (by decide+kernel) ?_;refine si1 rfl z rfl (by decide+kernel) ?_;refine si1 rfl z rfl (by decide+kernel) ?_;refine si1 rfl z rfl (by decide+kernel) ?_;rw[ap_ret,ap_make];refine mK rfl z rfl (mK rfl z rfl (mK rfl z rfl (mK rfl z rfl (mK rfl z rfl (mK rfl z rfl (?_))))));rw[ap_nil];intro x dx hx aa ab;exact⟨x,d,n,s,t,w,u,H,dx,rfl,pY hx aa,hg,λH' hM=>⟨rfl,k x _ H' (same_refl H) hM⟩⟩
inductive Im(A:Adr)(vs:List V)(H:Hp)(Q:VK)(E:XK):Prop
 |mk (c:Int) (_:vs=[.int c]) (_:∀w C dw H',Same H H'->H' w=some (.ins C dw [])->Tu A C->Q (.ref w) H'):Im A vs H Q E
def QL(T:Txt K mg A D):jK P w K mg base CX0 1 A.aa4 D.aa4 ["_law_cell"] (Im A):=by
 refine T.adc.F.okv RK λ_ _ _ _ H vs Q E hr h=>?_
 ·obtain⟨c,rfl,k⟩:=h
  refine⟨_,(iB (iR (jy (lA (K:=K)) (kZ (ir (Mu T.ag3 (by rfl) T.afa) (ir (Mu T.ag4 (by rfl) T.afb) (ir (Mu T.ag5 (by rfl) T.afc) (ir (Mu T.ag6 (by rfl) T.afd) iw))))) (jb mW (pvD 0) iz) (λ_ _=>rfl)))),?_⟩;walk_at "a";intro x0 d0 ae af n0 x1 d1 ac q n1 x2 d2 aa ab n2 x3 d3 z ad n3;refine⟨sz,λp hp=>?_⟩;have a0:=pY (C:=A.acM) ae af;have a1:=pY (C:=A.acN) ac q;have a2:=pY (C:=A.acO) aa ab;have a3:=pY (C:=A.acP) z ad;have ap:=iH (o:=.lst [V.ref x0,V.ref x1,V.ref x2,V.ref x3]) hp;have t3:=a3.s.trans ap;have t2:=a2.s.trans t3;have t1:=a1.s.trans t2;have S:=a0.s.trans t1;have h0:=z6 c (show(4:Int)≠0 by decide);have h1:=zY c (show(0:Int)<4 by decide);refine⟨by decide,_,iI iC,?_⟩;have hc:c%4=0\/c%4=1\/c%4=2\/c%4=3:=by omega
  rcases hc with e|e|e|e<;>rw[e]
  ·exact⟨_,rfl,k x0 _ d0 _ S (t1 _ _ a0.h) .e⟩
  ·exact⟨_,rfl,k x1 _ d1 _ S (t2 _ _ a1.h) .n⟩
  ·exact⟨_,rfl,k x2 _ d2 _ S (t3 _ _ a2.h) .d⟩
  ·exact⟨_,rfl,k x3 _ d3 _ S (ap _ _ a3.h) .m⟩
def Yr{xs:List Int}(hx:xs≠[])(n:Int):∃v,atI (xs.map V.int) (n%((xs.map V.int).length:Int))=some (.int v):=by
 have aa:0<(xs.map V.int).length:=by rw[za];exact yj.mpr hx
 have g1:=z6 n (show((xs.map V.int).length:Int)≠0 by omega);have z:=zY n (show 0<((xs.map V.int).length:Int) by omega);obtain⟨j,hj⟩:∃j:Nat,(j:Int)=n%((xs.map V.int).length:Int):=⟨_,Int.toNat_of_nonneg g1⟩;rw[<-hj]at z⊢;have q:j<xs.length:=by rw[za]at z;omega
 exact⟨xs[j],Iz (by rw[zf,zh q];rfl)⟩
inductive Fx(A:Adr)(K:Fg_)(vs:List V)(H:Hp)(Q:VK)(E:XK):Prop
 |mk (q a:Addr) (sl:List (Addr×jJ)) (ns:List Int) (_:vs=[.ref q,.ref a]) (_:H q=some (.lst (pR sl))) (_:(∀t∈sl,jO A H t.1 t.2)) (_:sl.length<=100) (_:SqL K H a (ns.map V.int)) (_:∀p (as:List Addr) H',Same H H'->H' p=some (.lst (as.map V.ref))->(∀x∈as,∃f l:Int,H' x=some (.tup [.int f,.int l]))->Q (.ref p) H'):Fx A K vs H Q E
def Oe(T:Txt K mg A D):jK P w K mg base CX0 2 A.acp D.acp ["_law_sales", "_law_script"] (Fx A K):=by
 refine T.aev.F.okv kO λ_ _ _ _ H vs Q E hr h=>?_
 ·obtain⟨q,a,sl,ns,rfl,hq,hS,hl,hA,k⟩:=h
  refine ⟨_,(iu (iU (i:=2) kO.nd rfl orl (kZ (ir iz (ir (jb nP iz iz) (ir (jb mW (pcg (jH T) hr T.ads (jP T) (pav 1 (ir iz iw))) (jb jD (jb nP iz iz) iz)) iw)))))
   (iu (nQ zO rfl (jM (K:=K) (pv 0)) (iK (i:=3) kO.nd rfl orl)
    (iB (jj (tZ (K:=K) zL zQ zR lY (pvD 2) (ir (fv K 3) iw)))))
   (iu (iU (i:=4) kO.nd rfl orl (jb mW (pcg (jH T) hr T.ads (jP T) (pav 1 (ir iz iw))) (jb nP iz iz)))
   (iu (iU (i:=5) kO.nd rfl orl (kZ iw))
   (iu (nQ zO rfl (Cm (by rfl) T.ae8 (ir iz iw)) (iK (i:=6) kO.nd rfl orl)
    (iu (iU (i:=7) kO.nd rfl orl (jb pD (jb jD (jy (lA (K:=K)) (pvD 2) (jb mW (pvD 4) (jm (mG (K:=K)) (by rfl) T.aeY (by decide+kernel) (pav 2 iw))) (λ_ _=>rfl)) (jb mW (jb oY (pvD 4) iz) iz)) iz))
    (iu (iU (i:=4) kO.nd rfl orl (jb mW (jb jD (jb lN (pvD 4) iz) (pvD 6)) iz))
    (iu (iU (i:=8) kO.nd rfl orl (jb pD (jb jD (jy (lA (K:=K)) (pvD 2) (jb mW (pvD 4) (jm (mG (K:=K)) (by rfl) T.aeY (by decide+kernel) (pav 2 iw))) (λ_ _=>rfl)) (jb mW (jb oY (pvD 4) iz) iz)) iz))
    (iu (iU (i:=4) kO.nd rfl orl (jb mW (jb jD (jb lN (pvD 4) iz) (pvD 6)) iz))
    (iB (jj (tZ (K:=K) zL zQ zR lY (pvD 5) (ir (mj (ir (jm (JV rfl) (by rfl) T.ae5 (by decide+kernel) (ir (jb nP iz iz) (ir (jm (Px rfl) (by rfl) T.ae9 (by decide+kernel) (ir iz (pav 7 iw))) iw))) (ir (jm (JV rfl) (by rfl) T.ae5 (by decide+kernel) (ir (jb nP iz iz) (ir (jm (Px rfl) (by rfl) T.ae9 (by decide+kernel) (ir iz (pav 8 iw))) iw))) iw))) iw)))))))))
   (iB (iR (pvD 5)))))))),?_⟩
  have cp:alf 10 6:=Aa (by decide) (by decide);simp only[start_eq];walk_at "n";refine⟨cp,a,ns,4,rfl,hA,cp,_,rfl,by decide,sz,λp hp=>?_⟩;generalize hc:ns.getD 4 0%_=c;generalize(10:Int)^Int.toNat 6=ab;have s1:=iH (o:=.lst [V.int 0,V.int ab,V.int c]) hp;have h1:(upd H p (.lst [V.int 0,V.int ab,V.int c])) p=some (.lst ([0,ab,c].map V.int)):=iC;generalize upd H p (.lst [V.int 0,V.int ab,V.int c])=H1 at s1 h1
  (try dsimp only)
  refine jB λu hu=>?_;rw[ap_seq];refine Di λtb aq=>?_;rw[ap_for];walk_at "i";refine⟨⟨_,iI (s1 _ _ hq)⟩,?_⟩
  refine Bw.listN (K:=K) (a:=q) (xs:=pR sl) (λi σ H3=>∃(v3 v4 v5 v6 v7 v8:Option V)(xs:List Int),σ=[some (.ref q),some (.ref a),some (.ref p),v3,v4,v5,v6,v7,v8]/\Same H H3/\H3 p=some (.lst (xs.map V.int))/\xs≠[]/\xs.length<=3+i)
   ⟨_,_,_,_,_,_,[0,ab,c],rfl,s1,h1,by simp,by simp⟩ (λi σ H3 _ ⟨_,_,_,_,_,_,_,_,s,_⟩=>iI (s _ _ hq)) ?_ ?_
  ·rintro i y σ H3 hi ⟨v3,v4,v5,v6,v7,v8,xs,rfl,s3,aa,ad,ap⟩ N hN
   obtain⟨t,ht,rfl⟩:=Cy hi;have au:i<sl.length:=(zp.mp ht).1;obtain⟨dt,al⟩:=((hS t (zn ht)).same s3).i;subst aq;walk_at "i";refine⟨tyL (iI aa),rd al T.agM T.agO (by rfl) ⟨_,aa,by rw[za,zq];omega,?_⟩⟩;exact hN _ _ ⟨_,_,_,_,_,_,xs++[t.2.d],rfl,s3.upd hp,by rw[iC,zu];rfl,by simp,by simp;omega⟩
  ·rintro σ H3 ⟨v3,v4,v5,v6,v7,v8,xs,rfl,s3,aa,ad,ap⟩
   subst hu;walk_at "n";refine⟨a,ns,5,rfl,s3.seq hA,Aa (by decide) (by decide),_,rfl,by decide,?_⟩;generalize ns.getD 5 0%_=m;walk_at "n";refine⟨sz,λpf ae=>?_⟩;have s4:=iH (o:=.lst []) ae;have h4:(upd H3 pf (.lst [])) pf=some (.lst ([]:List V)):=iC;have ak:=s4 _ _ aa;generalize upd H3 pf (.lst [])=H4 at s4 h4 ak;refine jB λu2 an=>?_;rw[ap_seq];refine Di λtc ar=>?_;rw[ap_for];walk_at "i";refine⟨by decide,by decide,?_⟩
   refine Bw.rangeN (lo:=0) (n:=6) (λi σ H5=>∃(m:Int)(v3 v6 v7 v8:Option V)(as:List Addr),σ=[some (.ref q),some (.ref a),some (.ref p),v3,some (.int m),some (.ref pf),v6,v7,v8]/\Same H H5/\H5 p=some (.lst (xs.map V.int))/\H5 pf=some (.lst (as.map V.ref))/\as.length=i/\∀x∈as,∃f l:Int,H5 x=some (.tup [.int f,.int l]))
    ⟨m,_,_,_,_,[],rfl,s3.trans s4,ak,h4,rfl,λx h=>(zo h).elim⟩ ?_ ?_
   ·rintro i σ H5 hi ⟨m,v3,v6,v7,v8,as,rfl,s5,z,ac,ai,ag⟩ N hN
    obtain⟨x1,ao⟩:=Yr ad m;subst ar;walk_at "i";have h0:(0:Int)<((xs.map V.int).length:Int):=by have:=yj.mpr ad;rw[za];omega
    walk_at "n";refine⟨_,.inl (iI z),h0,_,iI z,_,ao,Ov (by decide) (by decide),by decide,x1,rfl,?_⟩;generalize x1+m/7%3 - 1=f;walk_at "n";refine⟨rG (by decide) (by decide),by decide,?_⟩;generalize(m*69621+_)%_=m2;obtain⟨x2,am⟩:=Yr ad m2;walk_at "n";refine⟨_,.inl (iI z),h0,_,iI z,_,am,Ov (by decide) (by decide),by decide,x2,rfl,?_⟩;generalize x2+m2/7%3 - 1=l;walk_at "n";refine⟨rG (by decide) (by decide),by decide,?_⟩;generalize(m2*48271+_)%_=m3;walk_at "i";refine⟨tyL (iI ac),cp,cp,sz,λx hx=>?_⟩;generalize(if(if f>0 then f else 0)<_ then _ else _:Int)=f2;generalize(if(if l>0 then l else 0)<_ then _ else _:Int)=l2;have s6:=iH (o:=.tup [V.int f2,V.int l2]) hx;have h6:(upd H5 x (.tup [V.int f2,V.int l2])) x=some (.tup [V.int f2,V.int l2]):=iC;have S6:=s5.trans s6;have aj:=s6 _ _ z;have af:=s6 _ _ ac;have ah:∀y∈as,∃f l:Int,(upd H5 x (.tup [V.int f2,V.int l2])) y=some (.tup [.int f,.int l]):=λy hy=>let⟨f,l,e⟩:=ag y hy;⟨f,l,s6 _ _ e⟩
    generalize upd H5 x (.tup [V.int f2,V.int l2])=H6 at s6 h6 S6 aj af ah;refine⟨_,af,by rw[za,zq];omega,?_⟩;have bt:∀{y:Addr}{xs:List V},H6 y=some (.tup xs)->(upd H6 pf (.lst (as.map V.ref++[V.ref x]))) y=some (.tup xs):=λe=>(iQ λc=>by rw[c,af]at e;cases e).trans e;refine hN _ _ ⟨_,_,_,_,_,as++[x],rfl,S6.upd (s3.free ae),(iQ λc=>by rw[c,ae]at aa;cases aa).trans aj,by rw[iC,zu];rfl,by rw[zB,ai];rfl,λy hy=>?_⟩;rcases zI.mp hy with hy|hy
    ·obtain⟨f,l,e⟩:=ah y hy
     exact⟨f,l,bt e⟩
    ·rw[zy.mp hy]
     exact⟨f2,l2,bt h6⟩
   ·rintro σ H5 ⟨m,v3,v6,v7,v8,as,rfl,s5,z,ac,ai,ag⟩
    subst an;walk_at "a";exact k pf as H5 s5 ac ag
inductive Fq(A:Adr)(vs:List V)(H:Hp)(Q:VK)(E:XK):Prop
 |mk (b q:Addr) (k:BkD) (sl:List (Addr×jJ)) (g f l:Int) (_:vs=[.ref b,.ref q,.int g,.int f,.int l]) (_:jd A H b k) (_:k.sl.length<=100) (_:H q=some (.lst (pR sl))) (_:(∀t∈sl,jO A H t.1 t.2)) (_:sl.map (λt=>t.2.dat)=k.sl.map (λt=>t.2.dat)) (_:(∀c∈k.sl.map (λt=>t.2.dat),YW c.1)) (_:∀H',Same H H'->Q (.bl true) H'):Fq A vs H Q E
def Ow(T:Txt K mg A D):jK P w K mg base CX0 6 A.acL D.acL ["_law_book", "_law_sales", "_law_long", "_law_first", "_law_last"] (Fq A):=by
 refine T.aeR.F.okv pC λ_ _ _ _ H vs Q E z h=>?_
 ·obtain⟨b,q,kb,sl,g,f,l,rfl,hB,hl,hq,hS,hd,hp,k⟩:=h
  refine ⟨_,(iu (iU (i:=5) pC.nd rfl orl (pcg (pP T) z T.aeL (qL T) (pav 0 (pav 2 (pav 3 (pav 4 iw))))))
   (iu (jT (PW.pt (DN (Dy (nO (jm (tU (K:=K)) (by rfl) T.aeT (by decide+kernel) (pav 5 (ir (VG "dict" (by rfl) T.ae4 (by decide+kernel)) iw))))) (Ai (iY (akR z) (pvD 5) (pcg (Gd T) z T.aeP (Hl T) (pav 1 (pav 2 (pav 3 (pav 4 iw))))) (jf _))))) (iB (iR Mg)) jo)
   (iu (iU (i:=6) pC.nd rfl orl (pcg (Fz T) z T.aeN (Hq T) (pav 0 (pav 3 iw))))
   (iu (jT (PW.pt (DN (Dy (nO (pcg (uy T) z T.aeQ (wF T) (pav 6 iw)))) (DN (Dy (nO (pcg (uy T) z T.aeQ (wF T) (ir (BV (oV z) (pvD 5) jw (λ_ _=>rfl)) iw)))) (Ai (Dy (nO (pcg (uy T) z T.aeQ (wF T) (ir (BV (oV z) (pvD 5) jw (λ_ _=>rfl)) iw)))))))) (iB (iR Mg)) jo)
   (iu (jT (iY (akp) (pvD 6) (pcg (Oa T) z T.aeO (QM T) (pav 1 (pav 3 iw))) (jf _)) (iB (iR Mg)) jo)
   (iu (iU (i:=7) pC.nd rfl orl (QQ (xX jw iz (xX jw iz RZ)) rfl rfl (zzw _ _) (zzr rfl)))
   (iu (jT (iY (Mx) (pvD 3) (jb nP iz iz) (jf _)) (iB (iU (i:=7) pC.nd rfl orl (pcg (pP T) z T.aeL (qL T) (pav 0 (pav 2 (ir (jb jD (pvD 3) iz) (ir (jb nP iz iz) iw))))))) jo)
   (iu (jT (iY (akp) (jb jD (jb jD (pvD 6) (BV (oV z) (pvD 7) jw (λ_ _=>rfl))) (BV (oV z) (pvD 7) jw (λ_ _=>rfl))) (pcg (Fz T) z T.aeN (Hq T) (pav 0 (ir (jb nP iz iz) iw))) (jf _)) (iB (iR Mg)) jo)
   (iu (jj (JW (K:=K) yg PySem.F.slot_dict_clear PySem.F.type_dict_clear YB (pvD 5)))
   (iB (iR (uP (akS z) (pcg (pP T) z T.aeL (qL T) (pav 0 (pav 2 (pav 3 (pav 4 iw))))) (pcg (Gd T) z T.aeP (Hl T) (pav 1 (pav 2 (pav 3 (pav 4 iw))))) (jf _))))))))))))),?_⟩
  have cp:alf 10 6:=Aa (by decide) (by decide);have hn:∀{H':Hp},Same H H'->∀t∈sl,jO A H' t.1 t.2:=λs t ht=>(hS t ht).same s;simp only[start_eq];walk_at "n";refine⟨b,kb,g,f,l,rfl,hB,hl,λp1 H1 s1 ag h1=>?_⟩;walk_at "n";refine⟨_,.dK h1,true,by with_unfolding_all rfl,?_⟩;rw[zc (by decide)];refine⟨q,sl,g,f,l,rfl,s1 _ _ hq,hn s1,λp2 H2 s2 ah h2=>?_⟩;rw[hd]at h2;refine⟨p1,p2,_,_,rfl,rfl,.inl (s2 _ _ h1),.inl h2,Oj _ _,_,rfl,?_⟩;rw[zc (by decide)];have S2:=s1.trans s2;walk_at "n";refine⟨b,kb,f,rfl,hB.same S2,hl,λH3 s3=>?_⟩;have S3:=S2.trans s3;have h3:=s3 _ _ (s2 _ _ h1);walk_at "n";refine⟨_,rfl,true,rfl,?_⟩;rw[zc (by decide)];refine⟨_,rF (k:=Sum.inr "short") h3,_,rfl,true,rfl,?_⟩;rw[zc (by decide)];refine⟨_,rF (k:=Sum.inr "long") h3,_,rfl,true,rfl,?_⟩;rw[zc (by decide)];walk_at "n";refine⟨q,sl,f,rfl,S3 _ _ hq,hn S3,λH4 s4=>?_⟩;have S4:=S3.trans s4;rw[hd];refine⟨rfl,?_⟩;rw[zc (λc=>c rfl)];refine jB λu hu=>?_;rw[ap_seq];walk_at "i";unfold ZK;intro pd aa;simp only[Lj];walk_at "i";refine⟨iC,sm2 0 0,rfl,(show(2:Nat)<=15 by decide),?_⟩;rw[RB];have s5:Same H4 (upd (upd H4 pd (.dK [])) pd (.dK (sm2 0 0))):=λa o h=>(iQ (jE h aa)).trans (iH aa _ _ h);have h5:(upd (upd H4 pd (.dK [])) pd (.dK (sm2 0 0))) pd=some (.dK (sm2 0 0)):=iC;generalize upd (upd H4 pd (.dK [])) pd (.dK (sm2 0 0))=H5 at s5 h5⊢;have S5:=S4.trans s5;have ad:=s5 _ _ (s4 _ _ h3);subst hu;refine Mz (λσ' H'=>∃pr x y,σ'=[some (.ref b),some (.ref q),some (.int g),some (.int f),some (.int l),some (.ref p1),some (.int (Dm f (kb.sl.map λt=>t.2.dat))),some (.ref pr)]/\Same H5 H'/\H' pr=some (.dK (sm2 x y))/\Dm f (kb.sl.map λt=>t.2.dat)+x+y=Dm 1000000 (kb.sl.map λt=>t.2.dat)) ?_ ?_
  ·rintro σ' H6 ⟨pr,x,y,rfl,s6,h6,ae⟩
   have S6:=S5.trans s6;walk_at "n";refine⟨_,rF (k:=Sum.inr "short") h6,x,rfl,_,rF (k:=Sum.inr "long") h6,y,rfl,cp,b,kb,1000000,rfl,hB.same S6,hl,λH7 s7=>⟨rfl,?_⟩⟩;rw[zc (λc=>c (by rw[ae]))];have S7:=S6.trans s7;have h7:=s7 _ _ (s6 _ _ ad);walk_at "n";refine⟨.inr (.inr (.inl ⟨rfl,.inl ⟨_,h7⟩⟩)),p1,_,rfl,rfl,h7,?_⟩;have S8:=S7.upd (o:=.dK []) ag;generalize upd H7 p1 (.dK [])=H8 at S8⊢
   try dsimp only
   rw[ap_ret];walk_at "i";refine⟨b,kb,g,f,l,rfl,hB.same S8,hl,λp3 H9 s9 ai h9=>?_⟩;have S9:=S8.trans s9;refine⟨q,sl,g,f,l,rfl,S9 _ _ hq,hn S9,λp4 af ab aj ac=>?_⟩;rw[hd]at ac;exact⟨p3,p4,_,_,rfl,rfl,.inl (ab _ _ h9),.inl ac,Oj _ _,k af (S9.trans ab)⟩
  ·intro N hN
   walk_at "i";refine⟨cp,?_⟩;rw[show(10:Int)^Int.toNat 6=1000000 from by decide];by_cases e:f<1000000
   ·rw[zg e]
    refine⟨cp,b,kb,g,f+1,1000000,rfl,hB.same S5,hl,λpr H6 s6 ak h6=>hN _ _ ⟨pr,_,_,rfl,s6,h6,Qn e hp⟩⟩
   ·rw[zc e]
    exact hN _ _ ⟨pd,0,0,rfl,same_refl _,h5,by rw[zW,zW];exact Yg (by omega) hp⟩
inductive QH(K:Fg_)(vs:List V)(H:Hp)(Q:VK)(E:XK):Prop
 |mk (a:Addr) (ns:List Int) (_:vs=[.ref a]) (_:SqL K H a (ns.map V.int)) (_:ns.length<=63) (_:∀H',Q (.bl true) H'):QH K vs H Q E
def ZZ{B H H':Hp}{D x:Addr}{e:Ent}{xs:List V}(h:Made A B H x e)(hD:H D=some (.lst xs))(q:e.lots=none)(b:But D H H'):IsE A H' x e:=by
 obtain⟨dx,z,h1,h2,h3⟩:=h;refine⟨dx,z,b _ _ (λc=>by rw[c]at h1;have:=h1.h;rw[hD]at this;cases this) h1.h,?_⟩;rw[q]at h2⊢;exact h2
def PQ{B H:Hp}{x:Addr}{e:Ent}(h:Made A B H x e):Same B H:=let⟨_,_,g,_⟩:=h;g.s
theorem ajO{H:Hp}:∀{tl:EL}{acc:List V},wH (λr v=>∃x,v=.ref x/\IsE A H x r.2) tl acc->∃es:EL,acc=Dh es/\es.map (·.2)=tl.map (·.2)/\Nh A H es
 |[],[],_=>⟨[],rfl,rfl,λt h=>(zo h).elim⟩
 |t::sl,v::acc,h=>by
  obtain⟨⟨y,rfl,hs⟩,h2⟩:=h;obtain⟨q,e1,e2,e3⟩:=ajO h2;refine⟨(y,t.2)::q,by rw[e1];rfl,by rw[zi,e2];rfl,λu z=>?_⟩;rcases zv.mp z with rfl|z
  ·exact hs
  ·exact e3 u z
 |[],_::_,h=>h.elim
 |_::_,[],h=>h.elim
def Ww{sl:List (Addr×jJ)}:(sl.map λt=>t.2.cnt)=(sl.map λt=>t.2.dat).map ajN:=by
 rw[zx];rfl
def ajb{H:Hp}{Q:VK}{p q:Addr}{xs ys:List Int}(h1:SqL K H p (xs.map V.int))(h2:SqL K H q (ys.map V.int))(e:xs=ys)(z:Q (.bl false) H):alh K (.ref p) (.ref q) H Q:=
 ⟨.lst (xs.map DV.int),.lst (ys.map DV.int),.lst h1 (Ep K H xs),.lst h2 (Ep K H ys),Nat.succ_le_succ (zJ _),by show BL (xs.map DV.int)+1<=20;rw[Lp];decide,by rw[e,Qg];exact z⟩
def akT(T:Txt K mg A D):jK P w K mg base CX0 12 A.law D.law ["_law_script"] (QH K):=by
 refine T.aeS.F.okv Fi λ_ _ _ _ H vs Q E hr h=>?_
 ·obtain⟨a,ns,rfl,hS,hn,k⟩:=h
  refine ⟨_,(iu (oO (i:=1) Fi.nd rfl rfl (cap:=[none]) (N':=["_law_row_here"]) rfl (by walk_at "c") (lJ (K:=K) (pcg (Jt T) hr T.aeH (Ks T) (pav 0 (ir Mg iw)))) (λ_ _ _ _=>(iK (i:=0) nd1 rfl orl orr)) (λ_ _ _ _=>jN) (λ_ _ _ _=>(pcg (Ni T) hr T.adr (NK T) (pav 0 iw))))
   (iu (iU (i:=2) Fi.nd rfl orl (pcg (QL T) hr T.adc (Vq T) (ir (pcg (jH T) hr T.ads (jP T) (pav 0 (ir iz iw))) iw)))
   (iu (iU (i:=3) Fi.nd rfl orl (jy (lA (K:=K)) (kZ (ir (jb mW (pcg (jH T) hr T.ads (jP T) (pav 0 (ir iz iw))) iz) (ir (jb mW (pcg (jH T) hr T.ads (jP T) (pav 0 (ir iz iw))) (jb jD (jb nP iz iz) iz)) iw))) (jb mW (pcg (jH T) hr T.ads (jP T) (pav 0 (ir iz iw))) iz) (λ_ _=>rfl)))
   (iu (nQ zO rfl (lJ (K:=K) (kZ (ir (pcg (VJ T) hr T.aeq (YT T) (pav 2 (pav 1 iw))) (ir (pcg (Ec T) hr T.aes (Gz T) (pav 2 (ir (jb mW (pcg (jH T) hr T.ads (jP T) (pav 0 (ir iz iw))) iz) (pav 1 iw)))) iw)))) (iK (i:=4) Fi.nd rfl orl)
    (iu (iU (i:=5) Fi.nd rfl orl (lZ (pv 4) (mc T.agp T.ahS (lB T) hr (lQ T) (mc T.agC T.ahT (lB T) hr (lQ T) .nil)) jC))
    (iu (nQ zO rfl (lJ (K:=K) (pcg (Oe T) hr T.aev (Ry T) (pav 5 (pav 0 iw)))) (mZ (K:=K) (n:=2) rfl (jk (iK (i:=6) Fi.nd rfl orl) (jk (iK (i:=7) Fi.nd rfl orl) mX)))
     (iB (jT (Dy (nO (pcg (Ow T) hr T.aeR (RQ T) (pav 4 (pav 5 (pav 3 (pav 6 (pav 7 iw)))))))) (iB (iR Mg)) jo)))
    (iB (jT (iY (ajj (K:=K) hr) (jW (cap:=[none]) (N':=["_law_sale"]) rfl (by walk_at "c") (lJ (K:=K) (lZ (pv 4) (mc T.agp T.ahS (lB T) hr (lQ T) (mc T.agC T.ahT (lB T) hr (lQ T) .nil)) jC)) (λ_ _ _ _=>(iK (i:=0) nd1 rfl orl orr)) (λ_ _ _ _=>jN) (λ_ _ _ _=>(lZ (pv 0) (mc T.agM T.ahU (qy T) hr (rQ T) .nil) jC))) (jW (cap:=[none]) (N':=["_law_sale"]) rfl (by walk_at "c") (jM (K:=K) (pv 5)) (λ_ _ _ _=>(iK (i:=0) nd1 rfl orl orr)) (λ_ _ _ _=>jN) (λ_ _ _ _=>(lZ (pv 0) (mc T.agM T.ahU (qy T) hr (rQ T) .nil) jC))) (jf _)) (iB (iR Mg)) jo)))))
   (iB (iR Mg)))))),?_⟩
  simp only[start_eq];walk_at "n";refine⟨a,ns,rfl,hS,λp tl H1 s1 hp h1 hT hF hb hl bm=>?_⟩;refine⟨p,rfl,⟨_,iI h1⟩,?_⟩;refine Pb (f:=λr:Addr×Ent=>V.ref r.1) (λσ=>∃v,σ=[v]) (λ_ r v H'=>∃x,v=.ref x/\IsE A H' x r.2) (iI h1) ⟨_,rfl⟩ (by omega) ?_ ?_
  ·rintro Da r aq σ H5 R ⟨_,rfl⟩ sm hD ⟨acc,hA⟩ kk
   obtain⟨g1,g2,_⟩:=hF.g r.2 (zj.mpr ⟨r,aq,rfl⟩);walk_at "i";refine⟨r.1,r.2,rfl,(hT r aq).same sm,g2,g1,λx B H6 s6 hM=>kk (.ref x) _ H6 ⟨_,rfl⟩ (s6.trans (PQ hM)) λH' hb=>⟨x,rfl,ZZ hM ((s6.trans (PQ hM)) _ _ hA) g2 hb⟩⟩
  ·intro D2 H2 bw b4 s2 ap bd
   obtain⟨es,e1,e2,hE⟩:=ajO bd;rw[e1]at ap;have S2:=s1.trans s2;walk_at "n";refine⟨a,ns,2,rfl,S2.seq hS,_,rfl,λw C dw H3 s3 hw hW=>?_⟩;have S3':=S2.trans s3;walk_at "n";refine⟨a,ns,6,rfl,S3'.seq hS,_,rfl,by decide,a,ns,6,rfl,S3'.seq hS,Aa (by decide) (by decide),_,rfl,by decide,sz,λpl aj=>?_⟩;obtain⟨g,hg⟩:=Yr (xs:=[ns.getD 6 0%40,ns.getD 6 0%(10^Int.toNat 6+1)]) (by simp) (ns.getD 7 0);refine⟨a,ns,7,rfl,(S3'.trans (iH aj)).seq hS,_,rfl,by decide,_,iI iC,.int g,hg,?_⟩;have ab:=s3.trans (iH (o:=.lst [V.int (ns.getD 6 0%40),V.int (ns.getD 6 0%(10^Int.toNat 6+1))]) aj);have ai:=iH (o:=.lst [V.int (ns.getD 6 0%40),V.int (ns.getD 6 0%(10^Int.toNat 6+1))]) aj _ _ hw;clear hg;generalize upd H3 pl (.lst [V.int (ns.getD 6 0%40),V.int (ns.getD 6 0%(10^Int.toNat 6+1))])=H3 at ab ai⊢;have S3:=S2.trans ab;have hO:ala A H3 w D2 es (tl.map (·.2)):=⟨⟨C,dw,ai,hW⟩,ab _ _ ap,hE.same ab,hF,hb,by rw[za];exact hl,by rw[zx];exact bm,e2▸List.Perm.refl _⟩
   (try dsimp only)
   refine jB λu hu=>?_;rw[ap_seq];refine Di λtb bf=>?_;rw[ap_for];walk_at "i";refine⟨w,D2,es,_,rfl,hO,λb1 k1 H4 s4 bl _ bt=>?_⟩;have S4:=S3.trans s4;have bs:ala A H4 w D2 es (tl.map (·.2)):=⟨⟨C,dw,s4 _ _ ai,hW⟩,s4 _ _ hO.q,hO.e.same s4,hO.h,hO.b,hO.l,hO.n,hO.p⟩;refine⟨a,ns,3,rfl,S4.seq hS,_,rfl,by decide,w,D2,_,es,_,rfl,bs,λb2 k2 H5 s5 bk _ bn=>⟨sz,λp5 bq=>⟨⟨_,iI iC⟩,?_⟩⟩⟩;have s6:=iH (o:=.lst [.ref b1,.ref b2]) bq;have h6:(upd H5 p5 (.lst [.ref b1,.ref b2])) p5=some (.lst [.ref b1,.ref b2]):=iC;generalize upd H5 p5 (.lst [.ref b1,.ref b2])=H6 at s6 h6;have S6:=S4.trans (s5.trans s6)
   have am:∀y∈[V.ref b1,V.ref b2],∃b k,y=.ref b/\jd A H6 b k/\StB ((tl.map (·.2)).map Ent.num) (tl.map (·.2)) k:=λy hy=>by
    rcases zv.mp hy with rfl|hy
    ·exact⟨b1,k1,rfl,(bl.same s5).same s6,bt⟩
    ·rw[zy.mp hy]
     exact⟨b2,k2,rfl,bk.same s6,bn⟩
   have ar:(tl.map (·.2)).length<=56:=hO.l;have bj:=hO.n;generalize tl.map (·.2)=hs at am ar bj;refine Cr (K:=K) (a:=p5) (xs:=[.ref b1,.ref b2]) (λi σ Hx=>(∃v4 v5 v6 v7,σ=[some (.ref a),some (.ref D2),some (.ref w),some (.int g),v4,v5,v6,v7])/\Same H6 Hx) ⟨⟨_,_,_,_,rfl⟩,same_refl _⟩ (λi σ Hx _ ⟨_,s⟩=>s.seq (iI h6)) ?_ ?_
   ·rintro i y σ Hx hi ⟨⟨v4,v5,v6,v7,rfl⟩,sx⟩
    obtain⟨b,kb,rfl,hB,ae⟩:=am y (zn hi);have hB:=hB.same sx;obtain⟨db,hb⟩:=hB.i;have b5:=ae.sl;have b9:=ae.v;subst bf;rw[ap_name];walk_at "n";refine md hb hB.me (kb.noM _ (by decide+kernel)) ⟨b,kb,rfl,hB,by omega,λq sl H7 s7 hq h7 ag ah=>?_⟩;have ay:=hB.same s7
    have ao:∀c∈kb.sl.map (λt=>t.2.dat),YW c.1:=λc hc=>by
     obtain⟨t,ht,rfl⟩:=zj.mp hc;exact ae.p t.2.core (zj.mpr ⟨t,ht,rfl⟩)
    have bu:sl.length=kb.sl.length:=by simpa using congrArg List.length ah
    (try dsimp only)
    refine jB λu2 bc=>?_;rw[ap_seq];refine Di λtc bh=>?_;rw[ap_for];walk_at "i";refine⟨q,a,sl,ns,rfl,h7,λt ht=>(ag t ht).1,by omega,(S6.trans (sx.trans s7)).seq hS,λl as H8 s8 h8 bb=>?_⟩;refine⟨l,rfl,⟨_,iI h8⟩,?_⟩;refine Cr (K:=K) (a:=l) (xs:=as.map V.ref) (λi σ Hy=>(∃v6 v7,σ=[some (.ref a),some (.ref D2),some (.ref w),some (.int g),some (.ref b),some (.ref q),v6,v7])/\Same H8 Hy) ⟨⟨_,_,rfl⟩,same_refl _⟩ (λi σ Hy _ ⟨_,s⟩=>s.seq (iI h8)) ?_ ?_
    ·rintro j z σ Hy hj ⟨⟨v6,v7,rfl⟩,sy⟩
     obtain⟨x,hx,rfl⟩:=zj.mp (zn hj);obtain⟨f9,l9,bp⟩:=bb x hx;subst bh;walk_at "i";refine⟨_,jG (sy _ _ bp),rfl,_,_,rfl,_,_,rfl,rfl,b,q,kb,sl,g,f9,l9,rfl,(ay.same s8).same sy,by omega,(s8.trans sy) _ _ h7,λt ht=>((ag t ht).1.same s8).same sy,ah,ao,λH9 s9=>⟨true,rfl,?_⟩⟩;rw[zc (by decide)];exact sy.trans s9
    ·rintro σ Hy ⟨⟨v6,v7,rfl⟩,sy⟩
     have ak:=(ay.same s8).same sy;obtain⟨ca,bi⟩:=ak.i;subst bc;walk_at "i";refine md bi ak.me (kb.noM _ (by decide+kernel)) ⟨b,kb,rfl,ak,by omega,λq2 ba cb br b6 aw an ac=>?_⟩;have bz:ba.length=kb.sl.length:=by simpa using congrArg List.length ac
     refine⟨q2,rfl,⟨_,iI aw⟩,?_⟩;refine Pb (f:=λt:Addr×jJ=>V.ref t.1) (λσ=>∃v,σ=[v]) (λ_ t v _=>v=.int t.2.cnt) (iI aw) ⟨_,rfl⟩ (by omega) ?_ ?_
     ·rintro Da t ht σ H5 R ⟨_,rfl⟩ sm hD hA kk
      have aa:=(an t ht).1.same sm;obtain⟨dt,hi⟩:=aa.i;walk_at "i";exact md hi zk (by rfl) ⟨t.1,t.2,rfl,aa,λH7 s7=>kk _ _ _ ⟨_,rfl⟩ s7 λ_ _=>rfl⟩
     ·intro b0 b7 bg bx bo ax az
      rw[wH.ints az]at ax;have af:=s8.trans (sy.trans (br.trans bo));have ad:=af _ _ h7;refine⟨⟨_,iI ad⟩,?_⟩;refine Pb (f:=λt:Addr×jJ=>V.ref t.1) (λσ=>∃v,σ=[v]) (λ_ t v _=>v=.int t.2.cnt) (iI ad) ⟨_,rfl⟩ (by omega) ?_ ?_
      ·rintro Da t ht σ H5 R ⟨_,rfl⟩ sm hD hA kk
       have aa:=(ag t ht).1.same (af.trans sm);obtain⟨dt,hi⟩:=aa.i;walk_at "i";exact md hi zk (by rfl) ⟨t.1,t.2,rfl,aa,λH7 s7=>kk _ _ _ ⟨_,rfl⟩ s7 λ_ _=>rfl⟩
      ·intro b3 b8 be bv al av au
       rw[wH.ints au]at av;refine ajb (iI (al _ _ ax)) (iI av) (by rw[Ww,Ww,ac,ah]) ⟨_,rfl,?_⟩;rw[zc (by decide)];exact sx.trans (s7.trans (af.trans al))
   ·rintro σ Hx ⟨⟨v4,v5,v6,v7,rfl⟩,sx⟩
    subst hu;walk_at "a";exact k Hx
end
end My
namespace My
open PySem L2 PyProof.Rows
open PySem.W (codeIn findCls findIn fnOf hasDictIn isFn keepIn kitOne makesIn mg_none_of mg_of mroIn nsIn plainGet plainOver readsIn specialIn takesIn)
abbrev Dm_(K:Fg_)(c:Addr)(x q:Str)(st:Stmt)(f:Addr)(oc:Value)(od:Option Addr)(kV dc pm:Value)(an:Option Addr)(cd ct:Value)(sl:Array (Option Value)):Prop:=findIn K (.ref c) x=some (some (.ref f))∧K.lookup f=some ⟨oc,od,.func (fnOf x q (nD st) (lX st) (iD st) .none kV dc pm an cd ct),sl⟩∧codeIn K cd q=true∧keepIn K (.ref f)=true
abbrev Df_(K:Fg_)(x:Str)(st:Stmt)(f:Addr)(oc:Value)(od:Option Addr)(kV dc pm:Value)(an:Option Addr)(cd ct:Value)(sl:Array (Option Value)):Prop:=nsIn K mainGlobals x=some (some (.ref f))∧K.lookup f=some ⟨oc,od,.func (fnOf x x (nD st) (lX st) (iD st) .none kV dc pm an cd ct),sl⟩∧codeIn K cd x=true∧keepIn K (.ref f)=true
inductive Ef_(K:Fg_)(x:Str)(st:Stmt)(f:Addr)(fd:FuncData):Prop
  |mk {oc:Value} {od:Option Addr} {kV dc pm:Value} {an:Option Addr} {cd ct:Value} {sl:Array (Option Value)} (e:fd=fnOf x x (nD st) (lX st) (iD st) .none kV dc pm an cd ct) (h:Df_ K x st f oc od kV dc pm an cd ct sl):Ef_ K x st f fd
inductive Em_(K:Fg_)(c:Addr)(x q:Str)(st:Stmt)(f:Addr)(fd:FuncData):Prop
  |mk {oc:Value} {od:Option Addr} {kV dc pm:Value} {an:Option Addr} {cd ct:Value} {sl:Array (Option Value)} (e:fd=fnOf x q (nD st) (lX st) (iD st) .none kV dc pm an cd ct) (h:Dm_ K c x q st f oc od kV dc pm an cd ct sl):Em_ K c x q st f fd
def Ef_.n{K:Fg_}{x:Str}{st:Stmt}{f:Addr}{fd:FuncData}(a:Ef_ K x st f fd):nsIn K mainGlobals x=some (some (.ref f)):=by cases a with|mk e h=>exact h.1
def Ef_.k{K:Fg_}{x:Str}{st:Stmt}{f:Addr}{fd:FuncData}(a:Ef_ K x st f fd):keepIn K (.ref f)=true:=by cases a with|mk e h=>exact h.2.2.2
def Ef_.F{K:Fg_}{x:Str}{st:Stmt}{f:Addr}{fd:FuncData}(a:Ef_ K x st f fd):Fun K x x st f fd:=by cases a with|mk e h=>exact e▸Yn h.2.1 h.2.2.1 h.2.2.2
def Ef_.g{K:Fg_}{x:Str}{st:Stmt}{f:Addr}{fd:FuncData}{h:Heap}{mg:Str->Option Value}(a:Ef_ K x st f fd)(X:K.In h)(G:h.Ns mainGlobals mg):FG K mg x st f fd:=⟨mg_of X G a.n,a.k,a.F⟩
def Em_.n{K:Fg_}{c:Addr}{x q:Str}{st:Stmt}{f:Addr}{fd:FuncData}(a:Em_ K c x q st f fd):findIn K (.ref c) x=some (some (.ref f)):=by cases a with|mk e h=>exact h.1
def Em_.k{K:Fg_}{c:Addr}{x q:Str}{st:Stmt}{f:Addr}{fd:FuncData}(a:Em_ K c x q st f fd):keepIn K (.ref f)=true:=by cases a with|mk e h=>exact h.2.2.2
def Em_.F{K:Fg_}{c:Addr}{x q:Str}{st:Stmt}{f:Addr}{fd:FuncData}(a:Em_ K c x q st f fd):Fun K x q st f fd:=by cases a with|mk e h=>exact e▸Yn h.2.1 h.2.2.1 h.2.2.2
def all_mk{l:PySem.W.OpenLaw}{w:World}{K:Fg_}{h:Heap}{mg:Str->Option Value}{fa:Addr}(X:K.In h)(G:h.Ns mainGlobals mg)(o1:mg "law" =some (.ref fa))
  {f0 f1 f2 f3 f4 f5 f6 f7 f9 lk e0 eb hu lp kn ly mp da cd kv e5 fl jp b3 d0 lj gh kd ga dp it d1 bl bk js ke g5 kx ap ki ei ej k6 mb cb em ev ld e1 ii b1 cn b4 la ml cs gv cp bt ms hk dt k3 e4 ez go e7 dy k7 bm br j4 bq kr dv lb g2 cl h6 j8 mf hm j6 hp k4 i0 k9 ky le ht h5 j5 hv hj mm d2 is iq ik ij ip tM:Addr}
  {ja iM:Option Addr}
  {iG:Array (Option Value)}
  {iV iN jg iy iA i8:Value}
  {c0 c1 c2 c3 c4 c5 c6 c7 c8 c9 ab q an z ad dd he:Addr}
  {dn fR ee eo d9 eM fO cA el:Tok}
  (fD:nsIn K mainGlobals "Eldest" =some (some (.ref c0)))
  (fM:nsIn K mainGlobals "Newest" =some (some (.ref c1)))
  (eF:nsIn K mainGlobals "Dearest" =some (some (.ref c2)))
  (gI:nsIn K mainGlobals "Mean" =some (some (.ref c3)))
  (gi:nsIn K mainGlobals "Entry" =some (some (.ref c4)))
  (eA:nsIn K mainGlobals "Parting" =some (some (.ref c5)))
  (gR:nsIn K mainGlobals "Buy" =some (some (.ref c6)))
  (gO:nsIn K mainGlobals "Sell" =some (some (.ref c7)))
  (gG:nsIn K mainGlobals "Gift" =some (some (.ref c8)))
  (gL:nsIn K mainGlobals "Give" =some (some (.ref c9)))
  (gr:nsIn K mainGlobals "Split" =some (some (.ref ab)))
  (gB:nsIn K mainGlobals "Book" =some (some (.ref q)))
  (gY:nsIn K mainGlobals "Lot" =some (some (.ref an)))
  (cP:nsIn K mainGlobals "LayingBook" =some (some (.ref z)))
  (gP:nsIn K mainGlobals "Sale" =some (some (.ref ad)))
  (ie:nsIn K mainGlobals "Way" =some (some (.ref dd)))
  (gQ:nsIn K mainGlobals "NoLot" =some (some (.ref he)))
  {m7 m9 n2 nw m8 no oy o3 nc ot hs h0 ls g3 hn hz k1 g6 ku h3 g4 jv lv h4 hw ho g7 j9 hy h7 kf lm j1 ix lc hb i6 lr mr l7 l0 kq hx kp j0 l1 iv hf mo l9 mk kl h8 mn kg i9 hl j7 gu km lx l2 li h9 hg g8 ia ma mt kc i5 ko ll g0 i2 ha hh mh ih i3 kk ln j2 me ka hc l3 k2 hq hr l4 l6 lh hd k5 lz lf i1 mi j3 e2:FuncData}
  (a0:Ef_ K "_law_way" Eo f0 m7)
  (a1:Ef_ K "is_whole_number" oJ f1 m9)
  (a2:Ef_ K "check_number" sV f2 n2)
  (a3:Ef_ K "is_name" Hw f3 nw)
  (a4:Ef_ K "check_name" wM f4 m8)
  (a5:Em_ K c4 "__init__" "Entry.__init__" pH f5 no)
  (a6:Em_ K c5 "__init__" "Parting.__init__" nR f6 oy)
  (a7:Ef_ K "check_trade" uO f7 o3)
  {f8:Addr} {od op:Option Addr} {nv:Array (Option Value)} {ng nx on o2 kb m5:Value}
  (a8:findIn K (.ref c6) "__init__" =some (some (.ref f8)))
  {kw:Addr} {vB:Option Addr} {xY:Value} {jL:Array (Option Value)} {nf:Nat} {ic:Tok}
  (l8:K.lookup f8=some ⟨ng,od,.func (fnOf "__init__" "Buy.__init__" (nD mz) (lX mz) (iD mz) (.ref kw) nx on o2 op kb m5),nv⟩)
  (d8:codeIn K kb "Buy.__init__" =true)
  (k8:keepIn K (.ref f8)=true)
  (ns:K.lookup kw=some ⟨xY,vB,.seq #[.int 0 ic] nf,jL⟩)
  (a9:Ef_ K "check_named" uL f9 nc)
  (a10:Ef_ K "named_copy" wR lk ot)
  {bc:Addr} {nT qQ:Option Addr} {tS:Array (Option Value)} {l5 nz zX uz io qw:Value}
  (a11:findIn K (.ref c7) "__init__" =some (some (.ref bc)))
  {il:Addr} {iT:Option Addr} {jh:Value} {iL:Array (Option Value)} {mu:Nat} {hV:Tok}
  (nl:K.lookup bc=some ⟨l5,nT,.func (fnOf "__init__" "Sell.__init__" (nD lM) (lX lM) (iD lM) (.ref il) nz zX uz qQ io qw),tS⟩)
  (m6:codeIn K io "Sell.__init__" =true)
  (oa:keepIn K (.ref bc)=true)
  (ib:K.lookup il=some ⟨jh,iT,.seq #[.int 0 hV,.none] mu,iL⟩)
  (a12:Em_ K c8 "__init__" "Gift.__init__" qO e0 hs)
  {as:Addr} {kJ oK:Option Addr} {tN:Array (Option Value)} {xn sd p0 tD ig nG:Value}
  (a13:findIn K (.ref c9) "__init__" =some (some (.ref as)))
  {im:Addr} {jc:Option Addr} {jl:Value} {iF:Array (Option Value)} {ze:Nat}
  (mv:K.lookup as=some ⟨xn,kJ,.func (fnOf "__init__" "Give.__init__" (nD lO) (lX lO) (iD lO) (.ref im) sd p0 tD oK ig nG),tN⟩)
  (or:codeIn K ig "Give.__init__" =true)
  (n3:keepIn K (.ref as)=true)
  (hX:K.lookup im=some ⟨jl,jc,.seq #[.none] ze,iF⟩)
  (a14:Em_ K ab "__init__" "Split.__init__" pN eb h0)
  (my:Ef_ K "_law_entry" xH hu ls)
  (n6:Ef_ K "_law_cell_at" sE lp g3)
  (oq:Ef_ K "refuse_twice" su kn hn)
  (oc:Ef_ K "place_of" Ew ly hz)
  (nb:Ef_ K "in_order" DX mp k1)
  (bs:Em_ K q "row_of" "Book.row_of" uN da g6)
  (ca:Em_ K q "keep_row" "Book.keep_row" qj cd ku)
  (ny:Ef_ K "place_in_row" sZ kv h3)
  (i4:Em_ K an "__init__" "Lot.__init__" sU e5 g4)
  (fi:Em_ K an "with_more" "Lot.with_more" qu fl jv)
  (oe:Ef_ K "row_with" Er jp lv)
  (ct:Em_ K q "put" "Book.put" Ei b3 h4)
  (ea:Em_ K q "lay_on" "Book.lay_on" uF d0 hw)
  (o0:Ef_ K "cost_of_parts" qU lj ho)
  (er:Em_ K ad "gain" "Sale.gain" Ce gh g7)
  (n8:Ef_ K "is_open_loss" sI kd j9)
  (ff:Em_ K z "may_take" "LayingBook.may_take" mO ga hy)
  (kt:Em_ K ad "__init__" "Sale.__init__" qz dp h7)
  (o7:Ef_ K "sale_laid_on" tE it kf)
  (d3:Em_ K z "lay_on" "LayingBook.lay_on" nM d1 lm)
  (b2:Em_ K q "do_buy" "Book.do_buy" uQ bl j1)
  (dc:Em_ K q "do_gift" "Book.do_gift" rW bk ix)
  (oi:Ef_ K "sum_of_weights" pQ js lc)
  (ok:Ef_ K "part_of" HJ ke hb)
  (nr:Ef_ K "dealt" Rp g5 i6)
  (o5:Ef_ K "sale_of" JP kx lr)
  (b0:Em_ K dd "levelled" "Way.levelled" tG ap mr)
  (nh:Ef_ K "cost_in" IK ki l7)
  (ec:Em_ K c3 "levelled" "Mean.levelled" qp ei l0)
  (dz:Em_ K an "taken" "Lot.taken" Bh ej kq)
  (og:Ef_ K "row_without" uM k6 hx)
  (n0:Ef_ K "picks_in_turn" qM mb kp)
  (bi:Em_ K c0 "picks" "Eldest.picks" rN cb j0)
  (dw:Em_ K c1 "picks" "Newest.picks" sH em l1)
  (ed:Em_ K an "is_dearer" "Lot.is_dearer" qH ev iv)
  (of:Ef_ K "dearest_first" qP ld hf)
  (en:Em_ K c2 "picks" "Dearest.picks" qx e1 mo)
  (nd:Ef_ K "gone_from" BJ ii l9)
  (bn:Em_ K q "taken_for" "Book.taken_for" pI b1 mk)
  (co:Em_ K q "do_sell" "Book.do_sell" sX cn kl)
  (db:Em_ K q "do_give" "Book.do_give" rO b4 h8)
  (ox:Ef_ K "pieces_split" sS la mn)
  (n5:Ef_ K "row_split" Bm ml kg)
  (bv:Em_ K q "do_split" "Book.do_split" qJ cs i9)
  (m2:Ef_ K "row_parted" xx gv hl)
  (bx:Em_ K q "do_parting" "Book.do_parting" oR cp j7)
  (bp:Em_ K q "do_by_kind" "Book.do_by_kind" oW bt gu)
  (ol:Ef_ K "held_with" Bt ms km)
  (oo:Ef_ K "held_with_more" pG hk lx)
  (dl:Em_ K c6 "held_behind" "Buy.held_behind" oM dt l2)
  (na:Ef_ K "held_with_fewer" oH k3 li)
  (e3:Em_ K c7 "held_behind" "Sell.held_behind" ou e4 h9)
  (ey:Em_ K c8 "held_behind" "Gift.held_behind" nZ ez hg)
  (ep:Em_ K c9 "held_behind" "Give.held_behind" nU go g8)
  (eq:Em_ K ab "held_behind" "Split.held_behind" nJ e7 ia)
  (fk:Em_ K c5 "held_behind" "Parting.held_behind" mF dy ma)
  (nt:Ef_ K "pieces_in" Bj k7 mt)
  (b6:Em_ K q "held" "Book.held" Bq bm kc)
  (ch:Em_ K q "do" "Book.do" HD br i5)
  (ov:Ef_ K "with_all_done" qF j4 ko)
  (g1:Em_ K q "__init__" "Book.__init__" qI bq ll)
  (oj:Ef_ K "book_of" Jl kr g0)
  (i7:Em_ K z "__init__" "LayingBook.__init__" mL dv i2)
  (n9:Ef_ K "laying_book_of" pK lb ha)
  (m1:Ef_ K "copy_of_sale" rY g2 hh)
  (bd:Em_ K q "sales" "Book.sales" wK cl mh)
  (mx:Ef_ K "_law_days" BR h6 ih)
  (m4:Ef_ K "_law_mixed" xq j8 i3)
  (o4:Ef_ K "_law_sources" rP mf kk)
  (o6:Ef_ K "_law_take" Cg hm ln)
  (ow:Ef_ K "_law_split_row" pM j6 j2)
  (m0:Ef_ K "_law_part_row" qC hp me)
  (oz:Ef_ K "_law_some" Bd k4 ka)
  (om:Ef_ K "_law_price" vY i0 hc)
  (ni:Ef_ K "_law_pieces" uD k9 l3)
  (n4:Ef_ K "_law_row" Et ky k2)
  (n1:Ef_ K "_law_counted" rM le hq)
  (mw:Ef_ K "_law_raw" Fe ht hr)
  (ob:Ef_ K "_law_history" rT h5 l4)
  (nk:Ef_ K "gain_of_part" sW j5 l6)
  (nn:Ef_ K "row_of_part" uR hv lh)
  (n7:Ef_ K "rows_of_sale" sY hj hd)
  (m3:Ef_ K "gains_between" qG mm k5)
  (ew:Em_ K ad "counted" "Sale.counted" sO d2 lz)
  (ne:Ef_ K "gain_till" Bo is lf)
  (fz:Ef_ K "_law_till" Bl iq i1)
  (fw:Ef_ K "_law_sums" Ca ik mi)
  (fC:Ef_ K "_law_whole" wN ij j3)
  (fE:Ef_ K "_law_good" Br ip e2)
  (eL:Df_ K "law" Zi tM iV ja iN jg iy iM iA i8 iG)
  (cK:nsIn K mainGlobals "isinstance" =some none)
  (gX:nsIn K mainGlobals "int" =some none)
  (gN:nsIn K mainGlobals "bool" =some none)
  (hJ:nsIn K mainGlobals "all" =some none)
  (gU:nsIn K mainGlobals "str" =some none)
  (g9:nsIn K mainGlobals "len" =some none)
  (gC:nsIn K mainGlobals "list" =some none)
  (fg:nsIn K mainGlobals "sorted" =some none)
  (gZ:nsIn K mainGlobals "zip" =some none)
  (gW:nsIn K mainGlobals "any" =some none)
  (hU:nsIn K mainGlobals "sum" =some none)
  (gH:nsIn K mainGlobals "dict" =some none)
  (gS:nsIn K mainGlobals "min" =some none)
  (dG:nsIn K mainGlobals "reversed" =some none)
  (cW:nsIn K mainGlobals "enumerate" =some none)
  (gl:nsIn K mainGlobals "range" =some none)
  (gT:nsIn K mainGlobals "max" =some none)
  (bV:nsIn K mainGlobals "MOST_LETTERS" =some (some (.int 8 dn)))
  (dL:nsIn K mainGlobals "MOST_DAY" =some (some (.int 1000000 fR)))
  (b7:nsIn K mainGlobals "MOST_NUMBER" =some (some (.int 1000000 ee)))
  (cD:nsIn K mainGlobals "MOST_WHOLE" =some (some (.int 1000000 eo)))
  (b8:nsIn K mainGlobals "MOST_PIECES" =some (some (.int 1000000000 d9)))
  (cN:nsIn K mainGlobals "MOST_PRICE" =some (some (.int 1000000000 eM)))
  (d5:nsIn K mainGlobals "MOST_FEE" =some (some (.int 1000000000 fO)))
  (bD:nsIn K mainGlobals "MOST_GIFT_COST" =some (some (.int 1000000000000000000 cA)))
  (cG:nsIn K mainGlobals "MOST_SPLIT" =some (some (.int 1000 el)))
  (eE:specialIn K (.builtin "object.__class__") "__get__" =some (some (.builtin "getset_descriptor.__get__")))
  (eu:takesIn K (.builtin "object.__class__")=some true)
  (eQ:plainGet K c0 Str.empty=true)
  (eJ:hasDictIn K c0=true)
  (eI:plainOver K c0=true)
  (eh:findIn K (.ref c0) "__setattr__" =some (some (.builtin "object.__setattr__")))
  (eg:plainGet K c1 Str.empty=true)
  (ek:hasDictIn K c1=true)
  (eO:plainOver K c1=true)
  (eK:findIn K (.ref c1) "__setattr__" =some (some (.builtin "object.__setattr__")))
  (dY:plainGet K c2 Str.empty=true)
  (dX:hasDictIn K c2=true)
  (dR:plainOver K c2=true)
  (dH:findIn K (.ref c2) "__setattr__" =some (some (.builtin "object.__setattr__")))
  (fU:plainGet K c3 Str.empty=true)
  (fV:hasDictIn K c3=true)
  (gf:plainOver K c3=true)
  (gt:findIn K (.ref c3) "__setattr__" =some (some (.builtin "object.__setattr__")))
  (cv:plainGet K c5 Str.empty=true)
  (cx:hasDictIn K c5=true)
  (cy:plainOver K c5=true)
  (cw:findIn K (.ref c5) "__setattr__" =some (some (.builtin "object.__setattr__")))
  (dP:findIn K (.ref c5) "__class__" =some (some (.builtin "object.__class__")))
  (dB:mroIn K c5 (.type "object")=some true)
  (cg:findIn K (.ref c5) "day" =some none)
  (bF:findIn K (.ref c5) "number" =some none)
  (bR:findIn K (.ref c5) "ware" =some none)
  (bK:findIn K (.ref c5) "other" =some none)
  (bO:findIn K (.ref c5) "share" =some none)
  (bJ:findIn K (.ref c5) "whole" =some none)
  (fQ:plainGet K c6 Str.empty=true)
  (fT:hasDictIn K c6=true)
  (fS:plainOver K c6=true)
  (fP:findIn K (.ref c6) "__setattr__" =some (some (.builtin "object.__setattr__")))
  (gJ:findIn K (.ref c6) "__class__" =some (some (.builtin "object.__class__")))
  (gF:mroIn K c6 (.type "object")=some true)
  (eN:findIn K (.ref c6) "day" =some none)
  (cJ:findIn K (.ref c6) "number" =some none)
  (dI:findIn K (.ref c6) "ware" =some none)
  (cB:findIn K (.ref c6) "pieces" =some none)
  (dj:findIn K (.ref c6) "price" =some none)
  (eG:findIn K (.ref c6) "fee" =some none)
  (dJ:findIn K (.ref c6) "cost" =some none)
  (eW:plainGet K c7 Str.empty=true)
  (eS:hasDictIn K c7=true)
  (eY:plainOver K c7=true)
  (eR:findIn K (.ref c7) "__setattr__" =some (some (.builtin "object.__setattr__")))
  (fY:findIn K (.ref c7) "__class__" =some (some (.builtin "object.__class__")))
  (gb:mroIn K c7 (.type "object")=some true)
  (dZ:findIn K (.ref c7) "day" =some none)
  (cr:findIn K (.ref c7) "number" =some none)
  (cY:findIn K (.ref c7) "ware" =some none)
  (ce:findIn K (.ref c7) "pieces" =some none)
  (cQ:findIn K (.ref c7) "price" =some none)
  (dF:findIn K (.ref c7) "fee" =some none)
  (cL:findIn K (.ref c7) "named" =some none)
  (bL:findIn K (.ref c7) "proceeds" =some none)
  (eV:plainGet K c8 Str.empty=true)
  (eU:hasDictIn K c8=true)
  (eT:plainOver K c8=true)
  (eX:findIn K (.ref c8) "__setattr__" =some (some (.builtin "object.__setattr__")))
  (fX:findIn K (.ref c8) "__class__" =some (some (.builtin "object.__class__")))
  (gd:mroIn K c8 (.type "object")=some true)
  (dQ:findIn K (.ref c8) "day" =some none)
  (ck:findIn K (.ref c8) "number" =some none)
  (cR:findIn K (.ref c8) "ware" =some none)
  (cm:findIn K (.ref c8) "pieces" =some none)
  (cZ:findIn K (.ref c8) "cost" =some none)
  (cM:findIn K (.ref c8) "since" =some none)
  (fb:plainGet K c9 Str.empty=true)
  (eZ:hasDictIn K c9=true)
  (e8:plainOver K c9=true)
  (e9:findIn K (.ref c9) "__setattr__" =some (some (.builtin "object.__setattr__")))
  (fZ:findIn K (.ref c9) "__class__" =some (some (.builtin "object.__class__")))
  (gA:mroIn K c9 (.type "object")=some true)
  (du:findIn K (.ref c9) "day" =some none)
  (cj:findIn K (.ref c9) "number" =some none)
  (cT:findIn K (.ref c9) "ware" =some none)
  (cu:findIn K (.ref c9) "pieces" =some none)
  (cz:findIn K (.ref c9) "named" =some none)
  (dU:plainGet K ab Str.empty=true)
  (dW:hasDictIn K ab=true)
  (dA:plainOver K ab=true)
  (d4:findIn K (.ref ab) "__setattr__" =some (some (.builtin "object.__setattr__")))
  (fr:findIn K (.ref ab) "__class__" =some (some (.builtin "object.__class__")))
  (fF:mroIn K ab (.type "object")=some true)
  (cV:findIn K (.ref ab) "day" =some none)
  (bU:findIn K (.ref ab) "number" =some none)
  (cI:findIn K (.ref ab) "ware" =some none)
  (cF:findIn K (.ref ab) "many" =some none)
  (dO:findIn K (.ref ab) "of" =some none)
  (gk:plainGet K q Str.empty=true)
  (gw:hasDictIn K q=true)
  (gn:plainOver K q=true)
  (gc:findIn K (.ref q) "__setattr__" =some (some (.builtin "object.__setattr__")))
  (dN:findIn K (.ref q) "way" =some none)
  (dh:findIn K (.ref q) "rows" =some none)
  (bA:findIn K (.ref q) "last_place" =some none)
  (di:findIn K (.ref q) "paid" =some none)
  (bX:findIn K (.ref q) "brought" =some none)
  (bf:findIn K (.ref q) "sales_done" =some none)
  (aQ:findIn K (.ref q) "givings_done" =some none)
  (gM:plainGet K an Str.empty=true)
  (gE:hasDictIn K an=true)
  (gK:plainOver K an=true)
  (gD:findIn K (.ref an) "__setattr__" =some (some (.builtin "object.__setattr__")))
  (cO:findIn K (.ref an) "number" =some none)
  (df:findIn K (.ref an) "since" =some none)
  (cC:findIn K (.ref an) "pieces" =some none)
  (d7:findIn K (.ref an) "cost" =some none)
  (cc:plainGet K z Str.empty=true)
  (b9:hasDictIn K z=true)
  (ci:plainOver K z=true)
  (cf:findIn K (.ref z) "__setattr__" =some (some (.builtin "object.__setattr__")))
  (bG:findIn K (.ref z) "way" =some none)
  (bB:findIn K (.ref z) "rows" =some none)
  (aj:findIn K (.ref z) "last_place" =some none)
  (bz:findIn K (.ref z) "paid" =some none)
  (aM:findIn K (.ref z) "brought" =some none)
  (ao:findIn K (.ref z) "sales_done" =some none)
  (af:findIn K (.ref z) "givings_done" =some none)
  (be:findIn K (.ref z) "days" =some none)
  (aE:findIn K (.ref z) "layings" =some none)
  (gy:plainGet K ad Str.empty=true)
  (gj:hasDictIn K ad=true)
  (gg:plainOver K ad=true)
  (fW:findIn K (.ref ad) "__setattr__" =some (some (.builtin "object.__setattr__")))
  (cq:findIn K (.ref ad) "number" =some none)
  (dE:findIn K (.ref ad) "day" =some none)
  (dk:findIn K (.ref ad) "ware" =some none)
  (bM:findIn K (.ref ad) "proceeds" =some none)
  (cE:findIn K (.ref ad) "parts" =some none)
  (bS:findIn K (.ref ad) "laid_on" =some none)
  (cS:makesIn K c5=true)
  (cU:isFn K (.ref f6)=true)
  (cX:keepIn K (.ref c5)=true)
  (ge:makesIn K c6=true)
  (gz:isFn K (.ref f8)=true)
  (gq:keepIn K (.ref c6)=true)
  (fx:makesIn K c7=true)
  (fe:isFn K (.ref bc)=true)
  (fo:keepIn K (.ref c7)=true)
  (fA:makesIn K c8=true)
  (fJ:isFn K (.ref e0)=true)
  (fm:keepIn K (.ref c8)=true)
  (fh:makesIn K c9=true)
  (fH:isFn K (.ref as)=true)
  (fN:keepIn K (.ref c9)=true)
  (eD:makesIn K ab=true)
  (eC:isFn K (.ref eb)=true)
  (eB:keepIn K (.ref ab)=true)
  (gx:makesIn K an=true)
  (gm:isFn K (.ref e5)=true)
  (gp:keepIn K (.ref an)=true)
  (ft:makesIn K ad=true)
  (fL:isFn K (.ref dp)=true)
  (fq:keepIn K (.ref ad)=true)
  (fG:makesIn K q=true)
  (fj:isFn K (.ref bq)=true)
  (fK:keepIn K (.ref q)=true)
  (bT:makesIn K z=true)
  (bW:isFn K (.ref dv)=true)
  (bP:keepIn K (.ref z)=true)
  (dq:makesIn K c0=true)
  (dM:findIn K (.ref c0) "__init__" =some (some (.builtin "object.__init__")))
  (dS:keepIn K (.ref c0)=true)
  (dC:makesIn K c1=true)
  (dr:findIn K (.ref c1) "__init__" =some (some (.builtin "object.__init__")))
  (d6:keepIn K (.ref c1)=true)
  (de:makesIn K c2=true)
  (dg:findIn K (.ref c2) "__init__" =some (some (.builtin "object.__init__")))
  (dm:keepIn K (.ref c2)=true)
  (fu:makesIn K c3=true)
  (fc:findIn K (.ref c3) "__init__" =some (some (.builtin "object.__init__")))
  (fB:keepIn K (.ref c3)=true)
  (ba:isFn K (.ref fl)=true)
  (aT:isFn K (.ref da)=true)
  (az:findIn K (.ref z) "row_of" =some (some (.ref da)))
  (ax:isFn K (.ref cd)=true)
  (am:findIn K (.ref z) "keep_row" =some (some (.ref cd)))
  (bZ:isFn K (.ref gh)=true)
  (al:isFn K (.ref ga)=true)
  (bI:isFn K (.ref b3)=true)
  (aX:findIn K (.ref z) "put" =some (some (.ref b3)))
  (bN:isFn K (.ref d0)=true)
  (aA:isFn K (.ref d1)=true)
  (b5:isFn K (.ref ej)=true)
  (bw:isFn K (.ref ev)=true)
  (aS:findIn K (.ref c0) "levelled" =some (some (.ref ap)))
  (aa:isFn K (.ref ap)=true)
  (aR:findIn K (.ref c1) "levelled" =some (some (.ref ap)))
  (aL:findIn K (.ref c2) "levelled" =some (some (.ref ap)))
  (bh:isFn K (.ref ei)=true)
  (aI:isFn K (.ref cb)=true)
  (bE:isFn K (.ref em)=true)
  (bu:isFn K (.ref e1)=true)
  (bQ:findIn K (.ref c3) "picks" =some (some (.ref cb)))
  (ar:isFn K (.ref b1)=true)
  (ag:findIn K (.ref z) "taken_for" =some (some (.ref b1)))
  (aU:isFn K (.ref bl)=true)
  (aC:findIn K (.ref z) "do_buy" =some (some (.ref bl)))
  (aN:isFn K (.ref bk)=true)
  (au:findIn K (.ref z) "do_gift" =some (some (.ref bk)))
  (aF:isFn K (.ref cn)=true)
  (av:findIn K (.ref z) "do_sell" =some (some (.ref cn)))
  (aD:isFn K (.ref b4)=true)
  (aw:findIn K (.ref z) "do_give" =some (some (.ref b4)))
  (ay:isFn K (.ref cs)=true)
  (aq:findIn K (.ref z) "do_split" =some (some (.ref cs)))
  (ai:isFn K (.ref cp)=true)
  (ac:findIn K (.ref z) "do_parting" =some (some (.ref cp)))
  (ah:isFn K (.ref bt)=true)
  (ae:findIn K (.ref z) "do_by_kind" =some (some (.ref bt)))
  (aO:isFn K (.ref dt)=true)
  (aG:isFn K (.ref e4)=true)
  (aJ:isFn K (.ref ez)=true)
  (aH:isFn K (.ref go)=true)
  (aB:isFn K (.ref e7)=true)
  (ak:isFn K (.ref dy)=true)
  (bC:isFn K (.ref bm)=true)
  (aP:findIn K (.ref z) "held" =some (some (.ref bm)))
  (bY:isFn K (.ref br)=true)
  (bg:findIn K (.ref z) "do" =some (some (.ref br)))
  (aZ:isFn K (.ref cl)=true)
  (aK:findIn K (.ref z) "sales" =some (some (.ref cl)))
  (bH:isFn K (.ref d2)=true)
  (aV:specialIn K (.ref c4) "__getattribute__" =some (some (.builtin "type.__getattribute__")))
  (aY:readsIn K c4 (.type "type")=true)
  (aW:findCls K (.ref c4) (.type "type") "__init__" =some (.val (.ref f5)))
  (bo:specialIn K (.ref q) "__getattribute__" =some (some (.builtin "type.__getattribute__")))
  (bb:readsIn K q (.type "type")=true)
  (bj:findCls K (.ref q) (.type "type") "__init__" =some (.val (.ref bq)))
  (fy:kitOne K (.ref c6) (.ref c7)=some false/\kitOne K (.ref c6) (.ref c8)=some false/\kitOne K (.ref c6) (.ref c9)=some false/\kitOne K (.ref c6) (.ref ab)=some false/\kitOne K (.ref c6) (.ref c5)=some false)
  (eP:kitOne K (.ref c7) (.ref c6)=some false/\kitOne K (.ref c7) (.ref c8)=some false/\kitOne K (.ref c7) (.ref c9)=some false/\kitOne K (.ref c7) (.ref ab)=some false/\kitOne K (.ref c7) (.ref c5)=some false)
  (ef:kitOne K (.ref c8) (.ref c6)=some false/\kitOne K (.ref c8) (.ref c7)=some false/\kitOne K (.ref c8) (.ref c9)=some false/\kitOne K (.ref c8) (.ref ab)=some false/\kitOne K (.ref c8) (.ref c5)=some false)
  (et:kitOne K (.ref c9) (.ref c6)=some false/\kitOne K (.ref c9) (.ref c7)=some false/\kitOne K (.ref c9) (.ref c8)=some false/\kitOne K (.ref c9) (.ref ab)=some false/\kitOne K (.ref c9) (.ref c5)=some false)
  (dD:kitOne K (.ref ab) (.ref c6)=some false/\kitOne K (.ref ab) (.ref c7)=some false/\kitOne K (.ref ab) (.ref c8)=some false/\kitOne K (.ref ab) (.ref c9)=some false/\kitOne K (.ref ab) (.ref c5)=some false)
  (cH:kitOne K (.ref c5) (.ref c6)=some false/\kitOne K (.ref c5) (.ref c7)=some false/\kitOne K (.ref c5) (.ref c8)=some false/\kitOne K (.ref c5) (.ref c9)=some false/\kitOne K (.ref c5) (.ref ab)=some false)
  :∃fd:FuncData,(∀(s:Shared)(v:Value),BindsTo s fd ⟨[v],[]⟩ [("_law_script",v)])/\∀base:Heap,K.In base->base.Ns mainGlobals mg->jK l.prog w K mg base CX0 12 fa fd ["_law_script"] (QH K):=by
 have e:=o1.symm.trans (mg_of X G eL.1);cases e;have T:Txt K mg ⟨f0,f1,f2,f3,f4,f5,f6,f7,f8,f9,lk,bc,e0,as,eb,hu,lp,kn,ly,mp,da,cd,kv,e5,fl,jp,b3,d0,lj,gh,kd,ga,dp,it,d1,bl,bk,js,ke,g5,kx,ap,ki,ei,ej,k6,mb,cb,em,ev,ld,e1,ii,b1,cn,b4,la,ml,cs,gv,cp,bt,ms,hk,dt,k3,e4,ez,go,e7,dy,k7,bm,br,j4,bq,kr,dv,lb,g2,cl,h6,j8,mf,hm,j6,hp,k4,i0,k9,ky,le,ht,h5,j5,hv,hj,mm,d2,is,iq,ik,ij,ip,fa,c0,c1,c2,c3,c4,c5,c6,c7,c8,c9,ab,q,an,z,ad,dd,he,dn,fR,ee,eo,d9,eM,fO,cA,el⟩ ⟨_,_,_,_,_,_,_,_,_,_,_,_,_,_,_,_,_,_,_,_,_,_,_,_,_,_,_,_,_,_,_,_,_,_,_,_,_,_,_,_,_,_,_,_,_,_,_,_,_,_,_,_,_,_,_,_,_,_,_,_,_,_,_,_,_,_,_,_,_,_,_,_,_,_,_,_,_,_,_,_,_,_,_,_,_,_,_,_,_,_,_,_,_,_,_,_,_,_,_,_,_,_,_,_,_⟩:=⟨a0.g X G,a1.g X G,a2.g X G,a3.g X G,a4.g X G,a5.F,a6.F,a7.g X G,QX (st:=mz) (its:=[.int 0 ic]) l8 d8 k8 ns rfl (.cons ⟨_,rfl⟩ .nil),a9.g X G,a10.g X G,QX (st:=lM) (its:=[.int 0 hV,.none]) nl m6 oa ib rfl (.cons ⟨_,rfl⟩ (.cons rfl .nil)),a12.F,QX (st:=lO) (its:=[.none]) mv or n3 hX rfl (.cons rfl .nil),a14.F,my.g X G,n6.g X G,oq.g X G,oc.g X G,nb.g X G,bs.F,ca.F,ny.g X G,i4.F,fi.F,oe.g X G,ct.F,ea.F,o0.g X G,er.F,n8.g X G,ff.F,kt.F,o7.g X G,d3.F,b2.F,dc.F,oi.g X G,ok.g X G,nr.g X G,o5.g X G,b0.F,nh.g X G,ec.F,dz.F,og.g X G,n0.g X G,bi.F,dw.F,ed.F,of.g X G,en.F,nd.g X G,bn.F,co.F,db.F,ox.g X G,n5.g X G,bv.F,m2.g X G,bx.F,bp.F,ol.g X G,oo.g X G,dl.F,na.g X G,e3.F,ey.F,ep.F,eq.F,fk.F,nt.g X G,b6.F,ch.F,ov.g X G,g1.F,oj.g X G,i7.F,n9.g X G,m1.g X G,bd.F,mx.g X G,m4.g X G,o4.g X G,o6.g X G,ow.g X G,m0.g X G,oz.g X G,om.g X G,ni.g X G,n4.g X G,n1.g X G,mw.g X G,ob.g X G,nk.g X G,nn.g X G,n7.g X G,m3.g X G,ew.F,ne.g X G,fz.g X G,fw.g X G,fC.g X G,fE.g X G,⟨mg_of X G eL.1,eL.2.2.2,Yn (st:=Zi) eL.2.1 eL.2.2.1 eL.2.2.2⟩,mg_none_of X G cK,mg_none_of X G gX,mg_none_of X G gN,mg_none_of X G hJ,mg_none_of X G gU,mg_none_of X G g9,mg_none_of X G gC,mg_none_of X G fg,mg_none_of X G gZ,mg_none_of X G gW,mg_none_of X G hU,mg_none_of X G gH,mg_none_of X G gS,mg_none_of X G dG,mg_none_of X G cW,mg_none_of X G gl,mg_none_of X G gT,mg_of X G fD,mg_of X G fM,mg_of X G eF,mg_of X G gI,mg_of X G gi,mg_of X G eA,mg_of X G gR,mg_of X G gO,mg_of X G gG,mg_of X G gL,mg_of X G gr,mg_of X G gB,mg_of X G gY,mg_of X G cP,mg_of X G gP,mg_of X G bV,mg_of X G dL,mg_of X G b7,mg_of X G cD,mg_of X G b8,mg_of X G cN,mg_of X G d5,mg_of X G bD,mg_of X G cG,⟨eQ,eJ,eI,eh⟩,⟨eg,ek,eO,eK⟩,⟨dY,dX,dR,dH⟩,⟨fU,fV,gf,gt⟩,⟨cv,cx,cy,cw⟩,⟨⟨cv,cx,cy,cw⟩,dP,eE,eu,dB⟩,cg,bF,bR,bK,bO,bJ,⟨fQ,fT,fS,fP⟩,⟨⟨fQ,fT,fS,fP⟩,gJ,eE,eu,gF⟩,eN,cJ,dI,cB,dj,eG,dJ,⟨eW,eS,eY,eR⟩,⟨⟨eW,eS,eY,eR⟩,fY,eE,eu,gb⟩,dZ,cr,cY,ce,cQ,dF,cL,bL,⟨eV,eU,eT,eX⟩,⟨⟨eV,eU,eT,eX⟩,fX,eE,eu,gd⟩,dQ,ck,cR,cm,cZ,cM,⟨fb,eZ,e8,e9⟩,⟨⟨fb,eZ,e8,e9⟩,fZ,eE,eu,gA⟩,du,cj,cT,cu,cz,⟨dU,dW,dA,d4⟩,⟨⟨dU,dW,dA,d4⟩,fr,eE,eu,fF⟩,cV,bU,cI,cF,dO,⟨gk,gw,gn,gc⟩,dN,dh,bA,di,bX,bf,aQ,⟨gM,gE,gK,gD⟩,cO,df,cC,d7,⟨cc,b9,ci,cf⟩,bG,bB,aj,bz,aM,ao,af,be,aE,⟨gy,gj,gg,fW⟩,cq,dE,dk,bM,cE,bS,⟨cS,a6.n,cU,cX⟩,⟨ge,a8,gz,gq⟩,⟨fx,a11,fe,fo⟩,⟨fA,a12.n,fJ,fm⟩,⟨fh,a13,fH,fN⟩,⟨eD,a14.n,eC,eB⟩,⟨gx,i4.n,gm,gp⟩,⟨ft,kt.n,fL,fq⟩,⟨fG,g1.n,fj,fK⟩,⟨bT,i7.n,bW,bP⟩,⟨dq,dM,dS⟩,⟨dC,dr,d6⟩,⟨de,dg,dm⟩,⟨fu,fc,fB⟩,⟨fi.n,ba,fi.k⟩,⟨bs.n,aT,bs.k⟩,⟨az,aT,bs.k⟩,⟨ca.n,ax,ca.k⟩,⟨am,ax,ca.k⟩,⟨er.n,bZ,er.k⟩,⟨ff.n,al,ff.k⟩,⟨ct.n,bI,ct.k⟩,⟨aX,bI,ct.k⟩,⟨ea.n,bN,ea.k⟩,⟨d3.n,aA,d3.k⟩,⟨dz.n,b5,dz.k⟩,⟨ed.n,bw,ed.k⟩,⟨aS,aa,b0.k⟩,⟨aR,aa,b0.k⟩,⟨aL,aa,b0.k⟩,⟨ec.n,bh,ec.k⟩,⟨bi.n,aI,bi.k⟩,⟨dw.n,bE,dw.k⟩,⟨en.n,bu,en.k⟩,⟨bQ,aI,bi.k⟩,⟨bn.n,ar,bn.k⟩,⟨ag,ar,bn.k⟩,⟨b2.n,aU,b2.k⟩,⟨aC,aU,b2.k⟩,⟨dc.n,aN,dc.k⟩,⟨au,aN,dc.k⟩,⟨co.n,aF,co.k⟩,⟨av,aF,co.k⟩,⟨db.n,aD,db.k⟩,⟨aw,aD,db.k⟩,⟨bv.n,ay,bv.k⟩,⟨aq,ay,bv.k⟩,⟨bx.n,ai,bx.k⟩,⟨ac,ai,bx.k⟩,⟨bp.n,ah,bp.k⟩,⟨ae,ah,bp.k⟩,⟨dl.n,aO,dl.k⟩,⟨e3.n,aG,e3.k⟩,⟨ey.n,aJ,ey.k⟩,⟨ep.n,aH,ep.k⟩,⟨eq.n,aB,eq.k⟩,⟨fk.n,ak,fk.k⟩,⟨b6.n,bC,b6.k⟩,⟨aP,bC,b6.k⟩,⟨ch.n,bY,ch.k⟩,⟨bg,bY,ch.k⟩,⟨bd.n,aZ,bd.k⟩,⟨aK,aZ,bd.k⟩,⟨ew.n,bH,ew.k⟩,⟨aV,aY,aW⟩,⟨bo,bb,bj⟩,fy,eP,ef,et,dD,cH⟩
 exact⟨_,λs v=> .of_eq rfl,λbase _ _=>akT T⟩
def walk{l:PySem.W.OpenLaw}{q:Program}{aa:List Str}{XP:(Str->Option Value)->Heap->Prop}{YP:World->Heap->Prop}{d:DefRec}{K:Params->Fg_}(hn:l.most=some 63)(ab:d.params.defaults=[])
  (hY:∀(w:World)(h:Heap),YP w h->(K w.params).In h)
  (F:∀(w:World)(mg:Str->Option Value)(fa:Addr)(h:Heap),(K w.params).In h->h.Ns mainGlobals mg->mg d.name=some (.ref fa)->
   ∃fd:FuncData,(∀(s:Shared)(u:Value),BindsTo s fd ⟨[u],[]⟩ [("_law_script",u)])/\∀base:Heap,(K w.params).In base->base.Ns mainGlobals mg->jK l.prog w (K w.params) mg base CX0 12 fa fd ["_law_script"] (QH (K w.params))):
  PySem.W.WalkO q aa XP YP l.row.toRowW d [] (λf vs=>PySem.call f vs):=
 L2.walk_of (n:=63) (k:=12) (x:= "_law_script") (CX:=λ_=>CX0) (sp:=λw=>QH (K w.params)) hn (by decide) ab ⟨rfl,by decide,by decide⟩ hY F (λ_ _ a ns hl _ hS=>⟨a,ns,rfl,hS,hl,λ_=>rfl⟩) λ_ _ _ _ _ z=>z
end My
structure PySem.W.Fast:Prop where(tw5626495157781968517 tw14336820422877613938 tw941240907100675184 tw15492033796284405814 tw2344241601204034932 tw8259772964536314991 tw8992021268044654713 tw2496459891777710047 tw255898277959341454 tw9872367616277657530 tw17853840825181389278 tw1279296528205744543 tw8288320179321731994 tw17447083707669006722 tw13306346363350144405 tw1975998423898140633 tw6664665200616071972 tw3079055120193781935 tw10965676986095470652 tw6588786928197576096 tw6137858963117263080 tw17561745334942723602 tw10207041548938175607 tw12372223893690159397 tw7459839891254602217 tw17379636363068332805 tw3909382509223443165 tw14265669622334609645 tw9755809349255143918 tw9149168232911256367 tw532662926303439378 tw9906576942827153792 tw13888067031614810576 tw8191362287468001176 tw16995382893543458420 tw7268164935588557939 tw11561856681318470850 tw10250890190506135031 tw4149428139649176761 tw6214263981846600783 tw181601807587902278 tw4417977084569184216 tw4417071484456365122 tw6620769769584415656 tw11263586629294424161 tw3571077424991657411 tw14868138612271447553 tw15894192628415072363 tw2927248698505986568 tw4582750451298344127 tw13842202027823279898 tw63358553949623431 tw7010119123926801555 tw9731928272927261650 tw10027967938752865446 tw7031646732703104727 tw7662802932370965908 tw9994427686026954890 tw14558137251030403368 tw4858138792620634979 tw17978153856285640814 tw13931891263221995944 tw10499127155230702752 tw8496053812663153700 tw13535857942931933296 tw5478251791799923179 tw16029556428461659985 tw3666219986302808400 tw12878410600007437823 tw3082990976592423437 tw7074734788441004894 tw4389440454810851280 tw15895149959349500170 tw8808677815183683135 tw3960977994177666240 tw5117676382071405365 tw14594453883086246014 tw14297921267292097495 tw17363906882471409674 tw13740051629156583922 tw18292860878850133606 tw11961846921463675701 tw727160884346495759 tw2797807633487401134 tw14287844474861955783 tw14227850626182907944 tw3481916447892283475 tw6813871590882584852 tw9534939210820259890 tw10176478635016944809 tw7861281654309296064 tw4805781146221001079 tw18303681568675009187 tw1492629815099289290 tw13126045919064558202 tw57833930259798074 tw1327010557812847492 tw8898013756887296803 tw6379127443595118595 tw5156852151665739459 tw2744860270325201422 tw650447297668241960 tw11717290362836036389 tw8999388889371350566 tw4026118005599222265 tw12277299671369211532 tw11753268771098470920 tw10384148149040875629 tw4103311782934203456 tw3608026520437966163 tw17109037488387782383 tw8387099555796518443 tw5873740429105480726 tw14823952029798394161 tw964994077974436567 tw7485716250610905638 tw14104381928951923051 tw12585589499948229798 tw6534958662964530596 tw6427090109243793072 tw1287370063262491288 tw3878488357430548099 tw2739563941250046386 tw13315423347695722269 tw4036302727365387597 tw441130755776959354 tw17409345733530700067 tw16387487175785984699 tw11722801099055703720 tw721887059608866064 tw6963016726609026914 tw147034941081154453 tw8804545658657982842 tw4448100463070178324 tw3010318510121566752 tw16333658634007686696 tw17783559887706799000 tw15196542958491043151 tw4565518341064719578 tw10542834598474954478 tw16605136793590804525 tw18071941730093351150 tw14602242846223085896 tw5777232250074814436 tw12510243583622694676 tw11146068660301096365 tw7989663855050848845 tw3220603419495992509 tw7260769562709070088 tw13472835777694125987 tw14133712929973372441 tw6110572822761471289 tw1900323662411926778 tw51613005176963184 tw16785285901008675682 tw18103811127832467780 tw5318787078899220186 tw6532382312415225045 tw5346503842456093945 tw16081259342711136155 tw8046378119405694517 tw17588562568545575697 tw7508609350966010318 tw14040452943828239296 tw8579712897819385481 tw8711277284451830140 tw13358802219711365428 tw17718191662418308551 tw2307660568785794587 tw10528113822475660012 tw12311075983886453955 tw6272451025347339635 tw8029428850331559430 tw9757959617321383309 tw7481993394604052189 tw16187834813870969104 tw15194802804346351472 tw10502962662450888044 tw8036238038208566112 tw1201747490593758929 tw2002526804864771782 tw14192222012664696382 tw8829419569538060855 tw17050176902664852210 tw8135905126263326088 tw12757560272846976492 tw14866544954654368783 tw16723462081249946731 tw14636377960743260411 tw8506328165795029179 tw13343033130661654645 tw3647688922923715751 tw15965467222434746781 tw7729825715643619118 tw3390443730658545600 tw18306276047085285387 tw3513177583989524972 tw2835243464565149406 tw1364288074476763370 tw13358319928279083646 tw4863984482734405712 tw3025238658312618089 tw2797001620620674792 tw12599968279858964514 tw6828671203145796791 tw1451054445694102605 tw5712642062202271415 tw10514647776483004417 tw8702557705443416444 tw9309488523911047954 tw268918602765607612 tw14146216771898532789 tw7419568349114954140 tw4899904379593454197 tw14252538403257010158 tw5659287537135493370 tw3377778464739832106 tw3752683404300922402 tw18028719545694116876 tw8902785025967588860 tw13860340304037404336 tw3794617177430042326 tw13260488168495578520 tw11662703170244313877 tw4065304903923945371 tw12123832329259580605 tw12157348938923600863 tw8856759802609742593 tw18432591377684097819 tw16886220520976894439 tw11660210200333339516 tw3978930125280559585 tw3013162066073836491 tw9445964261065283980 tw11059975130542232377 tw17219960250791583795 tw17233077521936316399 tw15349611724101149004 tw11126106396374946699 tw13493009201611141597 tw1825905616528449319 tw12205371558560917921 tw138968665019670434 tw7140515018745029941 tw17510585892041255159 tw5157914031950129766 tw18423306533085212360 tw6088675369618044487 tw16052135252019146459 tw15146476977328214321 tw1353811691564822384 tw2931545568674278620 tw18341331720678479732 tw14910744095233732227 tw18040359622028108897 tw15372125875212287861 tw6031660807584255663 tw11064469456598913388 tw16476537076417531905 tw11295672102776491185 tw4643917941845677829 tw13198081735411535930 tw2716645248937415408 tw16929727936596054844 tw6368440625247142819 tw14695732614484948196 tw17190430731887939382 tw2346905189031268744 tw17703746426013579182 tw17259079400822010895 tw14151683617475875429 tw17729006865497319056 tw13254343042148889526 tw10753915389895507754 tw5614711568741325550 tw202840082258970589 tw6524694686102715038 tw9982792646596614998 tw9545972195925326271 tw9918224378982300173 tw4553322880762076417 tw11000971843147027715 tw2798704288595682376 tw13117584761135101828 tw15886569318403991824 tw12219891504811331180 tw10959480704757348768 tw18022591222210051113 tw5164504690117084390 tw1030083985296666841 tw6885795265331349833 tw5876503158020065682 tw15384822956051660443 tw833947279595767857 tw14058875880501203216 tw9543879068185843746 tw6922305205581844063 tw13781904534595397253 tw14049188881732613763 tw10270517530615509349 tw1999682750147352384 tw69876602175320076 tw13581233049706485891 tw9615364427061869127 tw3450561833464714036 tw9212588058934174163 tw10633810733799139943 tw2072557332435885138 tw18095417308993384896 tw4407505339370703862 tw11850460017534235680 tw420658995993388723 tw17854313783917087055 tw9823196377276181570 tw15950192512691207947 tw10335526914511998647 tw5009503583828548064 tw13817708614498518326 tw3259370792156777421 tw14375050007210497559 tw4177669665014243580 tw16852926721379975717 tw9415644381575792520 tw12670142566768946716 tw13304760523176556305 tw16740736947021423463 tw1067447384961631410 tw10533899900384391268 tw1563414758616027351 tw7587255186576067581 tw15285423533425122607 tw5005190185250677730 tw13252208201802144901 tw15181489648379072807 tw11709489399461538113 tw10385772486769726800 tw1612574583517229577 tw9183296240580632509 tw3993424533202580026 tw687026704769372608 tw3505686664004493522 tw5581177491598920848 tw16513827200744234244 tw12945821720076947259 tw17307014950143631898 tw973674846190825700 tw483005143335702258 tw17704800520629319335 tw10766162984698415068 tw16524659923618314142 tw14908480205741662564 tw1106250467270517519 tw11870715983794997586 tw15581291629796329016 tw13393826495395017958 tw10747369021862179056 tw14616154782662270409 tw15849388964099186399 tw677225624566738682 tw11698922528041891262 tw15490492636324221 tw6906357757577337471 tw5328830664048385999 tw6468788121886214041 tw9845687906673535672 tw2286998813485813752 tw14914758896193136313 tw17191547977736929174 tw9350894550739003240 tw7572436284410626159 tw7071864391759982902 tw11128256892600686839 tw7725794645969474408 tw15144427930761790547 tw10750441647561890472 tw14204766032693030375 tw10038582816459455735 tw14956641549608330230 tw1218504846509373176 tw9540924818181336483 tw16269303332210321917 tw1693286889803216798 tw11825299760012641957 tw5244848073062939772 tw3309335250440983647 tw12610558645874170385 tw15563940192286620084 tw2839330958762801282 tw560803336717197251 tw17472672948415756693 tw13367507532395327849 tw13458434585753236952 tw5272854933018342843 tw6074038400176870761 tw7078941316100094847 tw9587497627149366277 tw13357596473288687812 tw16906005894238072464 tw14884537745796205081 tw17380393806639495239 tw79861168581814665 tw2939397727468588031 tw4891665016401824410 tw1709215237752499421 tw2488827706740783872 tw8926025604119178862 tw7134042696447646292 tw4726799867634127140 tw15173142366160728737 tw2537065329392013598 tw4424835932697237527 tw11694123286354583324 tw13528998752841718982 tw13114074332064310758 tw8419423776590902935 tw15007205456296475518 tw12846696604049983143 tw10670390469744637346 tw177132288170196008 tw2787101111274870435 tw963739153449758663 tw546379779562676737 tw14483171894926934266 tw17137865770940542176 tw2718579871341969328 tw1516795621468240976 tw7715403427957832515 tw8953787350951876617 tw3340715517757539075 tw3999732133712158330 tw6423940748580601844 tw1719139897112917321 tw9605507080754148634 tw16689841992429756080 tw10009866772659211847 tw8044237513754621871 tw11825633830391721460 tw4068208128983565047 tw325731430923701235 tw4183190125562749861 tw273737981519216094 tw14568496924952739574 tw18053357573866400867 tw16996297151654964805 tw10627620219777920284 tw10610727099003476323 tw14121329281019228081 tw4269136346411157771 tw6225986009851595647 tw1168103111159774254 tw8145508730854317124 tw7672616902503053168 tw2511773925633968602 tw15692363450719558057 tw5009584765285360289 tw8962491301143566608 tw14022166534880832376 tw2531445162414498551 tw8968962595808629432 tw12129995689604517366 tw9867442673495165351 tw7542139451096834413 tw1505804943578318758 tw12823143269111221917 tw2584925965058646277 tw10789441051992885912 tw9401761541813712926 tw382725065260466815 tw11540229059883942327 tw1022683763824264805 tw17585716470878406544 tw939844434040722007 tw1742921133641156539 tw9155030334985271398 tw13108459615019083404 tw17462381392694526106 tw5814394992217156122 tw14546258880464682521 tw16811560406030670860 tw10542625766684620014 tw16048505204575469361 tw3340972292056654536 tw6957965516645160884 tw2999759490911290150 tw4091417104815618291 tw608600174053102697 tw1149766662885474046 tw272566436833769574 tw1358310721591365827 tw8571022670296119233 tw4878352948871572795 tw10854144294731907863 tw14246598358379045265 tw824744746657477839 tw13057972133347594320 tw10965267094439596064 tw8276602277120180085 tw10362022346261839092 tw6510538898501570028 tw3707498860496708612 tw14140470521356572740 tw2534899593045378479 tw7079971250312501974 tw10784969822674427885 tw11606361187318797276 tw7177180559843715145 tw2853257389529825650 tw2416370279813979857 tw11980231279294145507 tw14336266716074589313 tw2840538623705862840 tw2581500399846209746 tw13980167851205655518 tw16016788491760973091 tw9508738719323882237 tw3164035864907910529 tw15744492348053860807 tw14091275666772229629 tw13780492204235699196 tw7920360354341735145 tw18139935929085059067 tw12771848719447173009 tw5159998627513789366 tw9291089253414017363 tw8057910935391645129 tw11814686499190362101 tw11655377308848944517 tw6385063380243574016 tw4600152636039218517 tw4348481158021394710 tw16329058437924742921 tw15195794622468866478 tw7772038546908963975 tw10587691085622093484 tw13669578223228309242 tw8460523104841071452 tw744813340595502141 tw14007227319027173071 tw15174356411756108208 tw11161019680315752945 tw18229824572276133352 tw7877890266798366420 tw12455407979794178016 tw11664571667092360539 tw1255534265414915460 tw15854778469335420692 tw7836476325464507987 tw7414573374231221399 tw13059689800770202734 tw12173486892526150370 tw4633796413453716024 tw14370806773606347114 tw18076570445512923305 tw8464389501549430041 tw4157496834759692300 tw15279799503056523232 tw7131708024305746106 tw204893360495558376 tw1793343980574269966 tw17328677386321375625 tw2431178299946887937 tw541801778240292816 tw15608954228883307327 tw1205965586485036787 tw4892282995793905477 tw17751555164866292419 tw1048692112998310498 tw6489448861526983121 tw8338089782575138005 tw8850661507354045187 tw8750886564839679309 tw12737322456516318291 tw9198392355018555644 tw13834534603793925393 tw123312133554885446 tw5431498603134761776 tw8762952518113092633 tw14035334971052455552 tw13370259278239987706 tw7881442681819002266 tw15461480777240311179 tw4035685295592306179 tw15824050084036589890 tw5850218424085466995 tw7239646863759551220 tw3847461889879582226 tw13749979244679227180 tw13209276741951475975 tw7822319584408845683 tw3109168099327263376 tw9455365195039477459 tw7529617315534884588 tw5298153859982193920 tw10897000077756263893 tw1335920770009432287 tw16830388840026478833 tw3696724153308876732 tw14686122065041642446 tw13524161717684788582 tw9401678626964178708 tw12508969312757507706 tw8831758103706536054 tw17067165152101308760 tw3880339311194342 tw8058518114328872448 tw10526112206165463434 tw4740599348531611295 tw1788380655867720971 tw14798763272292406422 tw7250979564133704858 tw8045462383702307913 tw1777764445147844045 tw11438793020399134171 tw916171141228839663 tw8421054829973050551 tw15643489545038135456 tw5699313799798043158 tw8905954003110299053 tw12359950722415539418 tw15749093159603656657 tw10194178206417640639 tw5063344336975814113 tw6210499948702971949 tw1933556784821135459 tw847976166288480388 tw10975717140163432058 tw3325919427064422123 tw14318067026817373596 tw5388717528677273220 tw4427773008674028003 tw16860800020232209612 tw10265329212054978410 tw1536316279191279669 tw3502958805223950636 tw10476129931299312495 tw15171221139934280558 tw10959330254154108956 tw15446093039286835561 tw7549054654116172093 tw17759014905350076229 tw13809253637142187122 tw5413054366534650624 tw10572421756802385649 tw5981709030021748645 tw6236889181471297073 tw3895525085675410126 tw14290253990990932097 tw5586139974814633298 tw1480892259148633935 tw15542890944116693491 tw12234482859477493601 tw8092643311886091624 tw14435826259745059969 tw9416213774934271433 tw381649677898433579 tw497186593382728048 tw8091462571475276032 tw18185222277312482521 tw5011586011193979898 tw16160771732182537054 tw11089236066853047717 tw14980576969735508425 tw15543669931158865926 tw6720912936266402171 tw4374152874861508210 tw734132622156147912 tw1962153070579719445 tw3667409861091513393 tw8484451194767698762 tw5302125551340401704 tw2410269099883772659 tw4721725677457617743 tw7817105842610336455 tw5964102453682674508 tw10017108755995874152 tw3957061250398511049 tw2894120621699134790 tw748046994613378692 tw18411974081466234917 tw10368934824706213327 tw10747433297014339554 tw7983452720364402290 tw14057481487086437242 tw18047789172886039885 tw16468113297897607934 tw2162930701441604999 tw9337281599725967359 tw12594235863838178521 tw4686536796228174468 tw9363264064036834789 tw5715878612115708247 tw7507769732075392385 tw15600748617190722764 tw1183746392550217392 tw10589892234226539445 tw2876921728291131189 tw8086219313539776119 tw8010122815072410126 tw17682192564359851969 tw9869671717167301613 tw14763575631523120058 tw6564853541485681862 tw14051094360936645765 tw4397072958177584087 tw8664084870628666062 tw7725544522305063437 tw3727553648886640665 tw8716114558656736468 tw7618940924460505472 tw4828773363418160773 tw465988769008291870 tw17648761375899675037 tw4989039705211009951 tw17895424536517900854 tw2777221414484403982 tw8061951916856411269 tw5569034432530078812 tw15752398980341554045 tw16862650864121478424 tw13985872779094953799 tw6163312335764460576 tw6280781938036101746 tw5469869469888980154 tw7429614488075793771 tw16091634527568342636 tw15909754918197823074 tw17041956044430477189 tw14653647399850333234 tw15689508686652253838 tw2962508482988152603 tw6192296251996369317 tw10871862613681103618 tw14923260679452163875:True)
open PySem PySem.W PyProof.Rows
set_option maxRecDepth 100000 in
set_option maxHeartbeats 0 in
theorem PySem.Challenge.cw_lotledger_k66_gains_by_days_holds : PySem.Challenge.rw_lotledger_k66_gains_by_days.Holds := by
 w_on;o_law;k_head;(case hw=>w_witness2)
 k_fill
 refine My.walk (l:=PySem.Challenge.rw_lotledger_k66_gains_by_days) rfl rfl (λw h Y=>PySem.W.kIn_of Y) ?F
 case F=>
  intro w mg fa h KX G hmg;refine' My.all_mk KX G hmg ?fD ?fM ?eF ?gI ?gi ?eA ?gR ?gO ?gG ?gL ?gr ?gB ?gY ?cP ?gP ?ie ?gQ ?a0 ?a1 ?a2 ?a3 ?a4 ?a5 ?a6 ?a7 ?a8 ?l8 ?d8 ?k8 ?lt8 ?a9 ?a10 ?a11 ?l11 ?d11 ?k11 ?ib ?a12 ?a13 ?l13 ?d13 ?k13 ?hX ?a14 ?a15 ?a16 ?a17 ?a18 ?a19 ?a20 ?a21 ?a22 ?a23 ?a24 ?a25 ?a26 ?a27 ?a28 ?a29 ?a30 ?a31 ?a32 ?a33 ?a34 ?a35 ?a36 ?a37 ?a38 ?a39 ?a40 ?a41 ?a42 ?a43 ?a44 ?a45 ?a46 ?a47 ?a48 ?a49 ?a50 ?a51 ?a52 ?a53 ?a54 ?a55 ?a56 ?a57 ?a58 ?a59 ?a60 ?a61 ?a62 ?a63 ?a64 ?a65 ?a66 ?a67 ?a68 ?a69 ?a70 ?a71 ?a72 ?a73 ?a74 ?a75 ?a76 ?a77 ?a78 ?a79 ?a80 ?a81 ?a82 ?a83 ?a84 ?a85 ?a86 ?a87 ?a88 ?a89 ?a90 ?a91 ?a92 ?a93 ?a94 ?a95 ?a96 ?a97 ?a98 ?a99 ?fz ?fw ?fC ?fE ?eL ?cK ?gX ?gN ?hJ ?gU ?g9 ?gC ?fg ?gZ ?gW ?hU ?gH ?gS ?dG ?cW ?gl ?gT ?bV ?dL ?b7 ?cD ?b8 ?cN ?d5 ?bD ?cG ?eE ?eu ?eQ ?eJ ?eI ?eh ?eg ?ek ?eO ?eK ?dY ?dX ?dR ?dH ?fU ?fV ?gf ?gt ?cv ?cx ?cy ?cw ?dP ?dB ?cg ?bF ?bR ?bK ?bO ?bJ ?fQ ?fT ?fS ?fP ?gJ ?gF ?eN ?cJ ?dI ?cB ?dj ?eG ?dJ ?eW ?eS ?eY ?eR ?fY ?gb ?dZ ?cr ?cY ?ce ?cQ ?dF ?cL ?bL ?eV ?eU ?eT ?eX ?fX ?gd ?dQ ?ck ?cR ?cm ?cZ ?cM ?fb ?eZ ?e8 ?e9 ?fZ ?gA ?du ?cj ?cT ?cu ?cz ?dU ?dW ?dA ?d4 ?fr ?fF ?cV ?bU ?cI ?cF ?dO ?gk ?gw ?gn ?gc ?dN ?dh ?bA ?di ?bX ?bf ?aQ ?gM ?gE ?gK ?gD ?cO ?df ?cC ?d7 ?cc ?b9 ?ci ?cf ?bG ?bB ?aj ?bz ?aM ?ao ?af ?be ?aE ?gy ?gj ?gg ?fW ?cq ?dE ?dk ?bM ?cE ?bS ?cS ?cU ?cX ?ge ?gz ?gq ?fx ?fe ?fo ?fA ?fJ ?fm ?fh ?fH ?fN ?eD ?eC ?eB ?gx ?gm ?gp ?ft ?fL ?fq ?fG ?fj ?fK ?bT ?bW ?bP ?dq ?dM ?dS ?dC ?dr ?d6 ?de ?dg ?dm ?fu ?fc ?fB ?ba ?aT ?az ?ax ?am ?bZ ?al ?bI ?aX ?bN ?aA ?b5 ?bw ?aS ?aa ?aR ?aL ?bh ?aI ?bE ?bu ?bQ ?ar ?ag ?aU ?aC ?aN ?au ?aF ?av ?aD ?aw ?ay ?aq ?ai ?ac ?ah ?ae ?aO ?aG ?aJ ?aH ?aB ?ak ?bC ?aP ?bY ?bg ?aZ ?aK ?bH ?aV ?aY ?aW ?bo ?bb ?bj ?fy ?eP ?ef ?et ?dD ?cH
  (case fD|fM|eF|gI|gi|eA|gR|gO|gG|gL|gr|gB|gY|cP|gP|ie|gQ=>k_is)
  (case a0|a1|a2|a3|a4|a5|a6|a7=>constructor;rfl;refine⟨?_,?_,?_,?_⟩<;>k_is)
  (case a8|l8|d8|k8|lt8=>k_is)
  (case a9|a10=>constructor;rfl;refine⟨?_,?_,?_,?_⟩<;>k_is)
  (case a11|l11|d11|k11|ib=>k_is)
  (case a12=>constructor;rfl;refine⟨?_,?_,?_,?_⟩<;>k_is)
  (case a13|l13|d13|k13|hX=>k_is)
  (case a14|a15|a16|a17|a18|a19|a20|a21|a22|a23|a24|a25|a26|a27|a28|a29|a30|a31|a32|a33|a34|a35|a36|a37|a38|a39|a40|a41|a42|a43|a44|a45|a46|a47|a48|a49|a50|a51|a52|a53|a54|a55|a56|a57|a58|a59|a60|a61|a62|a63|a64|a65|a66|a67|a68|a69|a70|a71|a72|a73|a74|a75|a76|a77|a78|a79|a80|a81|a82|a83|a84|a85|a86|a87|a88|a89|a90|a91|a92|a93|a94|a95|a96|a97|a98|a99|fz|fw|fC|fE=>constructor;rfl;refine⟨?_,?_,?_,?_⟩<;>k_is)
  (case eL=>refine⟨?_,?_,?_,?_⟩<;>k_is)
  (case cK|gX|gN|hJ|gU|g9|gC|fg|gZ|gW|hU|gH|gS|dG|cW|gl|gT|bV|dL|b7|cD|b8|cN|d5|bD|cG|eE|eu|eQ|eJ|eI|eh|eg|ek|eO|eK|dY|dX|dR|dH|fU|fV|gf|gt|cv|cx|cy|cw|dP|dB|cg|bF|bR|bK|bO|bJ|fQ|fT|fS|fP|gJ|gF|eN|cJ|dI|cB|dj|eG|dJ|eW|eS|eY|eR|fY|gb|dZ|cr|cY|ce|cQ|dF|cL|bL|eV|eU|eT|eX|fX|gd|dQ|ck|cR|cm|cZ|cM|fb|eZ|e8|e9|fZ|gA|du|cj|cT|cu|cz|dU|dW|dA|d4|fr|fF|cV|bU|cI|cF|dO|gk|gw|gn|gc|dN|dh|bA|di|bX|bf|aQ|gM|gE|gK|gD|cO|df|cC|d7|cc|b9|ci|cf|bG|bB|aj|bz|aM|ao|af|be|aE|gy|gj|gg|fW|cq|dE|dk|bM|cE|bS|cS|cU|cX|ge|gz|gq|fx|fe|fo|fA|fJ|fm|fh|fH|fN|eD|eC|eB|gx|gm|gp|ft|fL|fq|fG|fj|fK|bT|bW|bP|dq|dM|dS|dC|dr|d6|de|dg|dm|fu|fc|fB|ba|aT|az|ax|am|bZ|al|bI|aX|bN|aA|b5|bw|aS|aa|aR|aL|bh|aI|bE|bu|bQ|ar|ag|aU|aC|aN|au|aF|av|aD|aw|ay|aq|ai|ac|ah|ae|aO|aG|aJ|aH|aB|ak|bC|aP|bY|bg|aZ|aK|bH|aV|aY|aW|bo|bb|bj=>k_is)
  (case fy|eP|ef|et|dD|cH=>refine⟨?_,?_,?_,?_,?_⟩<;>kit_is)
