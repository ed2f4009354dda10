import PyProof.Rows.All
import Wide.FinOn
import OpenK.KSplit
import KE.KSortTup
import KE.KDictOf
import KE.RegKIsAll
import KE.KEqDict
import KE.KRevIter
import PySem.Challenge.RW_lotledger_k65_rows_of_gains
set_option Elab.async false
set_option linter.all false
set_option compiler.extract_closed false
set_option maxRecDepth 100000
set_option maxHeartbeats 4000000
local macro_rules | `(tactic| walk_at "o") => `(tactic| first | exact Or.inl rfl | exact Or.inr (Or.inl rfl) | exact Or.inr (Or.inr rfl))
local macro_rules | `(tactic| walk_at "p") => `(tactic| first | exact .inl rfl | exact .inr rfl | assumption)
noncomputable section
abbrev Fg_:=PySem.W.Frag
def za:= @List.length_map
def zb:= @PySem.Heap.get?_push_of_some
def zc:= @PySem.wpAny_bind
def zd:= @List.getElem?_map
def ze:= @if_neg
def zf:= @List.size_toArray
def zg:= @Nat.le_refl
def zh:= @List.getElem?_eq_getElem
def zi:= @List.mem_map
def zj:= @List.mem_cons_self
def zk:= @List.getElem?_eq_some_iff
def zl:= @List.map_cons
def zm:= @List.mem_of_getElem?
def zn:= @List.not_mem_nil
def zo:= @if_pos
def zp:= @List.mem_cons_of_mem
def zq:= @PySem.sizeLine_eq
def zr:= @PySem.Heap.lt_size
def zu:= @List.mem_cons
def zv:= @List.map_append
def zw:= @Option.some.inj
def zx:= @List.map_map
def zy:= @PySem.wpAny_pure
def zA:= @List.length_append
def zB:= @PySem.Heap.get?_push_size
def zC:= @List.mem_singleton
def zD:= @Nat.ne_of_lt
def zE:= @decide_eq_true
def zF:= @List.mem_append_right
def zG:= @Nat.lt_of_lt_of_le
def zH:= @PySem.F.plainAttrs_list
def zI:= @decide_eq_false
def zJ:= @Nat.zero_le
def zK:= @List.mem_append
def zL:= @List.length_cons
def zM:= @Bool.false_ne_true
def zN:= @List.take_add_one
def zO:= @List.sum_cons
def zP:= @List.nodup_cons
def zQ:= @PySem.PassesOwn.never
def zR:= @PySem.F.slot_list_append
def zS:= @PySem.F.type_list_append
def zT:= @List.take_of_length_le
def zU:= @List.length_take
def zV:= @Nat.le_trans
def zW:= @List.pairwise_map
def zX:= @List.getElem?_eq_none
def zY:= @Int.emod_lt_of_pos
def zZ:= @List.getElem_of_mem
def z0:= @List.take_length
def z3:= @PySem.Paired.length
def z4:= @Array.length_toList
def z5:= @List.append_nil
def z6:= @Int.emod_nonneg
def z7:= @List.getElem?_append_right
def z8:= @of_decide_eq_true
def z9:= @List.getElem?_append_left
def ya:= @Nat.lt_irrefl
def yb:= @PySem.Heap.get?_update_ne
def yc:= @PySem.wpAny_mono
def yd:= @PySem.F.plainAttrs_dict
def ye:= @List.filter_append
def yf:= @PySem.wpAny_Call_Name_kw
def yh:= @PySem.W.kia_one
def yi:= @PySem.wpAny_holding
def yj:= @List.map_congr_left
def yk:= @List.length_filter_le
def ym:= @Nat.le_succ
def yn:= @List.filter_cons_of_pos
def yo:= @List.filter_cons_of_neg
def yp:= @PySem.Heap.get?_update_other
def yq:= @List.mem_range
def yr:= @PySem.wpAny_truthy_bool
def yt:= @List.length_pos_iff
def yu:= @List.pairwise_iff_getElem
def yv:= @PySem.F.slot_dict_get
def yw:= @List.length_drop
def yx:= @Nat.lt_of_le_of_lt
def yy:= @Nat.le_add_right
def yz:= @List.any_eq_true
def yA:= @Bool.false_eq_true
def yB:= @List.mem_filter
def yC:= @Nat.ne_of_gt
def yD:= @List.getElem_mem
def yE:= @List.getElem_map
def yF:= @Array.getElem?_toList
def yG:= @List.sum_append
def yH:= @List.mem_append_left
def yI:= @Nat.pow_le_pow_right
def yJ:= @PySem.wpAny_pyIter_list
def yK:= @Option.isSome_iff_exists
def yL:= @List.Pairwise.imp_of_mem
def yM:= @PySem.mem_of_lookup
def yN:= @List.take_append_of_le_length
def yO:= @PySem.F.entry_dict_get
def yP:= @PySem.call_meetsIn
def yQ:= @Bool.eq_iff_iff
def yR:= @List.find?_cons
def yS:= @List.length_nil
def yT:= @List.cons.inj
def yU:= @List.length_singleton
def yV:= @List.take_append_drop
def yW:= @List.append_assoc
def yX:= @List.ext_getElem?
def yY:= @List.nodup_append
def yZ:= @List.Sublist.refl
def y0:= @PySem.wpAny_newObj_type
def y4:= @Sum.inr.inj
def y6:= @List.mem_of_mem_take
def y8:= @List.getElem?_of_mem
def y9:= @PySem.wpAny_tryCatch
def zza:= @List.map_nil
def zzb:= @PySem.wpAny_call_entry
def zzc:= @Array.getElem?_eq_getElem
def zzd:= @List.filter_eq_self
def zze:= @PySem.F.slot_dict_values
def zzf:= @List.sublist_append_left
def zzg:= @PySem.F.slot_list_extend
def zzh:= @PySem.F.type_list_extend
def zzi:= @List.foldl_cons
def zzj:= @List.nil_append
def zzk:= @PySem.wpAny_passesOwn
def zzl:= @PySem.W.callWith_K
def zzm:= @List.zip_cons_cons
def zzn:= @PySem.F.slot_dict_items
def zzo:= @List.getElem?_set_self
def zzp:= @PySem.Heap.size_push
def zzq:= @Bool.and_false
def zzr:= @Option.map_eq_some_iff
def zzs:= @List.getElem?_inj
def zzt:= @List.drop_of_length_le
def zzu:= @List.flatMap_cons
def zzv:= @PySem.Heap.get?_update_self
def zzw:= @PySem.F.slot_dict_pop
def zzx:= @PySem.W.methodCall_KW
def zzy:= @List.getElem?_toArray
def zzz:= @Nat.lt_succ_self
def zzA:= @Bool.and_eq_true
def zzB:= @List.cons_append
def zzC:= @List.ext_getElem
def zzD:= @Nat.succ_le_succ
def zzE:= @PySem.wpAny_newList
def zzF:= @List.getElem?_set_ne
def zzG:= @Option.map_some
def zzH:= @PySem.wpAny_execs_nil
def zzI:= @List.filterMap_cons
def zzJ:= @PySem.W.plainGet_of
def zzK:= @Nat.lt_trans
def zzL:= @Bool.false_and
def zzM:= @Array.perm_iff_toList_perm
def zzN:= @List.getD_eq_getElem?_getD
def zzO:= @List.Nodup.sublist
def zzP:= @PySem.wpAny_seqItems
def zzQ:= @List.drop_eq_getElem_cons
def zzR:= @Sum.inl.inj
def zzS:= @Int.toNat_natCast
def zzT:= @Int.le_refl
def zzU:= @Nat.lt_succ_of_lt
def zzV:= @PySem.wpAny_Call_method
def zzW:= @PySem.wpAny_pyIter_slot
def zzX:= @PySem.wpAny_letGo
def zzY:= @PySem.wpAny_standAt
def zzZ:= @List.getElem_inj
def zz0:= @PySem.W.makes_of
def zz1:= @List.lookup_cons
def zz2:= @List.filter_cons
def zz3:= @PySem.Heap.size_update
def zz4:= @List.length_eq_zero_iff
def zz5:= @PySem.wpAny_eqBool_int
def zz6:= @Nat.le_of_lt
def zz7:= @Nat.le_of_eq
def zz8:= @Int.lt_trans
def zz9:= @Int.zero_add
def yya:= @List.filter_eq_nil_iff
def yyb:= @PySem.wpAny_call
def yyc:= @PySem.wpAny_typeOf
def yyd:= @PySem.call_meets
def yye:= @List.of_mem_zip
def yyf:= @List.filter_map
def yyg:= @PySem.wpAny_specialOf
def yyh:= @PySem.wpAny_updateSeq
namespace L2
open PySem PySem.Spec PyProof.Rows
abbrev Key:=Sum Int Str
noncomputable def Vp:Key->Value->Bool
 |.inl k,v=>Value.isInt k v
 |.inr x,v=>Value.isStrOf x v
noncomputable def amt(w:World):Key->Int
 |.inl k=>hashInt k
 |.inr x=>hashStr w x
def lH:∀{k:Key}{v:Value},Vp k v=true->(∃i t,k=Sum.inl i/\v=Value.int i t)\/(∃x t,k=Sum.inr x/\v=Value.str x t)
 |.inl i,v,h=>by
  obtain⟨t,e⟩:=Value.isInt_shape (k:=i) (v:=v) h;exact .inl ⟨i,t,rfl,e⟩
 |.inr x,v,h=>by
  obtain⟨t,e⟩:=Value.isStrOf_shape (x:=x) (v:=v) h;exact .inr ⟨x,t,rfl,e⟩
def YT(i:Int)(t:Tok):Vp (.inl i) (.int i t)=true:=by simp[Vp,Value.isInt]
def Xq(x:Str)(t:Tok):Vp (.inr x) (.str x t)=true:=by simp[Vp,Value.isStrOf]
def ajM(a b:Int):decide ((Sum.inl a:Key)=Sum.inl b)=(a==b):=by
 by_cases e:a=b
 ·subst e;simp
 ·have h:¬(Sum.inl a:Key)=Sum.inl b:=λq=>e (zzR q)
  rw[zI h];exact(beq_eq_false_iff_ne.mpr e).symm
def akn(a b:Str):decide ((Sum.inr a:Key)=Sum.inr b)=decide (a=b):=by
 by_cases e:a=b
 ·subst e;simp
 ·have h:¬(Sum.inr a:Key)=Sum.inr b:=λq=>e (y4 q)
  rw[zI h,zI e]
def akb(a:Int)(b:Str):decide ((Sum.inl a:Key)=Sum.inr b)=false:=zI (λq=>nomatch q)
def ajK(a:Str)(b:Int):decide ((Sum.inr a:Key)=Sum.inl b)=false:=zI (λq=>nomatch q)
noncomputable def jM(prog:Program)(w:World):PySem.KeyKind prog w Key where
 is:=Vp
 hash:=amt w
 inj:=λv a b ha hb=>by
  rcases lH ha with⟨i,t,rfl,rfl⟩|⟨x,t,rfl,rfl⟩
  ·rcases lH hb with⟨j,u,rfl,e⟩|⟨y,u,rfl,e⟩
   ·injection e with e1 _;rw[e1]
   ·exact nomatch e
  ·rcases lH hb with⟨j,u,rfl,e⟩|⟨y,u,rfl,e⟩
   ·exact nomatch e
   ·injection e with e1 _;rw[e1]
 byValue:=λk v h=>by
  rcases lH h with⟨i,t,rfl,rfl⟩|⟨x,t,rfl,rfl⟩<;>rfl
 pyHash:=λhv h=>by
  rcases lH hv with⟨i,t,rfl,rfl⟩|⟨x,t,rfl,rfl⟩
  ·exact wpAny_pyHash_int h
  ·exact wpAny_pyHash_str h
 eqBool:=λhu hv h=>by
  rcases lH hu with⟨i,t,rfl,rfl⟩|⟨x,t,rfl,rfl⟩
  ·rcases lH hv with⟨j,u,rfl,rfl⟩|⟨y,u,rfl,rfl⟩
   ·rw[ajM]at h;exact zz5 h
   ·rw[akb]at h;exact SeqAt.EqAt.int_str i t y u _ _ _ _ h
  ·rcases lH hv with⟨j,u,rfl,rfl⟩|⟨y,u,rfl,rfl⟩
   ·rw[ajK]at h;exact SeqAt.EqAt.str_int x t j u _ _ _ _ h
   ·rw[akn]at h;exact wpAny_eqBool_str h
 «strs»:=λk x t v h=>by
  rcases lH h with⟨i,u,rfl,e⟩|⟨y,u,rfl,e⟩
  ·exact nomatch e
  ·injection e with e1 _
   subst e1;cases v<;>rfl
def RK(prog:Program)(w:World)(i:Int)(t:Tok):(jM prog w).is (.inl i) (.int i t)=true:=YT i t
def Sq(prog:Program)(w:World)(x:Str)(t:Tok):(jM prog w).is (.inr x) (.str x t)=true:=Xq x t
end L2
namespace L2
open PySem PySem.Spec PyProof.Rows
inductive V where
 |non|bl (b:Bool)|int (i:Int)|str (x:Str)|byt (b:Array UInt8)|flt (b:UInt64)|ref (a:Addr)|ty (n:String)
 deriving DecidableEq
noncomputable def RelV:V->Value->Prop
 |.non,u=>u=Value.none
 |.bl b,u=>u=Value.bool b
 |.int i,u=>∃t,u=Value.int i t
 |.str x,u=>∃t,u=Value.str x t
 |.byt b,u=>∃t,u=Value.bytes b t
 |.flt b,u=>∃t,u=Value.float b t
 |.ref a,u=>u=Value.ref a
 |.ty n,u=>u=Value.type n
abbrev Vals:List V->List Value->Prop:=Paired RelV
theorem Vals.length{xs:List V}{us:List Value}(r:Vals xs us):xs.length=us.length:=z3 r
theorem Vals.get:∀{xs:List V}{us:List Value}{i:Nat}{x:V},Vals xs us->xs[i]? =some x->∃u,us[i]? =some u/\RelV x u
 |_,_,_,_,.nil,e=>by simp at e
 |_,_,0,_,.cons r _,e=>by simp at e;subst e;exact⟨_,rfl,r⟩
 |_,_,i+1,x,.cons _ t,e=>by
  obtain⟨u,h1,h2⟩:=Vals.get (i:=i) (x:=x) t (by simpa using e);exact⟨u,by simpa using h1,h2⟩
theorem Vals.set{x:V}{u:Value}(r:RelV x u):∀{xs:List V}{us:List Value}(i:Nat),Vals xs us->Vals (xs.set i x) (us.set i u)
 |_,_,_,.nil=> .nil
 |_,_,0,.cons _ t=> .cons r t
 |_,_,i+1,.cons q t=> .cons q (Vals.set r i t)
theorem Vals.append:∀{xs ys:List V}{us ws:List Value},Vals xs us->Vals ys ws->Vals (xs++ys) (us++ws)
 |_,_,_,_,.nil,s=>s
 |_,_,_,_,.cons r t,s=> .cons r (Vals.append t s)
theorem Vals.take:∀{xs:List V}{us:List Value}(n:Nat),Vals xs us->Vals (xs.take n) (us.take n)
 |_,_,0,_=> .nil
 |_,_,_+1,.nil=> .nil
 |_,_,n+1,.cons r t=> .cons r (Vals.take n t)
theorem Vals.drop:∀{xs:List V}{us:List Value}(n:Nat),Vals xs us->Vals (xs.drop n) (us.drop n)
 |_,_,0,r=>r
 |_,_,_+1,.nil=> .nil
 |_,_,n+1,.cons _ t=>Vals.drop n t
noncomputable def KQ:Option V->Option Value->Prop
 |some v,some u=>RelV v u
 |none,none=>True
 |_,_=>False
noncomputable def KV{κ:Type}:List (κ×V)->List (κ×Value)->Prop:=Paired fun(p:κ×V)(q:κ×Value)=>p.1=q.1/\RelV p.2 q.2
noncomputable def kV:Key->V
 |.inl i=> .int i
 |.inr x=> .str x
inductive HO where
 |lst (xs:List V)
 |tup (xs:List V)
 |dK (kvs:List (Key×V))|dT (kvs:List (List Key×V))
 |set (S:Int->Bool) (n:Nat)
 |ins (C dx:Addr) (fs:List (Str×V))
 |own (x:Addr)
 |xd (fs:List (Str×V))
 |met (f x:Addr)
 |rng (lo hi:Int)
 |frz (o:Obj) (u:HO)
 |tbl (ps:Array Value)
 |ext (φ:Heap->Prop)
abbrev Hp:=Addr->Option HO
noncomputable def upd(H:Hp)(a:Addr)(o:HO):Hp:=λb=>if b=a then some o else H b
def iH{H:Hp}{a:Addr}{o:HO}:upd H a o a=some o:=by unfold upd;rw[zo rfl]
def iU{H:Hp}{a b:Addr}{o:HO}(h:b≠a):upd H a o b=H b:=by unfold upd;rw[ze h]
def alM{H:Hp}{a b:Addr}{o u:HO}(h:H a=some o)(h':H b=some u)(d:o≠u):a≠b:=by
 intro e;subst e;rw[h]at h';exact d (zw h')
def jN{H:Hp}{a b:Addr}{o:HO}(h:H a=some o)(h':H b=none):a≠b:=by
 intro e;subst e;rw[h]at h';cases h'
section
variable(P:Program)(w:World)
noncomputable def mq(H:Hp)(h:Heap)(a:Addr):HO->Prop
 |.lst xs=>xs.length<=sizeLine/\∃(its:List Value)(n:Nat),Vals xs its/\h.get? a=some {cls:=.type "list",data:=.seq its.toArray n}
 |.tup xs=>xs.length<=sizeLine/\∃its:List Value,Vals xs its/\IsTup h a its.toArray
 |.dK kvs=>kvs.length<=sizeLine/\(a==sysModules)=false/\∃vs,KV kvs vs/\h.DictOf (jM P w) a vs
 | .dT kvs=>kvs.length<=sizeLine/\(a==sysModules)=false/\∃xs:List (List Key×Addr×Value),
   Paired (fun(p:List Key×V)(q:List Key×Addr×Value)=>p.1=q.1/\H q.2.1=some (.tup (p.1.map kV))/\RelV p.2 q.2.2) kvs xs/\
   ∃o es ep,h.get? a=some o/\o.ExactDict/\o.data=.dict es ep/\es.toList=xs.map (entryOfKey (tupleKind (jM P w)))/\(xs.map (·.1)).Nodup
 |.set S n=>h.SetOf (intKind P w) a S n
 | .ins C dx fs=>H dx=some (.own a)/\fs.length<=1000/\dx≠a/\h.get? a=some (PySem.W.instObj C dx)/\
   ∃mA,h.Ns1 dx mA/\(∀f,KQ (fs.lookup f) (mA f))/\PySem.Within mA (fs.map (·.1))
 |.own _=>∃o,h.get? a=some o
 |.xd fs=>∃mA,h.Ns1 a mA/\∀f,KQ (fs.lookup f) (mA f)
 |.rng lo hi=>∃t u v,h.get? a=some {cls:=.type "range",data:=.fields #[.int lo t,.int hi u,.int 1 v]}
 |.frz o u=>h.get? a=some o/\mq H h a u
 |.tbl ps=>h.get? a=some {cls:=.none,data:=.fields ps}
 |.met f x=>h.get? a=some (PySem.W.methodObj (.ref f) (.ref x))
 |.ext φ=>φ h/\(∃o,h.get? a=some o)/\∀h1 h2:Heap,φ h1->(∀o,h1.get? a=some o->h2.get? a=some o)->φ h2
noncomputable def HOk(H:Hp)(h:Heap):Prop:=∀a o,H a=some o->mq P w H h a o
end
section
variable{P:Program}{w:World}{H H':Hp}{h h':Heap}{a:Addr}{o:HO}
theorem mq.lt(x:mq P w H h a o):a<h.objs.size:=by
 cases o with
 |lst xs=>obtain⟨_,_,_,_,e⟩:=x;exact zr e
 |tup xs=>obtain⟨_,_,_,p⟩:=x;exact p.lt
 |dK kvs=>obtain⟨_,_,_,_,o,_,_,e,_⟩:=x;exact zr e
 |dT kvs=>obtain⟨_,_,_,_,o,_,_,e,_⟩:=x;exact zr e
 |set S n=>obtain⟨o,_,_,_,e,_⟩:=x;exact zr e
 |ins C dx fs=>obtain⟨_,_,_,e,_⟩:=x;exact zr e
 |own y=>obtain⟨_,e⟩:=x;exact zr e
 |xd fs=>obtain⟨_,⟨_,_,_,e,_⟩,_⟩:=x;exact zr e
 |rng lo hi=>obtain⟨_,_,_,e⟩:=x;exact zr e
 |frz ob u=>obtain⟨e,_⟩:=x;exact zr e
 |tbl ps=>exact zr (show h.get? a=some _ from x)
 |met f y=>exact zr (show h.get? a=some _ from x)
 |ext φ=>obtain⟨_,⟨_,e⟩,_⟩:=x;exact zr e
theorem Paired.mapP{α β:Type}{F G:α->β->Prop}:∀{l₁:List α}{l₂:List β},Paired F l₁ l₂->(∀a b,F a b->G a b)->Paired G l₁ l₂
 |_,_,.nil,_=> .nil
 |_,_,.cons r t,f=> .cons (f _ _ r) (Paired.mapP t f)
def mq.stay(x:mq P w H h a o)(k:∀b u,(b=a\/H b=some (.own a))->h.get? b=some u->h'.get? b=some u)
  (ho:∀b,H b=some (.own a)->H' b=some (.own a)) (ht:∀b xs,H b=some (.tup xs)->H' b=some (.tup xs)):mq P w H' h' a o:=by
 induction o with
 |lst xs=>obtain⟨z,its,n,r,e⟩:=x;exact⟨z,its,n,r,k _ _ (.inl rfl) e⟩
 |tup xs=>obtain⟨z,its,r,ob,e,c⟩:=x;exact⟨z,its,r,ob,k _ _ (.inl rfl) e,c⟩
 |dK kvs=>obtain⟨z,y,vs,r,ob,es,ep,e,c⟩:=x;exact⟨z,y,vs,r,ob,es,ep,k _ _ (.inl rfl) e,c⟩
 |dT kvs=>
  obtain⟨z,y,xs,r,ob,es,ep,e,c⟩:=x;exact⟨z,y,xs,Paired.mapP r λp q z=>⟨z.1,ht _ _ z.2.1,z.2.2⟩,ob,es,ep,k _ _ (.inl rfl) e,c⟩
 |set S n=>obtain⟨ob,es,ep,t,e,c⟩:=x;exact⟨ob,es,ep,t,k _ _ (.inl rfl) e,c⟩
 |ins C dx fs=>
  obtain⟨d,z,ne,e,mA,⟨od,es,ep,e2,c⟩,r⟩:=x;exact⟨ho _ d,z,ne,k _ _ (.inl rfl) e,mA,⟨od,es,ep,k _ _ (.inr d) e2,c⟩,r⟩
 |own y=>obtain⟨ob,e⟩:=x;exact⟨ob,k _ _ (.inl rfl) e⟩
 |xd fs=>obtain⟨mA,⟨od,es,ep,e,c⟩,r⟩:=x;exact⟨mA,⟨od,es,ep,k _ _ (.inl rfl) e,c⟩,r⟩
 |rng lo hi=>obtain⟨t,u,v,e⟩:=x;exact⟨t,u,v,k _ _ (.inl rfl) e⟩
 |frz ob u ih=>obtain⟨e,q⟩:=x;exact⟨k _ _ (.inl rfl) e,ih q⟩
 |tbl ps=>
  have e:h.get? a=some {cls:=.none,data:=.fields ps}:=x;show h'.get? a=some {cls:=.none,data:=.fields ps};exact k a _ (.inl rfl) e
 |met f y=>
  have e:h.get? a=some (PySem.W.methodObj (.ref f) (.ref y)):=x;show h'.get? a=some (PySem.W.methodObj (.ref f) (.ref y));exact k a _ (.inl rfl) e
 |ext φ=>obtain⟨p,⟨o,e⟩,st⟩:=x;exact⟨st _ _ p λo q=>k _ _ (.inl rfl) q,⟨o,k _ _ (.inl rfl) e⟩,st⟩
theorem HOk.lt(x:HOk P w H h)(e:H a=some o):a<h.objs.size:=(x a o e).lt
def HOk.fresh(x:HOk P w H h)(e:h.objs.size<=a):H a=none:=by
 cases q:H a with
 |none=>rfl
 |some u=>exact absurd (zG (x.lt q) e) (ya _)
def HOk.kept(x:HOk P w H h)(k:∀b u,h.get? b=some u->h'.get? b=some u):HOk P w H h':=λa o e=>
 (x a o e).stay (λb u _ q=>k b u q) (λ_ q=>q) λ_ _ q=>q
def HOk.laid(x:HOk P w H h)(k:∀b u,h.get? b=some u->h'.get? b=some u)(hp:h.objs.size<=a)(z:mq P w (upd H a o) h' a o):HOk P w (upd H a o) h':=λb u e=>by
 have hn:=x.fresh hp;by_cases hb:b=a
 ·subst hb;rw[iH]at e;cases e;exact z
 ·rw[iU hb]at e
  exact(x b u e).stay (λc v _ q=>k c v q) (λc q=>by rw[iU (jN q hn)];exact q) λc xs q=>by rw[iU (jN q hn)];exact q
end
noncomputable def Rd(H:Hp)(a:Addr)(u:HO):Prop:=H a=some u\/∃o,H a=some (.frz o u)
def Rd.of{H:Hp}{a:Addr}{u:HO}(h:H a=some u):Rd H a u:=.inl h
def Rd.ok{P:Program}{w:World}{H:Hp}{h:Heap}{a:Addr}{u:HO}(r:Rd H a u)(x:HOk P w H h):mq P w H h a u:=by
 rcases r with r|⟨o,r⟩
 ·exact x a u r
 ·obtain⟨_,q⟩:=x a _ r
  exact q
noncomputable def Mut:Option HO->Prop
 |some (.lst _)=>True
 |some (.dK _)=>True
 |some (.dT _)=>True
 |some (.set _ _)=>True
 |some (.ins _ _ _)=>True
 |some (.ext _)=>True
 |_=>False
section
variable{P:Program}{w:World}{H:Hp}{h h':Heap}{x e:Addr}{o':HO}
def HOk.write(ok:HOk P w H h)(mu:Mut (H x))(he:e=x\/H e=some (.own x))(k:∀b u,b≠e->h.get? b=some u->h'.get? b=some u)(ad:∃u,h'.get? e=some u)
  (ae:mq P w (upd H x o') h' x o'):HOk P w (upd H x o') h':=λb u q=>by
 have ab:∀c y,H c=some (.own y)->c≠x:=λc y r z=>by subst z;rw[r]at mu;exact mu
 have ac:∀c xs,H c=some (.tup xs)->c≠x:=λc xs r z=>by subst z;rw[r]at mu;exact mu
 by_cases hb:b=x
 ·subst hb;rw[iH]at q;cases q;exact ae
 ·rw[iU hb]at q
  by_cases aa:b=e
  ·have q':H b=some (.own x):=by
    rcases he with z|z
    ·exact absurd (aa.trans z) hb
    ·rw[aa];exact z
   rw[q]at q';cases q';obtain⟨v,hv⟩:=ad;exact⟨v,by rw[aa];exact hv⟩
  ·refine(ok b u q).stay (λc v hc r=>k c v ?_ r) (λc r=>by rw[iU (ab c b r)];exact r) λc xs r=>by rw[iU (ac c xs r)];exact r
   rcases hc with rfl|hc
   ·exact aa
   ·rintro rfl
    rcases he with z|z
    ·exact ab c b hc z
    ·rw[hc]at z;cases z;exact hb rfl
end
structure Un(fs ex:List Addr)(H H':Hp)(h h':Heap):Prop where
 keep:∀b o,h.get? b=some o->H b=none->b∉fs->b∉ex->h'.get? b=some o
 slot:∀b o,h.get? b=some o->H b=none->b∈fs->b∉ex->∃sl,h'.get? b=some {o with slots:=sl}
 free:∀b o,h.get? b=some o->H b=none->b∉ex->H' b=none
 there:∀b o,h.get? b=some o->b∉ex->∃o',h'.get? b=some o'
 tups:∀b xs,H b=some (.tup xs)->H' b=some (.tup xs)
 frzs:∀b o u,H b=some (.frz o u)->H' b=some (.frz o u)
 tbls:∀b ps,H b=some (.tbl ps)->∃more,H' b=some (.tbl (ps++more))
section
variable{fs fs' ex ex':List Addr}{H H1 H2:Hp}{h h1 h2 h':Heap}{a x e:Addr}{o:HO}
def Un.any(u:Un fs ex H H1 h h1){b:Addr}{z:Obj}(q:h.get? b=some z)(n:H b=none)(hx:b∉ex):∃sl,h1.get? b=some {z with slots:=sl}:=by
 by_cases hb:b∈fs
 ·exact u.slot b z q n hb hx
 ·exact⟨z.slots,u.keep b z q n hb hx⟩
def Un.trans(a:Un fs ex H H1 h h1)(b:Un fs ex H1 H2 h1 h2):Un fs ex H H2 h h2 where
 keep:=λc ob q n hc z=>b.keep c ob (a.keep c ob q n hc z) (a.free c ob q n z) hc z
 slot:=λc ob q n hc z=>by
  obtain⟨sl,e1⟩:=a.slot c ob q n hc z;obtain⟨aa,e2⟩:=b.slot c _ e1 (a.free c ob q n z) hc z;exact⟨aa,e2⟩
 free:=λc ob q n z=>by
  obtain⟨o',e1⟩:=a.there c ob q z;exact b.free c o' e1 (a.free c ob q n z) z
 there:=λc ob q z=>by
  obtain⟨o',e1⟩:=a.there c ob q z;exact b.there c o' e1 z
 tups:=λc xs q=>b.tups c xs (a.tups c xs q)
 frzs:=λc ob xs q=>b.frzs c ob xs (a.frzs c ob xs q)
 tbls:=λc ps q=>by
  obtain⟨m1,e1⟩:=a.tbls c ps q;obtain⟨m2,e2⟩:=b.tbls c _ e1;exact⟨m1++m2,by rw[e2,Array.append_assoc]⟩
def Un.kept(k:∀b u,h.get? b=some u->h'.get? b=some u):Un fs ex H H h h':=
 ⟨λb z q _ _ _=>k b z q,λb z q _ _ _=>⟨z.slots,k b z q⟩,λ_ _ _ n _=>n,λb z q _=>⟨z,k b z q⟩,λ_ _ q=>q,λ_ _ _ q=>q,λ_ ps q=>⟨#[],by rw[q];simp⟩⟩
def Un.refl:Un fs ex H H h h:=Un.kept λ_ _ q=>q
def Un.laid(k:∀b u,h.get? b=some u->h'.get? b=some u)(z:h.objs.size<=a)(hn:H a=none):Un fs ex H (upd H a o) h h' where
 keep:=λb u q _ _ _=>k b u q
 slot:=λb u q _ _ _=>⟨u.slots,k b u q⟩
 free:=λb u q n _=>by rw[iU (zD (zG (zr q) z))];exact n
 there:=λb u q _=>⟨u,k b u q⟩
 tups:=λb xs q=>by rw[iU (jN q hn)];exact q
 frzs:=λb u xs q=>by rw[iU (jN q hn)];exact q
 tbls:=λb ps q=>⟨#[],by rw[iU (jN q hn),q];simp⟩
def Un.write(mu:Mut (H x))(he:e=x\/H e=some (.own x))(k:∀b u,b≠e->h.get? b=some u->h'.get? b=some u)(ab:∃u,h'.get? e=some u):Un fs ex H (upd H x o) h h':=by
 have hx:∀b,H b=none->b≠x:=λb n z=>by subst z;rw[n]at mu;exact mu
 have hb:∀b,H b=none->b≠e:=λb n z=>by
  subst z;rcases he with r|r
  ·exact hx b n r
  ·rw[n]at r;cases r
 have hm:∀b u,H b=some u->¬Mut (some u)->b≠x:=λb u q nm z=>by subst z;rw[q]at mu;exact nm mu
 refine ⟨λb u q n _ _=>k b u (hb b n) q,λb u q n _ _=>⟨u.slots,k b u (hb b n) q⟩,λb u q n _=>by rw[iU (hx b n)];exact n,λb u q _=>?_,
  λb xs q=>by rw[iU (hm b _ q λz=>z)];exact q,λb u xs q=>by rw[iU (hm b _ q λz=>z)];exact q,λb ps q=>⟨#[],by rw[iU (hm b _ q λz=>z),q];simp⟩⟩
 by_cases aa:b=e
 ·subst aa;exact ab
 ·exact⟨u,k b u aa q⟩
end
noncomputable def trk(h:Heap)(H:Hp):List Addr:=(List.range h.objs.size).filter λa=>(H a).isSome
noncomputable def ZR(h:Heap)(H:Hp):Heap:=PySem.W.hideAll h (trk h H)
def Yn(h:Heap)(H:Hp):(ZR h H).objs.size=h.objs.size:=PySem.W.hideAll_size _ _
def ZQ{h:Heap}{H:Hp}{b:Addr}{o:Obj}(e:h.get? b=some o)(n:H b=none):(ZR h H).get? b=some o:=
 PySem.W.hideAll_get _ e λhm=>by
  have q:(H b).isSome=true:=(yB.mp hm).2;rw[n]at q;simp at q
def aiR{h:Heap}{H:Hp}{b:Addr}{o:Obj}(e:(ZR h H).get? b=some o):h.get? b=some o/\H b=none:=by
 have e':h.get? b=some o:=PySem.W.of_hideAll (trk h H) e;refine⟨e',?_⟩
 cases q:H b with
 |none=>rfl
 |some x=>
  have hm:b∈trk h H:=yB.mpr ⟨yq.mpr (zr e'),by simp[q]⟩;have z:(ZR h H).get? b=none:=PySem.W.hideAll_none (trk h H) hm;rw[z]at e;cases e
noncomputable def ajs(g h:Heap)(L:Addr):List (Addr×Obj):=(List.range h.objs.size).filterMap λa=>if a=L\/(g.get? a).isSome=true then none else(h.get? a).map λo=>(a,o)
noncomputable def rest(g h:Heap)(L d:Addr):List (Addr×Obj):=(ajs g h L).filter λp=>decide (p.1≠d)
end L2
namespace L2
open PySem PySem.Spec PyProof.Rows
structure Mod(K:Fg_)(mg:Str->Option Value)(base:Heap):Prop where
 kin:K.In base
 glob:base.Ns mainGlobals mg
 blt:∃mb,base.Ns builtinsNs mb/\∀x:Str,x≠ "__name__" ->mb x=bootBuiltins x
 nolimit:base.NoLimit
structure Cx where
 prog:Program
 w:World
 K:Fg_
 mg:Str->Option Value
 base:Heap
 A:Around
 N:List Str
 s₀:Shared
 H₀:Hp
 env:Env
 outer:List Env
 stack:List Env
 ex:List Addr
 fn:Str->Bool
 calm:Bool
 pn:List (Addr×Obj)
 xe:Value->Shared->Prop
noncomputable def frs(l:List Env):List Addr:=l.filterMap (·.frame)
abbrev Cx.fs(X:Cx):List Addr:=frs X.outer
noncomputable def Vis(sc:Scope)(x:Str):Prop:=sc.names.lookup x=some .local\/sc.names.lookup x=some .cell\/sc.names.lookup x=some .free
noncomputable def Loc(sc:Scope)(x:Str):Prop:=sc.names.lookup x=some .local\/sc.names.lookup x=some .cell
noncomputable def Look(env:Env)(h:Heap)(m:Str->Option Value)(x:Str)(u:Value):Prop:=
 (env.kindOf x=some .local/\m x=some u)\/((env.kindOf x=some .cell\/env.kindOf x=some .free)/\∃c,env.cells.lookup x=some c/\h.IsCell c (some u))
structure Cx.Ok(X:Cx):Prop where
 mod:Mod X.K X.mg X.base
 kind:X.env.scope.kind=.function
 glob:X.env.globals=mainGlobals
 blt:X.env.builtins=builtinsNs
 above:X.s₀.heap.objs.size<=X.env.locals
 inj:∀x y c,X.env.cells.lookup x=some c->X.env.cells.lookup y=some c->x=y
 has:∀x,(X.env.kindOf x=some .cell\/X.env.kindOf x=some .free)->∃c,X.env.cells.lookup x=some c
 cab:∀x c,X.fn x=true->X.env.cells.lookup x=some c->X.s₀.heap.objs.size<=c
 hd:X.calm=true->X.A.handled=none
 frames:X.A.frames=some X.stack
 stk:X.stack=X.outer\/(X.stack=X.env::X.outer/\X.env.frame=some X.env.locals)
 exf:∀b∈X.ex,b≠X.env.locals/\∀x c,X.env.cells.lookup x=some c->c≠b
 bs:∀b o,X.base.get? b=some o->X.s₀.heap.get? b=some o/\X.H₀ b=none
 bsz:X.base.objs.size<=X.s₀.heap.objs.size
 noex:∀b o,X.base.get? b=some o->b∉X.ex
 exfs:∀b∈X.ex,b∉X.fs
 funs:X.s₀.heap.FunFrames X.base X.outer
 frf:∀b∈X.fs,X.H₀ b=none
structure Inv(X:Cx)(pins:List (Addr×Obj))(σ:List (Option V))(H:Hp)(s:Shared):Prop where
 ok:X.Ok
 os:s.os=X.s₀.os
 bare:AllBare s.gens
 base:Un X.fs X.ex X.H₀ H X.s₀.heap s.heap
 loc:∃m,s.heap.Ns X.env.locals m/\∀(i:Nat)(x:Str)(v:V),X.N[i]? =some x->σ[i]? =some (some v)->Vis X.env.scope x->∃u,RelV v u/\Look X.env s.heap m x u
 cell:∀x c,X.env.cells.lookup x=some c->∃v,s.heap.IsCell c v
 free:H X.env.locals=none
 freeC:∀x c,X.env.cells.lookup x=some c->H c=none
 pin:∀p∈X.pn++pins,s.heap.get? p.1=some p.2/\H p.1=none/\p.1≠X.env.locals/\p.1∉X.fs/\∀v,p.2.data≠.cell v
 hok:HOk X.prog X.w H s.heap
 len:σ.length=X.N.length
section
variable{X:Cx}{pins:List (Addr×Obj)}{σ:List (Option V)}{H H':Hp}{s:Shared}{h':Heap}
def Cx.Ok.nofr(ok:X.Ok){b:Addr}{o:Obj}(e:X.base.get? b=some o):b∉X.fs:=λq=>by
 have:=(ok.funs.mem q).1;rw[e]at this;cases this
theorem Inv.bs(I:Inv X pins σ H s):∀b o,X.base.get? b=some o->s.heap.get? b=some o/\H b=none:=λb o e=>
 ⟨I.base.keep b o (I.ok.bs b o e).1 (I.ok.bs b o e).2 (I.ok.nofr e) (I.ok.noex b o e),I.base.free b o (I.ok.bs b o e).1 (I.ok.bs b o e).2 (I.ok.noex b o e)⟩
def Inv.bk(I:Inv X pins σ H s):∀b o,X.base.get? b=some o->s.heap.get? b=some o:=λb o e=>(I.bs b o e).1
theorem Inv.mod(I:Inv X pins σ H s):Mod X.K X.mg X.base:=I.ok.mod
def Inv.kIn(I:Inv X pins σ H s):X.K.In s.heap:=I.ok.mod.kin.keeps I.bk
theorem Inv.lt(I:Inv X pins σ H s):X.env.locals<s.heap.objs.size:=let⟨_,hn,_⟩:=I.loc;hn.lt
def Inv.sz(I:Inv X pins σ H s):X.s₀.heap.objs.size<=s.heap.objs.size:=zV I.ok.above (zz6 I.lt)
def Inv.nofs(I:Inv X pins σ H s){a:Addr}(h:s.heap.objs.size<=a):a∉X.fs:=λz=>by
 obtain⟨_,o,q,_⟩:=I.ok.funs.mem z;exact absurd (zG (zr q) (zV I.sz h)) (ya _)
def Inv.cne(I:Inv X pins σ H s):∀x c,X.env.cells.lookup x=some c->c≠X.env.locals:=λx c e z=>by
 obtain⟨v,o,ho,hd⟩:=I.cell x c e;obtain⟨m,⟨o',es,ep,aa,q,_⟩,_⟩:=I.loc;rw[z,aa]at ho;cases ho;rw[q]at hd;cases hd
theorem Inv.funs(I:Inv X pins σ H s):s.heap.FunFrames X.base X.outer:=by
 have aa:∀(l:List Env),(∀b∈frs l,b∈X.fs)->X.s₀.heap.FunFrames X.base l->s.heap.FunFrames X.base l:=by
  intro l
  induction l with
  |nil=>intro _ _;trivial
  |cons env r ih=>
   intro hs hl;obtain⟨hk,⟨L,o,hf,hn,ho,hd⟩,hr⟩:=hl;have q:L∈X.fs:=hs L (by unfold frs;rw[zzI,hf];exact zj);obtain⟨sl,e⟩:=I.base.slot L o ho (I.ok.frf L q) q λz=>I.ok.exfs L z q;exact⟨hk,⟨L,_,hf,hn,e,hd⟩,ih (λb hb=>hs b (by unfold frs;rw[zzI,hf];exact zp _ hb)) hr⟩
 exact aa X.outer (λ_ hb=>hb) I.ok.funs
theorem Inv.stack(I:Inv X pins σ H s):s.heap.FunFrames X.base X.stack:=by
 rcases I.ok.stk with e|⟨e,q⟩
 ·rw[e];exact I.funs
 ·rw[e]
  obtain⟨m,hn,_⟩:=I.loc;refine .cons (by rw[I.ok.kind];decide) q hn ?_ I.funs;exact Heap.get?_none_of_le (zV I.ok.bsz I.ok.above)
def Inv.stkSub(I:Inv X pins σ H s):∀b∈frs X.stack,b∈X.env.locals::X.fs:=λb q=>by
 rcases I.ok.stk with e|⟨e,z⟩
 ·rw[e]at q;exact zp _ q
 ·rw[e]at q
  unfold frs at q;rw[zzI,z]at q;exact q
def Inv.stkFree(I:Inv X pins σ H s):∀b∈frs X.stack,H b=none:=λb q=>by
 rcases zu.mp (I.stkSub b q)with e|q
 ·rw[e];exact I.free
 ·obtain⟨_,o,ho,_⟩:=I.ok.funs.mem q
  exact I.base.free b o ho (I.ok.frf b q) λz=>I.ok.exfs b z q
def Inv.step{g':Array GenState}{t':Nat}{d':Drawn}{ch:List Addr}(I:Inv X pins σ H s)
  (ab:∀b∈ch,(b∈X.ex\/X.s₀.heap.objs.size<=b)/\b≠X.env.locals/\(∀x c,X.env.cells.lookup x=some c->c≠b)/\∀p∈X.pn++pins,p.1≠b)
  (keep:∀b o,b≠X.env.locals->b∉X.fs->b∉ch->s.heap.get? b=some o->H b=none->h'.get? b=some o)
  (slot:∀b o,b≠X.env.locals->b∈X.fs->b∉ch->s.heap.get? b=some o->H b=none->∃sl,h'.get? b=some {o with slots:=sl}) (free:∀b o,b∉ch->s.heap.get? b=some o->H b=none->H' b=none)
  (there:∀b o,b∉ch->s.heap.get? b=some o->∃o',h'.get? b=some o')
  (tups:∀b xs,H b=some (.tup xs)->H' b=some (.tup xs)) (frzs:∀b o u,H b=some (.frz o u)->H' b=some (.frz o u)) (tbls:∀b ps,H b=some (.tbl ps)->∃af,H' b=some (.tbl (ps++af)))
  (ns:∀m,s.heap.Ns X.env.locals m->h'.Ns X.env.locals m) (hok:HOk X.prog X.w H' h') (hg:AllBare g'):
  Inv X pins σ H' {s with heap:=h',gens:=g',drawn:=d',toks:=t'}:=by
 have ae:∀b o,X.s₀.heap.get? b=some o->b≠X.env.locals:=λb o e=>zD (zG (zr e) I.ok.above)
 have ad:∀b o,X.s₀.heap.get? b=some o->b∉X.ex->b∉ch:=λb o e hx hb=>by
  rcases(ab b hb).1 with z|z
  ·exact hx z
  ·exact absurd (zG (zr e) z) (ya _)
 have aa:∀x c,X.env.cells.lookup x=some c->∀v,s.heap.IsCell c v->h'.IsCell c v:=λx c e v ⟨o,ho,hd⟩=>by
  have ac:c∉ch:=λz=>(ab c z).2.2.1 x c e rfl;by_cases hc:c∈X.fs
  ·obtain⟨sl,q⟩:=slot c o (I.cne x c e) hc ac ho (I.freeC x c e)
   exact⟨_,q,hd⟩
  ·exact⟨o,keep c o (I.cne x c e) hc ac ho (I.freeC x c e),hd⟩
 refine⟨I.ok,I.os,hg,⟨λb o e n hb hx=>?_,λb o e n hb hx=>?_,λb o e n hx=>?_,λb o e hx=>?_,λb xs e=>tups b xs (I.base.tups b xs e),λb o xs e=>frzs b o xs (I.base.frzs b o xs e),λb ps e=>?_⟩,?_,λx c e=>?_,?_,λx c e=>?_,λp hp=>?_,hok,I.len⟩
 ·exact keep b o (ae b o e) hb (ad b o e hx) (I.base.keep b o e n hb hx) (I.base.free b o e n hx)
 ·obtain⟨sl,e1⟩:=I.base.slot b o e n hb hx
  obtain⟨ag,e2⟩:=slot b _ (ae b o e) hb (ad b o e hx) e1 (I.base.free b o e n hx);exact⟨ag,e2⟩
 ·obtain⟨o',e1⟩:=I.base.there b o e hx
  exact free b o' (ad b o e hx) e1 (I.base.free b o e n hx)
 ·obtain⟨o',e1⟩:=I.base.there b o e hx
  exact there b o' (ad b o e hx) e1
 ·obtain⟨m1,e1⟩:=I.base.tbls b ps e
  obtain⟨m2,e2⟩:=tbls b _ e1;exact⟨m1++m2,by rw[e2,Array.append_assoc]⟩
 ·obtain⟨m,hn,hl⟩:=I.loc
  refine⟨m,ns m hn,λi x v e1 e2 e3=>?_⟩;obtain⟨u,r,l⟩:=hl i x v e1 e2 e3;refine⟨u,r,?_⟩;rcases l with l|⟨k,c,e,z⟩
  ·exact .inl l
  ·exact .inr ⟨k,c,e,aa x c e _ z⟩
 ·obtain⟨v,z⟩:=I.cell x c e
  exact⟨v,aa x c e v z⟩
 ·obtain⟨m,⟨o,_,_,ho,_⟩,_⟩:=I.loc
  exact free _ o (λz=>(ab _ z).2.1 rfl) ho I.free
 ·obtain⟨v,o,ho,hd⟩:=I.cell x c e
  exact free c o (λz=>(ab c z).2.2.1 x c e rfl) ho (I.freeC x c e)
 ·obtain⟨e,n,ne,nf,d⟩:=I.pin p hp
  have ac:p.1∉ch:=λz=>(ab p.1 z).2.2.2 p hp rfl;exact⟨keep p.1 p.2 ne nf ac e n,free p.1 p.2 ac e n,ne,nf,d⟩
def Inv.un{t':Nat}(I:Inv X pins σ H s)(u:Un X.fs [] H H' s.heap h')(hok:HOk X.prog X.w H' h'):Inv X pins σ H' {s with heap:=h',toks:=t'}:=by
 obtain⟨m,⟨o,es,ep,ho,r⟩,_⟩:=id I.loc;obtain⟨sl,hL⟩:=u.any ho I.free (by simp)
 exact I.step (g':=s.gens) (d':=s.drawn) (ch:=[]) (λ_ z=>nomatch z) (λb o _ hb _ e n=>u.keep b o e n hb (by simp)) (λb o _ hb _ e n=>u.slot b o e n hb (by simp)) (λb o _ e n=>u.free b o e n (by simp)) (λb o _ e=>u.there b o e (by simp)) u.tups u.frzs u.tbls (λm' hm=>by
  obtain⟨o',aa,ab,q,r'⟩:=hm;rw[ho]at q;cases q;exact⟨_,aa,ab,hL,r'⟩) hok I.bare
def Inv.call{g':Array GenState}{t':Nat}{d':Drawn}{ch:List Addr}(I:Inv X pins σ H s)(u:Un (frs X.stack) ch H H' s.heap h')(hok:HOk X.prog X.w H' h')(hg:AllBare g')
  (ab:∀b∈ch,(b∈X.ex\/X.s₀.heap.objs.size<=b)/\b≠X.env.locals/\(∀x c,X.env.cells.lookup x=some c->c≠b)/\∀p∈X.pn++pins,p.1≠b):
  Inv X pins σ H' {s with heap:=h',gens:=g',drawn:=d',toks:=t'}:=by
 obtain⟨m,⟨o,es,ep,ho,r⟩,_⟩:=id I.loc;obtain⟨sl,hL⟩:=u.any ho I.free λz=>(ab _ z).2.1 rfl
 exact I.step (ch:=ch) ab (λb o hL hb q e n=>u.keep b o e n (λz=>(zu.mp (I.stkSub b z)).elim hL hb) q) (λb o _ _ q e n=>u.any e n q) (λb o q e n=>u.free b o e n q) (λb o q e=>u.there b o e q) u.tups u.frzs u.tbls (λm' hm=>by
  obtain⟨o',ac,ad,aa,r'⟩:=hm;rw[ho]at aa;cases aa;exact⟨_,ac,ad,hL,r'⟩) hok hg
def Inv.turned{t':Nat}{it:Addr}(I:Inv X pins σ H s)(k:∀b o,b≠it->s.heap.get? b=some o->h'.get? b=some o)(hn:H it=none)(hL:it≠X.env.locals)
  (h1:it∈X.ex\/X.s₀.heap.objs.size<=it) (h2:∀x c,X.env.cells.lookup x=some c->c≠it) (h3:∀p∈X.pn++pins,p.1≠it):Inv X pins σ H {s with heap:=h',toks:=t'}:=by
 have aa:∀b u,H b=some u->b≠it:=λb u e z=>by rw[z,hn]at e;cases e
 refine I.step (g':=s.gens) (d':=s.drawn) (ch:=[it]) (λb hb=>?_) (λb o _ _ hc e _=>k b o (λz=>hc (by simp[z])) e) (λb o _ _ hc e _=>⟨o.slots,k b o (λz=>hc (by simp[z])) e⟩) (λ_ _ _ _ n=>n)
  (λb o hc e=>⟨o,k b o (λz=>hc (by simp[z])) e⟩) (λ_ _ e=>e) (λ_ _ _ e=>e) (λb ps e=>⟨#[],by rw[e];simp⟩) (λm hm=>?_) (λb u e=>?_) I.bare
 ·have e:b=it:=by simpa using hb
  subst e;exact⟨h1,hL,h2,h3⟩
 ·obtain⟨o,es,ep,ho,r⟩:=hm
  exact⟨o,es,ep,k _ o (Ne.symm hL) ho,r⟩
 ·refine(I.hok b u e).stay (λc v hc q=>k c v ?_ q) (λ_ q=>q) λ_ _ q=>q
  rcases hc with z|z
  ·rw[z];exact aa b u e
  ·exact aa c _ z
def Inv.tok(I:Inv X pins σ H s)(t:Nat):Inv X pins σ H {s with toks:=t}:=I.un (h':=s.heap) (t':=t) Un.refl I.hok
theorem Inv.kept{t':Nat}(I:Inv X pins σ H s)(k:∀b u,s.heap.get? b=some u->h'.get? b=some u):Inv X pins σ H {s with heap:=h',toks:=t'}:=I.un (Un.kept k) (I.hok.kept k)
theorem Inv.laid{a:Addr}{o:HO}{t':Nat}(I:Inv X pins σ H s)(k:∀b u,s.heap.get? b=some u->h'.get? b=some u)(q:s.heap.objs.size<=a)(z:mq X.prog X.w (upd H a o) h' a o):
  Inv X pins σ (upd H a o) {s with heap:=h',toks:=t'}:=I.un (Un.laid k q (I.hok.fresh q)) (I.hok.laid k q z)
theorem Inv.write{x e:Addr}{o:HO}{t':Nat}(I:Inv X pins σ H s)(mu:Mut (H x))(he:e=x\/H e=some (.own x))(k:∀b u,b≠e->s.heap.get? b=some u->h'.get? b=some u)(q:∃u,h'.get? e=some u)
  (z:mq X.prog X.w (upd H x o) h' x o):Inv X pins σ (upd H x o) {s with heap:=h',toks:=t'}:=I.un (Un.write mu he k q) (I.hok.write mu he k q z)
def Inv.pins_of{q:List (Addr×Obj)}(I:Inv X pins σ H s)(h:∀p∈q,s.heap.get? p.1=some p.2/\H p.1=none/\p.1≠X.env.locals/\p.1∉X.fs/\∀v,p.2.data≠.cell v):Inv X q σ H s:=
 ⟨I.ok,I.os,I.bare,I.base,I.loc,I.cell,I.free,I.freeC,λp hp=>(zK.mp hp).elim (λz=>I.pin p (yH _ z)) (h p),I.hok,I.len⟩
def Ui{N:List Str}(hN:N.Nodup){i j:Nat}{x:Str}(a:N[i]? =some x)(b:N[j]? =some x):i=j:=by
 obtain⟨h1,z⟩:=zk.mp a;obtain⟨h2,q⟩:=zk.mp b;exact(zzZ hN).mp (z.trans q.symm)
def Qe{M:Model}{A:Around}{E:Value->Shared->Prop}{i:Nat}{x:Str}{v:V}{u:Value}{Q:Unit->Shared->Prop}(I:Inv X pins σ H s)(hN:X.N.Nodup)(hi:X.N[i]? =some x)(hx:Loc X.env.scope x)(r:RelV v u)
  (h:∀s',Inv X pins (σ.set i (some v)) H s'->(∃a,Heap.SameBut a s.heap s'.heap/\(a=X.env.locals\/X.env.cells.lookup x=some a))->Q () s') (hf:X.fn x=true\/X.env.scope.names.lookup x=some .local:=by walk_at "p"):wpAny M A (storeName X.env x u) Q E s:=by
 obtain⟨m,hn,hl⟩:=id I.loc;have ag:(X.env.scope.kind==.class||(X.env.scope.kind==.module && X.env.locals !=X.env.globals))=false:=by rw[I.ok.kind];rfl
 have ah:i<σ.length:=by rw[I.len];exact(zk.mp hi).1
 have ac:=I.cne
 have aa:∀{a:Addr}{h':Heap},(∃o,s.heap.get? a=some o/\H a=none)->Heap.SameBut a s.heap h'->HOk X.prog X.w H h':=fun{a h'} ha hs b ob e=>by
  obtain⟨_,_,ab⟩:=ha;refine(I.hok b ob e).stay (λc w' hc q=>(hs.2 c ?_).trans q) (λ_ q=>q) λ_ _ q=>q;rintro rfl;rcases hc with rfl|hc
  ·rw[ab]at e;cases e
  ·rw[ab]at hc;cases hc
 rcases hx with hk|hk
 ·refine wpAny_storeName_local hk hn (λh' ak hs=>?_) ag
  obtain⟨oL,_,_,al,_⟩:=id hn;refine h _ ⟨I.ok,I.os,I.bare,⟨λb o e n hb hx=>?_,λb o e n hb hx=>?_,I.base.free,λb o e hx=>?_,I.base.tups,I.base.frzs,I.base.tbls⟩,⟨_,ak,λj y v' e1 e2 e3=>?_⟩,λy c e=>?_,I.free,I.freeC,λp hp=>?_,aa ⟨oL,al,I.free⟩ hs,by simpa using I.len⟩ ⟨_,hs,.inl rfl⟩
  ·exact(hs.2 b (zD (zG (zr e) I.ok.above))).trans (I.base.keep b o e n hb hx)
  ·obtain⟨sl,e1⟩:=I.base.slot b o e n hb hx
   exact⟨sl,(hs.2 b (zD (zG (zr e) I.ok.above))).trans e1⟩
  ·obtain⟨o',e1⟩:=I.base.there b o e hx
   exact⟨o',(hs.2 b (zD (zG (zr e) I.ok.above))).trans e1⟩
  ·by_cases hj:j=i
   ·subst hj
    rw[hi]at e1;cases e1;rw[zzo ah]at e2;cases e2;exact⟨u,r,.inl ⟨hk,by simp⟩⟩
   ·rw[zzF (Ne.symm hj)]at e2
    obtain⟨u',r',q⟩:=hl j y v' e1 e2 e3;refine⟨u',r',?_⟩;rcases q with⟨k,e⟩|⟨k,c,e,z⟩
    ·refine .inl ⟨k,?_⟩
     have:y≠x:=λe=>hj (Ui hN e1 (e▸hi));simp[this,e]
    ·exact .inr ⟨k,c,e,z.sameBut hs (ac y c e)⟩
  ·obtain⟨w',z⟩:=I.cell y c e
   exact⟨w',z.sameBut hs (ac y c e)⟩
  ·obtain⟨e,n,ne,nf,d⟩:=I.pin p hp
   exact⟨(hs.2 p.1 ne).trans e,n,ne,nf,d⟩
 ·have ad:X.fn x=true:=by
   rcases hf with z|z
   ·exact z
   ·rw[z]at hk;cases hk
  obtain⟨c,hc⟩:=I.ok.has x (.inl hk);obtain⟨w',z⟩:=I.cell x c hc;refine wpAny_storeName_cell I.ok.kind hk hc z (λh' aj hs=>?_);obtain⟨oc,af,ai⟩:=id z;refine h {s with heap:=h'} ⟨I.ok,I.os,I.bare,⟨λb o e n hb hx=>?_,λb o e n hb hx=>?_,I.base.free,λb o e hx=>?_,I.base.tups,I.base.frzs,I.base.tbls⟩,⟨m,hn.sameBut hs (Ne.symm (ac x c hc)),λj y v' e1 e2 e3=>?_⟩,λy c' e=>?_,I.free,I.freeC,λp hp=>?_,aa ⟨oc,af,I.freeC x c hc⟩ hs,by simpa using I.len⟩ ⟨c,hs,.inr hc⟩
  ·exact(hs.2 b (zD (zG (zr e) (I.ok.cab x c ad hc)))).trans (I.base.keep b o e n hb hx)
  ·obtain⟨sl,e1⟩:=I.base.slot b o e n hb hx
   exact⟨sl,(hs.2 b (zD (zG (zr e) (I.ok.cab x c ad hc)))).trans e1⟩
  ·obtain⟨o',e1⟩:=I.base.there b o e hx
   exact⟨o',(hs.2 b (zD (zG (zr e) (I.ok.cab x c ad hc)))).trans e1⟩
  ·by_cases hj:j=i
   ·subst hj
    rw[hi]at e1;cases e1;rw[zzo ah]at e2;cases e2;exact⟨u,r,.inr ⟨.inl hk,c,hc,aj⟩⟩
   ·rw[zzF (Ne.symm hj)]at e2
    obtain⟨u',r',q⟩:=hl j y v' e1 e2 e3;refine⟨u',r',?_⟩;rcases q with q|⟨k,c',e,z'⟩
    ·exact .inl q
    ·refine .inr ⟨k,c',e,z'.sameBut hs ?_⟩
     rintro rfl;exact hj (Ui hN e1 (I.ok.inj _ _ _ e hc▸hi))
  ·by_cases ae:c'=c
   ·subst ae;exact⟨_,aj⟩
   ·obtain⟨w2,z2⟩:=I.cell y c' e
    exact⟨w2,z2.sameBut hs ae⟩
  ·obtain⟨e,n,ne,nf,d⟩:=I.pin p hp
   refine⟨(hs.2 p.1 ?_).trans e,n,ne,nf,d⟩;intro q;rw[q,af]at e;have q':oc=p.2:=zw e;exact d w' (by rw[<-q'];exact ai)
def Uu{M:Model}{A:Around}{E:Value->Shared->Prop}{i:Nat}{x:Str}{v:V}{u:Value}{Q:Unit->Shared->Prop}(I:Inv X pins σ H s)(hN:X.N.Nodup)(hi:X.N[i]? =some x)(q:Loc X.env.scope x)(r:RelV v u)
  (h:∀s',Inv X pins (σ.set i (some v)) H s'->Q () s') (z:X.fn x=true\/X.env.scope.names.lookup x=some .local:=by walk_at "p"):wpAny M A (storeName X.env x u) Q E s:=
 Qe I hN hi q r (λs' I' _=>h s' I') z
def Inv.call'{s':Shared}{ch:List Addr}(I:Inv X pins σ H s)(ho:s'.os=s.os)(u:Un (frs X.stack) ch H H' s.heap s'.heap)(hok:HOk X.prog X.w H' s'.heap)(z:AllBare s'.gens)
  (q:∀b∈ch,(b∈X.ex\/X.s₀.heap.objs.size<=b)/\b≠X.env.locals/\(∀x c,X.env.cells.lookup x=some c->c≠b)/\∀p∈X.pn++pins,p.1≠b):Inv X pins σ H' s':=by
 obtain⟨h',g',d',t',o'⟩:=s';have e:o'=s.os:=ho;subst e;exact I.call (g':=g') (t':=t') (d':=d') u hok z q
end
abbrev XK:=Value->Option Addr->Hp->Prop
abbrev St:=List (Option V)
abbrev VK:=V->Hp->Prop
abbrev TE:=St->Hp->VK->Prop
abbrev TT:=St->Hp->(Bool->Hp->Prop)->Prop
abbrev TA:=St->Hp->(List V->Hp->Prop)->Prop
structure Ends where
 nx:St->Hp->Prop
 rt:VK
 bk:St->Hp->Prop:=λ_ _=>False
 ct:St->Hp->Prop:=λ_ _=>False
abbrev TS:=Ends->St->Hp->Prop
noncomputable def EP(X:Cx)(pins:List (Addr×Obj))(σ:St)(Q:VK)(u:Value)(s':Shared):Prop:=∃v H',Inv X pins σ H' s'/\RelV v u/\Q v H'
noncomputable def TP(X:Cx)(pins:List (Addr×Obj))(σ:St)(Q:Bool->Hp->Prop)(b:Bool)(s':Shared):Prop:=∃H',Inv X pins σ H' s'/\Q b H'
noncomputable def AP(X:Cx)(pins:List (Addr×Obj))(σ:St)(Q:List V->Hp->Prop)(us:List Value)(s':Shared):Prop:=∃vs H',Inv X pins σ H' s'/\Vals vs us/\Q vs H'
noncomputable def SP(X:Cx)(pins:List (Addr×Obj))(D:Ends)(f:Flow)(s':Shared):Prop:=
 match f with
 |.next=>∃σ' H',Inv X pins σ' H' s'/\D.nx σ' H'
 |.brk=>∃σ' H',Inv X pins σ' H' s'/\D.bk σ' H'
 |.cont=>∃σ' H',Inv X pins σ' H' s'/\D.ct σ' H'
 |.ret u=>∃v σ' H',Inv X pins σ' H' s'/\RelV v u/\D.rt v H'
noncomputable def PE(X:Cx)(e:Expr)(t:TE):Prop:=
 ∀(pins:List (Addr×Obj))(s:Shared)(σ:St)(H:Hp)(Q:VK),Inv X pins σ H s->t σ H Q->wpAny (model X.prog X.w) X.A (eval e X.env) (EP X pins σ Q) X.xe s
noncomputable def PT(X:Cx)(e:Expr)(t:TT):Prop:=
 ∀(pins:List (Addr×Obj))(s:Shared)(σ:St)(H:Hp)(Q:Bool->Hp->Prop),Inv X pins σ H s->t σ H Q->wpAny (model X.prog X.w) X.A (isTrue e X.env (eval e X.env)) (TP X pins σ Q) X.xe s
noncomputable def PW(X:Cx)(e:Expr)(t:TT):Prop:=
 ∀(whole:Sem Value)(pins:List (Addr×Obj))(s:Shared)(σ:St)(H:Hp)(Q:Bool->Hp->Prop),Inv X pins σ H s->t σ H Q->wpAny (model X.prog X.w) X.A (isTrue e X.env whole) (TP X pins σ Q) X.xe s
def PW.pt{X:Cx}{e:Expr}{t:TT}(h:PW X e t):PT X e t:=h _
noncomputable def PA(X:Cx)(es:List Expr)(t:TA):Prop:=
 ∀(pos:Pos)(pins:List (Addr×Obj))(s:Shared)(σ:St)(H:Hp)(Q:List V->Hp->Prop),Inv X pins σ H s->t σ H Q->wpAny (model X.prog X.w) X.A (spliced (backTo pos (starEach es X.env))) (AP X pins σ Q) X.xe s
noncomputable def PS(X:Cx)(st:Stmt)(t:TS):Prop:=
 ∀(pins:List (Addr×Obj))(s:Shared)(σ:St)(H:Hp)(D:Ends),Inv X pins σ H s->t D σ H->wpAny (model X.prog X.w) X.A (exec st X.env) (SP X pins D) X.xe s
noncomputable def PSs(X:Cx)(st:List Stmt)(t:TS):Prop:=
 ∀(pins:List (Addr×Obj))(s:Shared)(σ:St)(H:Hp)(D:Ends),Inv X pins σ H s->t D σ H->wpAny (model X.prog X.w) X.A (execs st X.env) (SP X pins D) X.xe s
def thn{α:Type}{t:Sem α}{Q Q':α->Shared->Prop}{M:Model}{A:Around}{E:Value->Shared->Prop}{s:Shared}(h:wpAny M A t Q E s)(q:∀a s,Q a s->Q' a s):wpAny M A t Q' E s:=yc h q λ_ _ x=>x
end L2
namespace L2
open PySem PySem.Spec PyProof.Rows
section
variable{X:Cx}
noncomputable def Oo(i:Nat):TE:=λσ H Q=>∃v,σ[i]? =some (some v)/\Q v H
noncomputable def tC(v:V):TE:=λ_ H Q=>Q v H
def akC{i:Nat}{x:Str}{pos:Pos}(hN:X.N[i]? =some x)(hv:Vis X.env.scope x)(hd:(x==("__debug__" :Str))=false:=by decide) (hcd:(x==("__classdict__" :Str))=false:=by decide):PE X (.Name x pos) (Oo i):=by
 intro pins s σ H Q I h;obtain⟨v,e,h⟩:=h;obtain⟨m,hn,hl⟩:=I.loc;obtain⟨u,r,l⟩:=hl i x v hN e hv;have z:EP X pins σ Q u s:=⟨v,H,I,r,h⟩;rcases l with⟨hk,hm⟩|⟨hk,c,hc,q⟩
 ·exact wpAny_Name (wpAny_loadName_local I.ok.kind hk hn hm z) hd
 ·rcases hk with hk|hk
  ·exact wpAny_Name (wpAny_loadName_cell I.ok.kind hk hc q z) hd
  ·exact wpAny_Name (wpAny_loadName_free I.ok.kind hk hc q z hcd) hd
def iJ{i j pos}:PE X (.Constant (.int i) j pos) (tC (.int i)):=λ_ _ _ H _ I h=>wpAny_Constant_int ⟨.int i,H,I.tok _,⟨_,rfl⟩,h⟩
def Jz{b j pos}:PE X (.Constant (.bool b) j pos) (tC (.bl b)):=λ_ _ _ H _ I h=>Constant_bool ⟨.bl b,H,I,rfl,h⟩
def nu{j pos}:PE X (.Constant .none j pos) (tC .non):=λ_ _ _ H _ I h=>Constant_none ⟨.non,H,I,rfl,h⟩
def jG{x j pos}:PE X (.Constant (.str x) j pos) (tC (.str x)):=λ_ _ _ H _ I h=>Calls.Constant_str ⟨.str x,H,I.tok _,⟨_,rfl⟩,h⟩
noncomputable def Gl(X:Cx)(x:Str):Prop:=X.env.kindOf x=some .globalImplicit
def Ju{E:Value->Shared->Prop}{pins:List (Addr×Obj)}{s:Shared}{σ:St}{H:Hp}{x:Str}{u:Value}{pos:Pos}{Q:Value->Shared->Prop}(I:Inv X pins σ H s)(q:Gl X x)(hm:X.mg x=some u)(h:Q u s)
  (hd:(x==("__debug__" :Str))=false:=by decide):wpAny (model X.prog X.w) X.A (eval (.Name x pos) X.env) Q E s:=
 Calls.Name_function_global I.ok.kind q (Calls.loadGlobal_global (by rw[I.ok.glob];exact I.mod.glob.keeps I.bk) hm h) hd
def Al{E:Value->Shared->Prop}{pins:List (Addr×Obj)}{s:Shared}{σ:St}{H:Hp}{x:Str}{u:Value}{pos:Pos}{Q:Value->Shared->Prop}(I:Inv X pins σ H s)(q:Gl X x)(hm:X.mg x=none)(z:bootBuiltins x=some u)(h:Q u s)
  (hn:x≠ "__name__" :=by decide) (hd:(x==("__debug__" :Str))=false:=by decide):wpAny (model X.prog X.w) X.A (eval (.Name x pos) X.env) Q E s:=by
 obtain⟨mb,h1,h2⟩:=I.mod.blt;exact Calls.Name_function_global I.ok.kind q (Calls.loadGlobal_builtin (by rw[I.ok.glob];exact I.mod.glob.keeps I.bk) hm (by rw[I.ok.blt];exact h1.keeps I.bk) ((h2 x hn).trans z) h) hd
def lZ{x:Str}{v:V}{u:Value}{pos:Pos}(q:Gl X x)(hm:X.mg x=some u)(r:RelV v u)(hd:(x==("__debug__" :Str))=false:=by decide):PE X (.Name x pos) (tC v):=
 λ_ _ _ H _ I h=>Ju I q hm ⟨v,H,I,r,h⟩ hd
def ajd{x:Str}{v:V}{u:Value}{pos:Pos}(q:Gl X x)(hm:X.mg x=none)(z:bootBuiltins x=some u)(r:RelV v u)(hn:x≠ "__name__" :=by decide) (hd:(x==("__debug__" :Str))=false:=by decide):PE X (.Name x pos) (tC v):=
 λ_ _ _ H _ I h=>Al I q hm z ⟨v,H,I,r,h⟩ hn hd
variable{a b:Expr}{ta tb:TE}{pos:Pos}
noncomputable def tB(t:TE):TT:=λσ H Q=>t σ H λx H1=>∃c,x=.bl c/\Q c H1
def nD{e:Expr}{t:TE}(h:PE X e t)(he:∀z,isTrue e X.env z=(do let v<-z;standAt e.pos;holding [v] (truthy v)):=by intro _;rfl):PT X e (tB t):=by
 intro pins s σ H Q I hw;refine isTrue_plain (thn (h pins s σ H _ I hw) λv s1 ⟨x,H1,I1,r1,q1⟩=>?_) (he _);obtain⟨d,rfl,q⟩:=q1;cases r1;exact yr ⟨H1,I1,q⟩
variable{tA tB':TT}{rest:List Expr}
noncomputable def amh(t u:TT):TT:=λσ H Q=>t σ H λc H1=>if c=true then u σ H1 Q else Q false H1
noncomputable def tOr(t u:TT):TT:=λσ H Q=>t σ H λc H1=>if c=true then Q true H1 else u σ H1 Q
noncomputable def amm(t:TT):TT:=λσ H Q=>t σ H λc H1=>Q (!c) H1
def Iw(ha:PT X a tA):PW X (.BoolOp .And [a] pos) tA:=by
 intro q pins s σ H Q I h;refine isTrue_and (thn (ha pins s σ H Q I h) λc z e=>?_)
 cases c with
 |true=>exact isTrue_and_nil e
 |false=>exact e
def Ag(ha:PT X a tA):PW X (.BoolOp .Or [a] pos) tA:=by
 intro q pins s σ H Q I h;refine isTrue_or (thn (ha pins s σ H Q I h) λc z e=>?_)
 cases c with
 |false=>exact isTrue_or_nil e
 |true=>exact e
def Qi(ha:PT X a tA)(hb:PW X (.BoolOp .And (b::rest) pos) tB'):PW X (.BoolOp .And (a::b::rest) pos) (amh tA tB'):=by
 intro wh pins s σ H Q I h;refine isTrue_and (thn (ha pins s σ H _ I h) λc s1 ⟨H1,z,q⟩=>?_)
 cases c with
 |true=>exact hb wh pins s1 σ H1 Q z q
 |false=>exact⟨H1,z,q⟩
def Ey(ha:PT X a tA)(hb:PW X (.BoolOp .Or (b::rest) pos) tB'):PW X (.BoolOp .Or (a::b::rest) pos) (tOr tA tB'):=by
 intro wh pins s σ H Q I h;refine isTrue_or (thn (ha pins s σ H _ I h) λc s1 ⟨H1,z,q⟩=>?_)
 cases c with
 |true=>exact⟨H1,z,q⟩
 |false=>exact hb wh pins s1 σ H1 Q z q
def Ae(ha:PT X a tA):PT X (.UnaryOp .Not a pos) (amm tA):=by
 intro pins s σ H Q I h;exact isTrue_not (ha pins s σ H (λc H1=>Q (!c) H1) I h)
noncomputable def ajV(ta tb:TE):TE:=λσ H Q=>ta σ H λx H1=>∃c,x=.bl c/\if c=true then tb σ H1 Q else Q (.bl false) H1
noncomputable def akf(ta:TE):TE:=λσ H Q=>ta σ H λx H1=>∃c,x=.bl c/\Q (.bl (!c)) H1
def Tw{op}{t:TE}(h:PE X a t):PE X (.BoolOp op [a] pos) t:=λpins s σ H Q I q=>BoolOp_one (h pins s σ H Q I q)
def Qv(ha:PE X a ta)(hb:PE X (.BoolOp .And (b::rest) pos) tb):PE X (.BoolOp .And (a::b::rest) pos) (ajV ta tb):=by
 intro pins s σ H Q I h;refine BoolOp_and (thn (ha pins s σ H _ I h) λv s1 ⟨x,H1,z,r1,q⟩=>?_);obtain⟨c,rfl,q⟩:=q;cases r1;refine yr ?_
 cases c with
 |true=>exact hb pins s1 σ H1 Q z q
 |false=>exact⟨.bl false,H1,z,rfl,q⟩
def aim(ha:PE X a ta):PE X (.UnaryOp .Not a pos) (akf ta):=by
 intro pins s σ H Q I h;refine UnaryOp_ (thn (ha pins s σ H _ I h) λv s1 ⟨x,H1,z,r1,q⟩=>?_);obtain⟨c,rfl,q⟩:=q;cases r1;exact not_of (yr ⟨.bl (!c),H1,z,rfl,q⟩)
noncomputable def tIf(t:TT)(ta tb:TE):TE:=λσ H Q=>t σ H λc H1=>if c=true then ta σ H1 Q else tb σ H1 Q
def uR{c:Expr}(hc:PT X c tA)(ha:PE X a ta)(hb:PE X b tb):PE X (.IfExp c a b pos) (tIf tA ta tb):=by
 intro pins s σ H Q I h;refine wpAny_IfExp (thn (hc pins s σ H _ I h) λd z ⟨H1,I1,q⟩=>?_)
 cases d with
 |true=>exact ha pins z σ H1 Q I1 q
 |false=>exact hb pins z σ H1 Q I1 q
end
end L2
namespace L2
open PySem PySem.Spec PyProof.Rows
noncomputable def SqL(K:Fg_)(H:Hp)(a:Addr)(xs:List V):Prop:=
 Rd H a (.lst xs)\/
  ∃(o:Obj)(its:Array Value)(n:Nat),K.lookup a=some o/\o.cls=.type "list" /\o.dict=none/\o.data=.seq its n/\its.size<=sizeLine/\Vals xs its.toList
noncomputable def SqT(K:Fg_)(H:Hp)(a:Addr)(xs:List V):Prop:=
 Rd H a (.tup xs)\/
  ∃(o:Obj)(its:Array Value)(n:Nat),K.lookup a=some o/\o.cls=.type "tuple" /\o.data=.seq its n/\its.size<=sizeLine/\Vals xs its.toList
noncomputable def ams:Value->Option V
 |.none=>some .non
 |.bool b=>some (.bl b)
 |.int i _=>some (.int i)
 |.str x _=>some (.str x)
 |.bytes b _=>some (.byt b)
 |.float b _=>some (.flt b)
 |.ref a=>some (.ref a)
 |.type n=>some (.ty n)
 |_=>none
def RelV.abs{x:V}{u:Value}(r:RelV x u):ams u=some x:=by
 cases x with
 |non=>cases r;rfl
 |bl _=>cases r;rfl
 |int _=>obtain⟨t,rfl⟩:=r;rfl
 |str _=>obtain⟨t,rfl⟩:=r;rfl
 |byt _=>obtain⟨t,rfl⟩:=r;rfl
 |flt _=>obtain⟨t,rfl⟩:=r;rfl
 |ref _=>cases r;rfl
 |ty _=>cases r;rfl
def RelV.inj{x y:V}{u:Value}(r:RelV x u)(q:RelV y u):x=y:=zw (r.abs.symm.trans q.abs)
theorem Vals.inj:∀{xs ys:List V}{us:List Value},Vals xs us->Vals ys us->xs=ys
 |_,_,_,.nil,.nil=>rfl
 |_,_,_,.cons r t,.cons r' t'=>by rw[r.inj r',Vals.inj t t']
section
variable{X:Cx}{pins:List (Addr×Obj)}{σ:St}{H:Hp}{s:Shared}{a:Addr}{xs ys:List V}
def iQ{K:Fg_}(h:H a=some (.lst xs)):SqL K H a xs:=.inl (.inl h)
def jD{K:Fg_}(h:H a=some (.tup xs)):SqT K H a xs:=.inl (.inl h)
def Inv.list(I:Inv X pins σ H s)(h:SqL X.K H a xs):∃its:List Value,Vals xs its/\PlainL s.heap a its.toArray/\xs.length<=sizeLine:=by
 rcases h with h|⟨o,its,n,hk,hc,hd,q,hz,r⟩
 ·obtain⟨z,its,n,r,e⟩:=h.ok I.hok
  exact⟨its,r,⟨_,n,e,rfl,rfl,rfl⟩,z⟩
 ·refine⟨its.toList,r,⟨o,n,I.kIn a o hk,hc,hd,by simpa using q⟩,?_⟩
  have e:=r.length;simp only[z4]at e;omega
def Inv.tuple(I:Inv X pins σ H s)(h:SqT X.K H a xs):∃its:List Value,Vals xs its/\IsTup s.heap a its.toArray/\xs.length<=sizeLine:=by
 rcases h with h|⟨o,its,n,hk,hc,q,hz,r⟩
 ·obtain⟨z,its,r,p⟩:=h.ok I.hok
  exact⟨its,r,p,z⟩
 ·refine⟨its.toList,r,⟨o,I.kIn a o hk,hc,n,by simpa using q⟩,?_⟩
  have e:=r.length;simp only[z4]at e;omega
def Inv.list_inj(I:Inv X pins σ H s)(h:SqL X.K H a xs)(h':SqL X.K H a ys):xs=ys:=by
 obtain⟨its,r,⟨o,n,e,_,_,d⟩,_⟩:=I.list h;obtain⟨its',z,⟨o',n',q,_,_,d'⟩,_⟩:=I.list h';rw[e]at q;cases q;rw[d]at d';injection d' with d1 _
 have:its=its':=by simpa using congrArg Array.toList d1
 subst this;exact r.inj z
def Inv.tuple_inj(I:Inv X pins σ H s)(h:SqT X.K H a xs)(h':SqT X.K H a ys):xs=ys:=by
 obtain⟨its,r,⟨o,e,_,n,d⟩,_⟩:=I.tuple h;obtain⟨its',z,⟨o',q,_,n',d'⟩,_⟩:=I.tuple h';rw[e]at q;cases q;rw[d]at d';injection d' with d1 _
 have:its=its':=by simpa using congrArg Array.toList d1
 subst this;exact r.inj z
end
abbrev Cx.wish(X:Cx)(E:Value->Shared->Prop):Cx:={X with xe:=E}
abbrev Cx.nox(X:Cx):Cx:=X.wish λ_ _=>False
theorem Cx.Ok.wish{X:Cx}(ok:X.Ok)(E:Value->Shared->Prop):(X.wish E).Ok:=
 ⟨ok.mod,ok.kind,ok.glob,ok.blt,ok.above,ok.inj,ok.has,ok.cab,ok.hd,ok.frames,ok.stk,ok.exf,ok.bs,ok.bsz,ok.noex,ok.exfs,ok.funs,ok.frf⟩
def Cx.Ok.unwish{X:Cx}{E:Value->Shared->Prop}(ok:(X.wish E).Ok):X.Ok:=
 ⟨ok.mod,ok.kind,ok.glob,ok.blt,ok.above,ok.inj,ok.has,ok.cab,ok.hd,ok.frames,ok.stk,ok.exf,ok.bs,ok.bsz,ok.noex,ok.exfs,ok.funs,ok.frf⟩
section
variable{X:Cx}{pins:List (Addr×Obj)}{σ:St}{H:Hp}{s:Shared}{E:Value->Shared->Prop}
theorem Inv.wish(I:Inv X pins σ H s)(E:Value->Shared->Prop):Inv (X.wish E) pins σ H s:=⟨I.ok.wish E,I.os,I.bare,I.base,I.loc,I.cell,I.free,I.freeC,I.pin,I.hok,I.len⟩
theorem Inv.unwish(I:Inv (X.wish E) pins σ H s):Inv X pins σ H s:=⟨I.ok.unwish,I.os,I.bare,I.base,I.loc,I.cell,I.free,I.freeC,I.pin,I.hok,I.len⟩
theorem SP.unwish{D:Ends}{f:Flow}{s':Shared}(h:SP (X.wish E) pins D f s'):SP X pins D f s':=by
 cases f with
 |next=>obtain⟨z,H',I,q⟩:=h;exact⟨z,H',I.unwish,q⟩
 |brk=>obtain⟨z,H',I,q⟩:=h;exact⟨z,H',I.unwish,q⟩
 |cont=>obtain⟨z,H',I,q⟩:=h;exact⟨z,H',I.unwish,q⟩
 |ret u=>obtain⟨v,z,H',I,r,q⟩:=h;exact⟨v,z,H',I.unwish,r,q⟩
theorem PSs.nox{st:List Stmt}{t:TS}(h:PSs X.nox st t):PSs X st t:=λpins s σ H D I hw=>
 yc (h pins s σ H D (I.wish _) hw) (λ_ _ q=>q.unwish) λ_ _ z=>False.elim z
end
section
variable{X:Cx}{st:Stmt}{rest:List Stmt}{t u:TS}{e:Expr}{te:TE}{pos:Pos}
noncomputable def Pu:TS:=λD σ H=>D.nx σ H
noncomputable def Yt(t u:TS):TS:=λD σ H=>t {D with nx:=u D} σ H
def jx:PSs X [] Pu:=λ_ _ σ H _ I h=>zzH ⟨σ,H,I,h⟩
def iB(h1:PS X st t)(h2:PSs X rest u):PSs X (st::rest) (Yt t u):=by
 intro pins s σ H D I h;refine wpAny_execs_cons (thn (h1 pins s σ H {D with nx:=u D} I h) λf s1 q=>?_)
 cases f with
 |next=>
  obtain⟨z,H',I',q⟩:=q;exact h2 pins s1 z H' D I' q
 |ret v=>exact q
 |brk=>exact q
 |cont=>exact q
def iG(h1:PS X st t):PSs X [st] t:=by
 intro pins s σ H D I h;refine wpAny_execs_cons (thn (h1 pins s σ H D I h) λf z q=>?_)
 cases f with
 |next=>exact zzH q
 |ret v=>exact q
 |brk=>exact q
 |cont=>exact q
noncomputable def aaX:TS:=λD σ H=>D.bk σ H
def aaD:PS X (.Break pos) aaX:=λ_ _ σ H _ I h=>wpAny_Break ⟨σ,H,I,h⟩
def Inv.quiet{pins:List (Addr×Obj)}{σ:St}{H:Hp}{s:Shared}(I:Inv X pins σ H s):interactive X.env=false:=by simp[interactive,I.ok.kind]
noncomputable def alg(te:TE):TS:=λD σ H=>te σ H λ_ H1=>D.nx σ H1
def jo(he:PE X e te)(z:swapsWith e none pos.line X.env=pure false:=by rfl):PS X (.Expr e pos) (alg te):=by
 intro pins s σ H D I h;exact wpAny_Expr_any (thn (he pins s σ H _ I h) λv s1 ⟨x,H1,I1,r1,q⟩=>⟨σ,H1,I1,q⟩) I.quiet z
noncomputable def alV(te:TE):TS:=λD σ H=>te σ H D.rt
def iY(he:PE X e te):PS X (.Return (some e) pos) (alV te):=by
 intro pins s σ H D I h;exact wpAny_Return_some (thn (he pins s σ H _ I h) λv s1 ⟨x,H1,I1,z,q⟩=>⟨x,σ,H1,I1,z,q⟩)
noncomputable def aky:TS:=λD _ H=>D.rt .non H
def ajE:PS X (.Return none pos) aky:=λ_ _ σ H _ I h=>wpAny_Return_none ⟨.non,σ,H,I,rfl,h⟩
noncomputable def Wl(c:TT)(t u:TS):TS:=λD σ H=>c σ H λb H1=>if b=true then t D σ H1 else u D σ H1
def jX{c:Expr}{a b:List Stmt}{tc:TT}(hc:PT X c tc)(ha:PSs X a t)(hb:PSs X b u):PS X (.If c a b pos) (Wl tc t u):=by
 intro pins s σ H D I h;refine wpAny_If (thn (hc pins s σ H _ I h) λd z ⟨H1,I1,q⟩=>?_)
 cases d with
 |true=>exact ha pins z σ H1 D I1 q
 |false=>exact hb pins z σ H1 D I1 q
noncomputable def ajR:TS:=λ_ _ _=>False
def mJ:PS X st ajR:=λ_ _ _ _ _ _ h=>h.elim
end
abbrev TG:=V->St->Hp->(St->Hp->Prop)->Prop
abbrev TGs:=List V->St->Hp->(St->Hp->Prop)->Prop
noncomputable def PG(X:Cx)(target:Expr)(t:TG):Prop:=
 ∀(pins:List (Addr×Obj)) (s:Shared) (σ:St) (H:Hp) (v:V) (u:Value) (Q:St->Hp->Prop),Inv X pins σ H s->RelV v u->t v σ H Q->
  wpAny (model X.prog X.w) X.A (assign target X.env u) (λ_ s'=>∃σ' H',Inv X pins σ' H' s'/\Q σ' H') X.xe s
noncomputable def PGs(X:Cx)(ts:List Expr)(t:TGs):Prop:=
 ∀(pins:List (Addr×Obj)) (s:Shared) (σ:St) (H:Hp) (vs:List V) (us:List Value) (Q:St->Hp->Prop),Inv X pins σ H s->Vals vs us->t vs σ H Q->
  wpAny (model X.prog X.w) X.A (assignInOrder ((assignEach ts X.env).map (·.2)) us) (λ_ s'=>∃σ' H',Inv X pins σ' H' s'/\Q σ' H') X.xe s
abbrev alq:=V->V->V->Hp->(Hp->Prop)->Prop
noncomputable def alX(X:Cx)(t:alq):Prop:=
 ∀(pins:List (Addr×Obj)) (s:Shared) (σ:St) (H:Hp) (o i v:V) (ov iv u:Value) (Q:Hp->Prop),Inv X pins σ H s->RelV o ov->RelV i iv->RelV v u->t o i v H Q->
  wpAny (model X.prog X.w) X.A (setItem ov iv u) (λ_ s'=>∃H',Inv X pins σ H' s'/\Q H') X.xe s
section
variable{X:Cx}{pos:Pos}
noncomputable def Vv(i:Nat):TG:=λv σ H Q=>Q (σ.set i (some v)) H
def iW{i:Nat}{x:Str}(hN:X.N.Nodup)(hi:X.N[i]? =some x)(q:Loc X.env.scope x)(z:X.fn x=true\/X.env.scope.names.lookup x=some .local:=by walk_at "p"):PG X (.Name x pos) (Vv i):=by
 intro pins s σ H v u Q I r h;exact wpAny_assign_Name (Uu I hN hi q r (λs' I'=>⟨_,H,I',h⟩) z)
noncomputable def ami:TGs:=λvs σ H Q=>vs=[]/\Q σ H
noncomputable def akj(t:TG)(u:TGs):TGs:=λvs σ H Q=>∃v r,vs=v::r/\t v σ H λσ' H'=>u r σ' H' Q
def nM:PGs X [] ami:=by
 intro pins s σ H vs us Q I r h;obtain⟨e,h⟩:=h;subst e;cases r;exact assignInOrder_nil ⟨σ,H,I,h⟩
def jy{e:Expr}{es:List Expr}{t:TG}{u:TGs}(h1:PG X e t)(h2:PGs X es u)
  (hs:(assignEach (e::es) X.env).map (·.2)=assign e X.env::(assignEach es X.env).map (·.2):=by rfl):PGs X (e::es) (akj t u):=by
 intro pins s σ H vs us Q I r h;obtain⟨v,vr,z,h⟩:=h;subst z
 cases r with
 |cons r rr=>
  rw[hs];refine assignInOrder_cons (thn (h1 pins s σ H _ _ _ I r h) λ_ s1 ⟨σ1,H1,I1,q⟩=>?_);exact h2 pins s1 σ1 H1 _ _ Q I1 rr q
noncomputable def alx(K:Fg_)(n:Nat)(t:TGs):TG:=λv σ H Q=>∃a xs,v=.ref a/\SqT K H a xs/\xs.length=n/\t xs σ H Q
def akx{es:List Expr}{k:Nat}{t:TGs}{n:Nat}(hc:X.calm=true)(h:PGs X es t)
  (hn:(assignEach es X.env).length=n:=by rfl) (hst:(assignEach es X.env).findIdx? (·.1)=none:=by rfl):PG X (.Tuple es k pos) (alx X.K n t):=by
 intro pins s σ H v u Q I r q;obtain⟨a,xs,e1,hq,hl,q⟩:=q;subst e1;cases r;obtain⟨its,z,ht,hz⟩:=I.tuple hq;refine assign_Tuple_tuple (I.ok.hd hc) ht (by simp[hn,<-hl,z.length]) hst λh' hx=>?_;have I1:Inv X pins σ H {s with heap:=h'}:=I.kept (t':=s.toks) λb o e=>hx b o (zD (zr e)) e;exact h pins _ σ H xs _ Q I1 (by simpa using z) q
noncomputable def amk(to ti:TE)(t:alq):TG:=λv σ H Q=>to σ H λo H1=>ti σ H1 λi H2=>t o i v H2 λH3=>Q σ H3
def ajZ{o i:Expr}{to ti:TE}{t:alq}(ho:PE X o to)(hi:PE X i ti)(hs:alX X t)
  (ha:∀v,assign (.Subscript o i pos) X.env v=(do
   let q<-holding [v] (eval o X.env)
   let z<-holding [v,q] (eval i X.env)
   standAt pos
   holding [v,q,z] (setItem q z v)
   release [v,q,z] []):=by intro _;rfl):PG X (.Subscript o i pos) (amk to ti t):=by
 intro pins s σ H v u Q I r h;rw[ha];refine zc (yi (thn (ho pins s σ H _ I h) λq s1 ⟨x,H1,I1,r1,q1⟩=>?_));refine zc (yi (thn (hi pins s1 σ H1 _ I1 q1) λz s2 ⟨y,H2,I2,r2,q2⟩=>?_));refine zc (zzY (zc (yi (thn (hs pins s2 σ H2 x y v q z u _ I2 r1 r2 r q2) λ_ s3 ⟨H3,I3,q3⟩=>?_))));exact wpAny_release ⟨σ,H3,I3,q3⟩
noncomputable def alo(te:TE)(g:TG):TS:=λD σ H=>te σ H λx H1=>g x σ H1 D.nx
def Yw{tg e:Expr}{te:TE}{g:TG}(he:PE X e te)(z:PG X tg g)(hs:swapsWithSole [tg] e pos.line X.env=pure false:=by rfl)(hw:swappedStores [tg] e X.env=pure none:=by rfl)
  (h1:(assignEach [tg] X.env).map (·.2)=[assign tg X.env]:=by rfl):PS X (.Assign [tg] e pos) (alo te g):=by
 intro pins s σ H D I h;refine wpAny_Assign_stores (thn (he pins s σ H _ I h) λv s1 ⟨x,H1,I1,r1,q1⟩=>?_) hs hw;rw[h1];exact thn (z pins s1 σ H1 x v _ I1 r1 q1) λ_ s2 q=>q
def ji{i:Nat}{x:Str}{e:Expr}{te:TE}{pos':Pos}(hN:X.N.Nodup)(hi:X.N[i]? =some x)(z:Loc X.env.scope x)(he:PE X e te)(hs:swapsWith e (some (.Name x pos')) pos.line X.env=pure false:=by rfl)(hf:X.fn x=true\/X.env.scope.names.lookup x=some .local:=by walk_at "p"):
  PS X (.Assign [.Name x pos'] e pos) (alo te (Vv i)):=by
 intro pins s σ H D I h;refine wpAny_Assign_Name (thn (he pins s σ H _ I h) λv s1 ⟨y,H1,I1,r1,q⟩=>?_) hs;exact Uu I1 hN hi z r1 (λs2 I2=>⟨_,H1,I2,q⟩) hf
end
structure It where
 go:Nat->Hp->Prop
 yld:Nat->Hp->V->Hp->Prop
 stop:Nat->Hp->Prop
noncomputable def QW(X:Cx)(pins:List (Addr×Obj))(H:Hp)(b:Addr):Prop:=
 H b=none/\b≠X.env.locals/\b∉X.fs/\(b∈X.ex\/X.s₀.heap.objs.size<=b)/\(∀x c,X.env.cells.lookup x=some c->c≠b)/\∀p∈X.pn++pins,p.1≠b
def Inv.fpOk{X:Cx}{pins:List (Addr×Obj)}{σ:St}{H H':Hp}{s:Shared}{b:Addr}(I:Inv X pins σ H s)(hb:s.heap.objs.size<=b)(hn:H' b=none):QW X pins H' b:=by
 refine⟨hn,yC (zG I.lt hb),I.nofs hb,.inr (zV I.sz hb),λx c e z=>?_,λp hp z=>?_⟩
 ·obtain⟨v,q⟩:=I.cell x c e
  exact absurd (zG q.lt (by rw[z];exact hb)) (ya _)
 ·exact absurd (zG (zr (I.pin p hp).1) (by rw[z];exact hb)) (ya _)
structure Turn(P:Program)(w:World)(K:Fg_)(tg:Expr)(J:It)(fp:List Addr)(it:Addr)(tn:Nat->Heap->Prop):Prop where
 mem:it∈fp
 obj:∀i h,tn i h->∀b∈fp,∃o,h.get? b=some o/\∀v,o.data≠.cell v
 keep:∀i h h',tn i h->(∀b∈fp,∀o,h.get? b=some o->h'.get? b=some o)->tn i h'
 item:∀(X:Cx),X.prog=P->X.w=w->X.K=K->X.calm=true->∀(i:Nat)(pins:List (Addr×Obj))(s:Shared)(σ:St)(H:Hp)(E:Value->Shared->Prop),Inv X pins σ H s->(∀b∈fp,QW X pins H b)->tn i s.heap->J.go i H->
  wpAny (model P w) X.A (pyNext (.ref it)) (λr s1=>∃u,r=some u/\
   wpAny (model P w) X.A (letOwnedTupleGo tg (.ref it) u) (λ_ s2=>∃x H',Inv X pins σ H' s2/\RelV x u/\J.yld i H x H'/\tn (i+1) s2.heap/\∀b∈fp,H' b=none) E s1) E s
 done:∀(X:Cx),X.prog=P->X.w=w->X.K=K->X.calm=true->∀(i:Nat)(pins:List (Addr×Obj))(s:Shared)(σ:St)(H:Hp)(E:Value->Shared->Prop),Inv X pins σ H s->(∀b∈fp,QW X pins H b)->tn i s.heap->J.stop i H->
  wpAny (model P w) X.A (pyNext (.ref it)) (λr s1=>r=none/\Inv X pins σ H s1) E s
 self:∀(A:Around)(i:Nat)(s:Shared)(Q:Value->Shared->Prop)(E:Value->Shared->Prop),tn i s.heap->Q (.ref it) s->wpAny (model P w) A (pyIter (.ref it)) Q E s
abbrev TI:=St->Hp->(It->Hp->Prop)->Prop
noncomputable def PIE(X:Cx)(pins:List (Addr×Obj))(σ:St)(tg:Expr)(R:It->Hp->Prop)(itv:Value)(s2:Shared):Prop:=
 ∃(it:Addr)(fp:List Addr)(tn:Nat->Heap->Prop)(J:It)(H':Hp),itv=.ref it/\Inv X pins σ H' s2/\Turn X.prog X.w X.K tg J fp it tn/\tn 0 s2.heap/\(∀b∈fp,QW X pins H' b)/\R J H'
noncomputable def PI(X:Cx)(tg iter:Expr)(wi:TI):Prop:=
 ∀(pins:List (Addr×Obj)) (s:Shared) (σ:St) (H:Hp) (R:It->Hp->Prop),Inv X pins σ H s->wi σ H R->
  wpAny (model X.prog X.w) X.A (eval iter X.env) (λv s1=>wpAny (model X.prog X.w) X.A (pyIter v) (PIE X pins σ tg R) X.xe s1) X.xe s
def Ro{M:Model}{A:Around}{E:Value->Shared->Prop}{s:Shared}{tg:Expr}{it:Addr}{u:Value}{o:Obj}{n:String}{vs:Array Value}{Q:Unit->Shared->Prop}(ho:s.heap.get? it=some o)(z:o.cls=.type n)(hd:o.data=.fields vs)
  (hn:["enumerate", "zip", "dict_itemiterator", "dict_reverseitemiterator", "odict_iterator", "itertools.zip_longest", "itertools.pairwise"].contains n=false) (q:Q () s):wpAny M A (letOwnedTupleGo tg (.ref it) u) Q E s:=by
 unfold letOwnedTupleGo
 cases tg<;>first
  |exact zy q
  | (cases u<;>first
    |exact zy q
    | (refine zc (wpAny_load ho ?_)
       rw[z,hd];show wpAny M A (if(["enumerate", "zip", "dict_itemiterator", "dict_reverseitemiterator", "odict_iterator", "itertools.zip_longest", "itertools.pairwise"].contains n && vs[0]? ==some (rawInt _))=true then _ else _) Q E s;rw[ze (by intro h;rw[hn,zzL]at h;cases h)];exact zy q))
noncomputable def Itl(K:Fg_)(a:Addr):It:=
 ⟨λi H=>∃xs x,SqL K H a xs/\xs[i]? =some x,λi H x H'=>H'=H/\∀xs,SqL K H a xs->xs[i]? =some x,λi H=>∃xs,SqL K H a xs/\xs.length<=i⟩
noncomputable def Itt(K:Fg_)(a:Addr):It:=
 ⟨λi H=>∃xs x,SqT K H a xs/\xs[i]? =some x,λi H x H'=>H'=H/\∀xs,SqT K H a xs->xs[i]? =some x,λi H=>∃xs,SqT K H a xs/\xs.length<=i⟩
noncomputable def Itr(lo:Int)(n:Nat):It:=⟨λi _=>i<n,λi H x H'=>H'=H/\x=.int (lo+i),λi _=>n<=i⟩
def YD{P:Program}{w:World}{K:Fg_}{tg:Expr}(a it:Addr):Turn P w K tg (Itl K a) [it] it (λi h=>h.IsListIter it a i) where
 mem:=by simp
 obj:=λi h st b q=>by
  have e:b=it:=by simpa using q
  subst e;obtain⟨o,e,c,d⟩:=st;exact⟨o,e,λv z=>by rw[d]at z;cases z⟩
 keep:=λi h h' st k=>st.at λo e=>k it (by simp) o e
 item:=by
  intro X hP hw hK hc i pins s σ H E I hf st hg;subst hP hw hK;obtain⟨xs,x,hq,hx⟩:=hg;obtain⟨its,rv,p,hz⟩:=I.list hq;obtain⟨u,hu,ru⟩:=rv.get hx;obtain⟨f0,f1,f2,f3,f4,f5⟩:=hf it (by simp);refine wpAny_pyNext_list_item st p.isList (x:=u) (by simpa using hu) λh' aa sb=>?_;have I1:Inv X pins σ H {s with heap:=h'}:=I.turned (t':=s.toks) (λb o q e=>(sb.2 b q).trans e) f0 f1 f3 f4 f5;obtain⟨o,e,c,d⟩:=id aa;exact⟨u,rfl,Ro (s:={s with heap:=h'}) e c d (by decide) ⟨x,H,I1,ru,⟨rfl,λys hy=>by rw[I.list_inj hy hq];exact hx⟩,aa,λb q=>(hf b q).1⟩⟩
 done:=by
  intro X hP hw hK hc i pins s σ H E I hf st hg;subst hP hw hK;obtain⟨xs,hq,hx⟩:=hg;obtain⟨its,rv,p,hz⟩:=I.list hq;obtain⟨f0,f1,f2,f3,f4,f5⟩:=hf it (by simp);have hl:=rv.length;exact wpAny_pyNext_list_end (I.ok.hd hc) st p.isList (by simp;omega) λh' eb=>⟨rfl,I.turned (t':=s.toks) (λb o q e=>eb b o q e) f0 f1 f3 f4 f5⟩
 self:=λ_ _ _ _ _ st h=>wpAny_pyIter_listiter st h
def Vw{P:Program}{w:World}{K:Fg_}{tg:Expr}(a it:Addr):Turn P w K tg (Itt K a) [it] it (λi h=>h.IsTupleIter it a i) where
 mem:=by simp
 obj:=λi h st b q=>by
  have e:b=it:=by simpa using q
  subst e;obtain⟨o,e,c,d⟩:=st;exact⟨o,e,λv z=>by rw[d]at z;cases z⟩
 keep:=λi h h' st k=>st.at λo e=>k it (by simp) o e
 item:=by
  intro X hP hw hK hc i pins s σ H E I hf st hg;subst hP hw hK;obtain⟨xs,x,hq,hx⟩:=hg;obtain⟨its,rv,p,hz⟩:=I.tuple hq;obtain⟨u,hu,ru⟩:=rv.get hx;obtain⟨f0,f1,f2,f3,f4,f5⟩:=hf it (by simp);refine wpAny_pyNext_tuple_item st (show s.heap.IsTuple a its.toArray from p) (x:=u) (by simpa using hu) λh' aa sb=>?_;have I1:Inv X pins σ H {s with heap:=h'}:=I.turned (t':=s.toks) (λb o q e=>(sb.2 b q).trans e) f0 f1 f3 f4 f5;obtain⟨o,e,c,d⟩:=id aa;exact⟨u,rfl,Ro (s:={s with heap:=h'}) e c d (by decide) ⟨x,H,I1,ru,⟨rfl,λys hy=>by rw[I.tuple_inj hy hq];exact hx⟩,aa,λb q=>(hf b q).1⟩⟩
 done:=by
  intro X hP hw hK hc i pins s σ H E I hf st hg;subst hP hw hK;obtain⟨xs,hq,hx⟩:=hg;obtain⟨its,rv,p,hz⟩:=I.tuple hq;obtain⟨f0,f1,f2,f3,f4,f5⟩:=hf it (by simp);have hl:=rv.length;exact wpAny_pyNext_tuple_end (I.ok.hd hc) st (show s.heap.IsTuple a its.toArray from p) (by simp;omega) λh' eb=>⟨rfl,I.turned (t':=s.toks) (λb o q e=>eb b o q e) f0 f1 f3 f4 f5⟩
 self:=λ_ _ _ _ _ st h=>wpAny_pyIter_tupleiter st h
def UV{P:Program}{w:World}{K:Fg_}{tg:Expr}(it:Addr)(lo:Int)(n:Nat):Turn P w K tg (Itr lo n) [it] it (λi h=>IsRangeIter h it (lo+(i:Nat)*1) ((n:Int) - (i:Nat)) 1) where
 mem:=by simp
 obj:=λi h st b q=>by
  have e:b=it:=by simpa using q
  subst e
  exact ⟨_,st,λv z=>by
   have z':Data.fields _=Data.cell v:=z;cases z'⟩
 keep:=λi h h' st k=>k it (by simp) _ st
 item:=by
  intro X hP hw hK hc i pins s σ H E I hf st hg;subst hP hw hK;obtain⟨f0,f1,f2,f3,f4,f5⟩:=hf it (by simp);have W:=Walks.range (prog:=X.prog) (w:=X.w) (I.ok.hd hc) it lo 1 n;refine W.item i s _ _ hg st λv h' tk hv aa kk=>?_;obtain⟨t,rfl⟩:=hv;have I1:Inv X pins σ H {s with heap:=h',toks:=tk}:=I.turned (λb o q e=>kk b o (by simpa using q) e) f0 f1 f3 f4 f5;refine⟨_,rfl,Ro (s:={s with heap:=h',toks:=tk}) (n:= "range_iterator") aa rfl rfl (by decide) ⟨.int (lo+i),H,I1,⟨t,?_⟩,⟨rfl,rfl⟩,aa,λb q=>(hf b q).1⟩⟩;rw[Int.mul_one]
 done:=by
  intro X hP hw hK hc i pins s σ H E I hf st hg;subst hP hw hK;obtain⟨f0,f1,f2,f3,f4,f5⟩:=hf it (by simp);exact wpAny_pyNext_range_end (I.ok.hd hc) st (by have:n<=i:=hg;omega) λh' eb=>⟨rfl,I.turned (t':=s.toks) (λb o q e=>eb b o q e) f0 f1 f3 f4 f5⟩
 self:=λ_ _ _ _ _ st h=>wpAny_pyIter_rangeiter st h
end L2
namespace L2
open PySem PySem.Spec PyProof.Rows
section
variable{X:Cx}{tg:Expr}
noncomputable def Yk(K:Fg_)(tl:TE):TI:=λσ H R=>tl σ H λx H1=>∃a,x=.ref a/\(∃xs,SqL K H1 a xs)/\R (Itl K a) H1
noncomputable def alC(K:Fg_)(tl:TE):TI:=λσ H R=>tl σ H λx H1=>∃a,x=.ref a/\(∃xs,SqT K H1 a xs)/\R (Itt K a) H1
def aiY{l:Expr}{tl:TE}(hl:PE X l tl):PI X tg l (Yk X.K tl):=by
 intro pins s σ H R I h;refine thn (hl pins s σ H _ I h) λv z ⟨x,H1,I1,r1,q1⟩=>?_;obtain⟨a,e,⟨xs,hq⟩,q⟩:=q1;subst e;cases r1;obtain⟨its,rv,p,hz⟩:=I1.list hq;refine yJ p.isList ?_;refine⟨z.heap.objs.size,[z.heap.objs.size],_,_,H1,rfl,I1.kept (t':=z.toks) λb o e=>zb _ e,YD a _,⟨_,zB _ rfl,rfl,rfl⟩,λb hb=>?_,q⟩;have e:b=z.heap.objs.size:=by simpa using hb
 subst e;exact I1.fpOk (zg _) (I1.hok.fresh (zg _))
def akH{l:Expr}{tl:TE}(hl:PE X l tl):PI X tg l (alC X.K tl):=by
 intro pins s σ H R I h;refine thn (hl pins s σ H _ I h) λv z ⟨x,H1,I1,r1,q1⟩=>?_;obtain⟨a,e,⟨xs,hq⟩,q⟩:=q1;subst e;cases r1;obtain⟨its,rv,p,hz⟩:=I1.tuple hq;refine wpAny_pyIter_tuple (show z.heap.IsTuple a its.toArray from p) ?_;refine⟨z.heap.objs.size,[z.heap.objs.size],_,_,H1,rfl,I1.kept (t':=z.toks) λb o e=>zb _ e,Vw a _,⟨_,zB _ rfl,rfl,rfl⟩,λb hb=>?_,q⟩;have e:b=z.heap.objs.size:=by simpa using hb
 subst e;exact I1.fpOk (zg _) (I1.hok.fresh (zg _))
def Zt{pins:List (Addr×Obj)}{σ:St}{H:Hp}{s:Shared}{R:It->Hp->Prop}{E:Value->Shared->Prop}{lo hi:Int}{t u v:Tok}{tk:Nat}(I:Inv X pins σ H s)(h1: -(2^62)<=lo)(h2:lo<2^62)(h3: -(2^62)<=hi)(h4:hi<2^62)
  (q:R (Itr lo (hi - lo).toNat) H):wpAny (model X.prog X.w) X.A (pyIter (.ref s.heap.objs.size)) (PIE X pins σ tg R) E {s with heap:=s.heap.push {cls:=.type "range",data:=.fields #[.int lo t,.int hi u,.int 1 v]},toks:=tk}:=by
 refine wpAny_pyIter_range (IsRange.new ..) (small_one h1 h2 h3 h4) ?_;have z:Inv X pins σ H {s with heap:=s.heap.push {cls:=.type "range",data:=.fields #[.int lo t,.int hi u,.int 1 v]},toks:=tk}:=I.kept λb o e=>zb _ e
 refine ⟨(s.heap.push {cls:=.type "range",data:=.fields #[.int lo t,.int hi u,.int 1 v]}).objs.size,[(s.heap.push {cls:=.type "range",data:=.fields #[.int lo t,.int hi u,.int 1 v]}).objs.size],_,_,H,rfl,
  z.kept (t':=tk) λb o e=>zb _ e,UV _ lo (hi - lo).toNat,?_,λb hb=>?_,q⟩
 ·have e1:lo+((0:Nat):Int)*1=lo:=by simp
  have e2:(((hi - lo).toNat:Nat):Int) - ((0:Nat):Int)=Builtin.Range.rangeSize lo hi 1:=by rw[rangeSize_one];split<;>omega
  show IsRangeIter _ _ (lo+((0:Nat):Int)*1) ((((hi - lo).toNat:Nat):Int) - ((0:Nat):Int)) 1;rw[e1,e2];exact zB _ rfl
 ·have e:b=(s.heap.push {cls:=.type "range",data:=.fields #[.int lo t,.int hi u,.int 1 v]}).objs.size:=by simpa using hb
  subst e;exact z.fpOk (zg _) (z.hok.fresh (zg _))
noncomputable def akJ(ta:TA):TI:=λσ H R=>ta σ H λvs H1=>∃j:Int,vs=[.int j]/\ -(2^62)<=j/\j<2^62/\R (Itr 0 j.toNat) H1
def IV{a:Expr}{ta:TA}{p pos:Pos}(hg:Gl X "range") (hm:X.mg "range" =none) (ha:PA X [a] ta) (hs:starEach [a] X.env=[(false,eval a X.env)]:=by rfl):PI X tg (.Call (.Name "range" p) [a] [] pos) (akJ ta):=by
 intro pins s σ H R I h;refine Call_ (Al I hg hm boot_range (PyProof.Rows.callWith_type1 (thn (ha pos pins s σ H _ I h) λus s1 ⟨vs,H1,I1,r1,z⟩=>?_) hs rfl));obtain⟨j,e,z,q2,q⟩:=z;subst e
 cases r1 with
 |cons r rr=>
  cases rr;obtain⟨t,rfl⟩:=r;exact call_range_1 (Zt I1 (by omega) (by omega) z q2 (by simpa using q))
noncomputable def alp(wi:TI)(g:TG)(tb:TS):TS:=λD σ H=>wi σ H λJ H1=>∃W:Nat->Nat->St->Hp->Prop,(∃m,W 0 m σ H1)/\∀i m σ H,W i m σ H->
 (J.stop i H/\D.nx σ H)\/(J.go i H/\∃N:St->Hp->Prop,(∀σ' H',N σ' H'->∃m',m'<m/\W (i+1) m' σ' H')/\∀x H',J.yld i H x H'->g x σ H' λσ2 H2=>tb {D with nx:=N,ct:=N,bk:=D.nx} σ2 H2)
noncomputable def PN(fp:List Addr)(h:Heap):List (Addr×Obj):=fp.filterMap λb=>(h.get? b).map λo=>(b,o)
def xX{fp:List Addr}{h:Heap}{b:Addr}{o:Obj}(q:b∈fp)(e:h.get? b=some o):(b,o)∈PN fp h:=List.mem_filterMap.mpr ⟨b,q,by rw[e];rfl⟩
def Xk{fp:List Addr}{h:Heap}{p:Addr×Obj}(z:p∈PN fp h):p.1∈fp/\h.get? p.1=some p.2:=by
 obtain⟨b,hb,e⟩:=List.mem_filterMap.mp z
 cases q:h.get? b with
 |none=>rw[q]at e;cases e
 |some o=>
  rw[q]at e;have e':(b,o)=p:=zw e;subst e';exact⟨hb,q⟩
def Inv.pinned{pins:List (Addr×Obj)}{σ:St}{H:Hp}{s:Shared}{fp:List Addr}(I:Inv X pins σ H s)(hf:∀b∈fp,QW X pins H b)(ho:∀b∈fp,∃o,s.heap.get? b=some o/\∀v,o.data≠.cell v):Inv X (pins++PN fp s.heap) σ H s:=
 I.pins_of λp hp=>(zK.mp hp).elim (λz=>I.pin p (zF _ z)) λz=>by
  obtain⟨hb,e⟩:=Xk z;obtain⟨f0,f1,f2,_⟩:=hf p.1 hb;obtain⟨o,q,d⟩:=ho p.1 hb;rw[e]at q;cases q;exact⟨e,f0,f1,f2,d⟩
def Inv.unpinned{pins pl:List (Addr×Obj)}{σ:St}{H:Hp}{s:Shared}(I:Inv X (pins++pl) σ H s):Inv X pins σ H s:=I.pins_of λp q=>I.pin p (zF _ (yH _ q))
def oE{iter:Expr}{ac:List Stmt}{wi:TI}{g:TG}{tb:TS}{pos:Pos}(hp:PassesOwn (model X.prog X.w) X.A X.env X.xe)(hc:X.calm=true)(hi:PI X tg iter wi)(hg:PG X tg g)(hb:PSs X ac tb)
  (hs:∀x,foldedSetIterable iter X.env x=pure x:=by intro _;rfl):PS X (.For tg iter ac [] pos) (alp wi g tb):=by
 intro pins s σ H D I h;refine wpAny_For (thn (hi pins s σ H _ I h) λv s1 h1=>thn h1 λak s2 h2=>?_) hs;obtain⟨it,fp,tn,J,H2,e,I2,T,aj,f2,W,⟨m0,w0⟩,ag⟩:=h2;subst e;have aa:∀{H':Hp},(∀b∈fp,H' b=none)->∀b∈fp,QW X pins H' b:=λhn b hb=>⟨hn b hb,(f2 b hb).2⟩;refine codeAny_forLoop_any (λn s'=>∃i σ' H',Inv X pins σ' H' s'/\tn i s'.heap/\(∀b∈fp,H' b=none)/\W i n σ' H') ?_ m0 ⟨0,σ,H2,I2,aj,λb hb=>(f2 b hb).1,w0⟩;rintro n s3 ⟨i,σ3,H3,I3,ae,ah,w3⟩;rcases ag i n σ3 H3 w3 with⟨stop,qn⟩|⟨go,N,hN,af⟩
 ·refine zzk hp (thn (T.done X rfl rfl rfl hc i pins s3 σ3 H3 X.xe I3 (aa ah) ae stop) λr s4 ⟨hr,I4⟩=>?_)
  subst hr;exact zzH ⟨σ3,H3,I4,qn⟩
 ·refine zzk hp (thn (T.item X rfl rfl rfl hc i pins s3 σ3 H3 X.xe I3 (aa ah) ae go) λr s4 ⟨u,hr,h4⟩=>?_)
  subst hr;refine zzk hp (thn h4 λ_ s5 ⟨x,H5,I5,r5,y5,ad,ai⟩=>?_);have I5':=I5.pinned (aa ai) (T.obj _ _ ad);refine zzk hp (thn (hg _ s5 σ3 H5 x u _ I5' r5 (af x H5 y5)) λ_ s6 ⟨σ6,H6,I6,q6⟩=>?_);refine zzk hp (thn (hb _ s6 σ6 H6 _ I6 q6) λf s7 q7=>?_)
  have ab:∀{q:St}{H7:Hp},Inv X (pins++PN fp s5.heap) q H7 s7->N q H7->∃m,m<n/\∃i σ' H',Inv X pins σ' H' s7/\tn i s7.heap/\(∀b∈fp,H' b=none)/\W i m σ' H':=fun{q H7} z n7=>by
   obtain⟨m',hm,w7⟩:=hN q H7 n7;refine⟨m',hm,i+1,q,H7,z.unpinned,T.keep _ _ _ ad λb hb o e=>(z.pin (b,o) (zF _ (zF _ (xX hb e)))).1,λb hb=>?_,w7⟩;obtain⟨o,e,d⟩:=T.obj _ _ ad b hb;exact(z.pin (b,o) (zF _ (zF _ (xX hb e)))).2.1
  cases f with
  |next=>obtain⟨q,H7,z,n7⟩:=q7;exact ab z n7
  |cont=>obtain⟨q,H7,z,n7⟩:=q7;exact ab z n7
  |brk=>obtain⟨q,H7,z,q7⟩:=q7;exact⟨q,H7,z.unpinned,q7⟩
  |ret v=>obtain⟨x7,q,H7,z,r7,q7⟩:=q7;exact⟨x7,q,H7,z.unpinned,r7,q7⟩
end
def aaf{K:Fg_}{a:Addr}{xs:List V}{g:TG}{tb:TS}{D:Ends}{σ:St}{H:Hp}(z:Nat->St->Hp->Prop)(h0:z 0 σ H)(hl:∀i σ H,i<=xs.length->z i σ H->SqL K H a xs)
  (hs:∀i x σ H,xs[i]? =some x->z i σ H->g x σ H λσ2 H2=>tb {D with nx:=z (i+1),ct:=z (i+1),bk:=D.nx} σ2 H2) (hd:∀σ H,z xs.length σ H->D.nx σ H):
  ∃W:Nat->Nat->St->Hp->Prop,(∃m,W 0 m σ H)/\∀i m σ H,W i m σ H->
   ((Itl K a).stop i H/\D.nx σ H)\/((Itl K a).go i H/\∃N:St->Hp->Prop,(∀σ' H',N σ' H'->∃m',m'<m/\W (i+1) m' σ' H')/\∀x H',(Itl K a).yld i H x H'->g x σ H' λσ2 H2=>tb {D with nx:=N,ct:=N,bk:=D.nx} σ2 H2):=by
 refine⟨λi m σ H=>m=xs.length - i/\i<=xs.length/\z i σ H,⟨xs.length,by simp,zJ _,h0⟩,?_⟩;rintro i m σ H ⟨rfl,hi,p⟩;have q:=hl i σ H hi p;by_cases aa:i<xs.length
 ·refine .inr ⟨⟨xs,xs[i],q,by simp[aa]⟩,z (i+1),λσ' H' p'=>⟨xs.length - (i+1),by omega,rfl,aa,p'⟩,λx H' y=>?_⟩
  obtain⟨e,y⟩:=y;subst e;exact hs i x σ _ (y xs q) p
 ·have e:i=xs.length:=by omega
  subst e;exact .inl ⟨⟨xs,q,zg _⟩,hd σ H p⟩
def WY{lo:Int}{n:Nat}{g:TG}{tb:TS}{D:Ends}{σ:St}{H:Hp}(q:Nat->St->Hp->Prop)(h0:q 0 σ H)
  (hs:∀i σ H,i<n->q i σ H->g (.int (lo+i)) σ H λσ2 H2=>tb {D with nx:=q (i+1),ct:=q (i+1),bk:=D.nx} σ2 H2) (hd:∀σ H,q n σ H->D.nx σ H):
  ∃W:Nat->Nat->St->Hp->Prop,(∃m,W 0 m σ H)/\∀i m σ H,W i m σ H->
   ((Itr lo n).stop i H/\D.nx σ H)\/((Itr lo n).go i H/\∃N:St->Hp->Prop,(∀σ' H',N σ' H'->∃m',m'<m/\W (i+1) m' σ' H')/\∀x H',(Itr lo n).yld i H x H'->g x σ H' λσ2 H2=>tb {D with nx:=N,ct:=N,bk:=D.nx} σ2 H2):=by
 refine⟨λi m σ H=>m=n - i/\i<=n/\q i σ H,⟨n,by simp,zJ _,h0⟩,?_⟩;rintro i m σ H ⟨rfl,hi,p⟩;by_cases z:i<n
 ·refine .inr ⟨z,q (i+1),λσ' H' p'=>⟨n - (i+1),by omega,rfl,z,p'⟩,λx H' y=>?_⟩
  obtain⟨e,y⟩:=y;subst e y;exact hs i σ _ z p
 ·have e:i=n:=by omega
  subst e;exact .inl ⟨zg _,hd σ H p⟩
end L2
namespace L2
open PySem PySem.Spec PyProof.Rows
abbrev R2:=V->V->Hp->VK->Prop
noncomputable def OpR(X:Cx)(f:Value->Value->Sem Value)(r:R2):Prop:=
 ∀(pins:List (Addr×Obj)) (s:Shared) (σ:St) (H:Hp) (x y:V) (v u:Value) (Q:VK),Inv X pins σ H s->RelV x v->RelV y u->r x y H Q->
  wpAny (model X.prog X.w) X.A (f v u) (EP X pins σ Q) X.xe s
noncomputable def UnR(X:Cx)(f:Value->Sem Value)(r:V->Hp->VK->Prop):Prop:=
 ∀(pins:List (Addr×Obj)) (s:Shared) (σ:St) (H:Hp) (x:V) (v:Value) (Q:VK),Inv X pins σ H s->RelV x v->r x H Q->
  wpAny (model X.prog X.w) X.A (f v) (EP X pins σ Q) X.xe s
noncomputable def nT(X:Cx)(f:Value)(r:List V->Hp->VK->Prop):Prop:=
 ∀(pins:List (Addr×Obj)) (s:Shared) (σ:St) (H:Hp) (xs:List V) (us:List Value) (Q:VK),Inv X pins σ H s->Vals xs us->r xs H Q->
  wpAny (model X.prog X.w) X.A (call f us) (EP X pins σ Q) X.xe s
noncomputable def tOp(r:R2)(ta tb:TE):TE:=λσ H Q=>ta σ H λx H1=>tb σ H1 λy H2=>r x y H2 Q
noncomputable def tUn(r:V->Hp->VK->Prop)(ta:TE):TE:=λσ H Q=>ta σ H λx H1=>r x H1 Q
noncomputable def rI(C:Int->Int->Prop)(g:Int->Int->V):R2:=λx y H Q=>∃i j,x=.int i/\y=.int j/\C i j/\Q (g i j) H
noncomputable def rI0(g:Int->Int->V):R2:=λx y H Q=>∃i j,x=.int i/\y=.int j/\Q (g i j) H
noncomputable def rU(g:Int->V):V->Hp->VK->Prop:=λx H Q=>∃i,x=.int i/\Q (g i) H
section
variable{X:Cx}{a b c:Expr}{ta tb tc:TE}{pos:Pos}
def alr(ha:PE X a ta)(hb:PE X b tb){pins:List (Addr×Obj)}{s:Shared}{σ:St}{H:Hp}{R:V->V->Hp->Prop}(I:Inv X pins σ H s)
  (h:ta σ H λx H1=>tb σ H1 λy H2=>R x y H2) {Q:Value->Shared->Prop} {f:Value->Value->Sem Value}
  (hf:∀v u q x y H2,Inv X pins σ H2 q->RelV x v->RelV y u->R x y H2->wpAny (model X.prog X.w) X.A (f v u) Q X.xe q):
  wpAny (model X.prog X.w) X.A (eval a X.env) (λv s₁=>wpAny (model X.prog X.w) X.A (eval b X.env) (λu s₂=>wpAny (model X.prog X.w) X.A (f v u) Q X.xe s₂) X.xe s₁) X.xe s:=by
 refine thn (ha pins s σ H _ I h) λv s1 ⟨x,H1,I1,r1,z⟩=>?_;refine thn (hb pins s1 σ H1 _ I1 z) λu q ⟨y,H2,I2,r2,q2⟩=>?_;exact hf v u q x y H2 I2 r1 r2 q2
def ju{op:Operator}{r:R2}(ho:OpR X (binaryOp op) r)(ha:PE X a ta)(hb:PE X b tb):PE X (.BinOp a op b pos) (tOp r ta tb):=by
 intro pins s σ H Q I h;exact wpAny_BinOp (alr ha hb I h λv u z x y H2 I2 rx ry q=>ho pins z σ H2 x y v u Q I2 rx ry q)
def ajj{op:UnaryOp}{r:V->Hp->VK->Prop}(ho:UnR X (unaryOp op) r)(ha:PE X a ta):PE X (.UnaryOp op a pos) (tUn r ta):=by
 intro pins s σ H Q I h;exact UnaryOp_ (thn (ha pins s σ H _ I h) λv z ⟨x,H1,I1,r1,q⟩=>ho pins z σ H1 x v Q I1 r1 q)
def opI{f:Value->Value->Sem Value}{C:Int->Int->Prop}{g:Int->Int->Int}
  (z:∀(i j:Int)(t u:Tok)(s:Shared)(Q:Value->Shared->Prop)(E:Value->Shared->Prop),C i j->Q (.int (g i j) s.toks) {s with toks:=s.toks+1}->wpAny (model X.prog X.w) X.A (f (.int i t) (.int j u)) Q E s):
  OpR X f (rI C λi j=> .int (g i j)):=by
 intro pins s σ H x y v u Q I rx ry h;obtain⟨i,j,rfl,rfl,hc,q⟩:=h;obtain⟨t,rfl⟩:=rx;obtain⟨t',rfl⟩:=ry;exact z i j t t' s _ _ hc ⟨.int (g i j),H,I.tok _,⟨_,rfl⟩,q⟩
def amd{f:Value->Value->Sem Value}{g:Int->Int->Int}
  (z:∀(i j:Int)(t u:Tok)(s:Shared)(Q:Value->Shared->Prop)(E:Value->Shared->Prop),Q (.int (g i j) s.toks) {s with toks:=s.toks+1}->wpAny (model X.prog X.w) X.A (f (.int i t) (.int j u)) Q E s):
  OpR X f (rI0 λi j=> .int (g i j)):=by
 intro pins s σ H x y v u Q I rx ry h;obtain⟨i,j,rfl,rfl,q⟩:=h;obtain⟨t,rfl⟩:=rx;obtain⟨t',rfl⟩:=ry;exact z i j t t' s _ _ ⟨.int (g i j),H,I.tok _,⟨_,rfl⟩,q⟩
def ali{f:Value->Value->Sem Value}{g:Int->Int->Bool}
  (z:∀(i j:Int)(t u:Tok)(s:Shared)(Q:Value->Shared->Prop)(E:Value->Shared->Prop),Q (.bool (g i j)) s->wpAny (model X.prog X.w) X.A (f (.int i t) (.int j u)) Q E s):
  OpR X f (rI0 λi j=> .bl (g i j)):=by
 intro pins s σ H x y v u Q I rx ry h;obtain⟨i,j,rfl,rfl,q⟩:=h;obtain⟨t,rfl⟩:=rx;obtain⟨t',rfl⟩:=ry;exact z i j t t' s _ _ ⟨.bl (g i j),H,I,rfl,q⟩
noncomputable def alE(i j:Int):Prop:=0<=j/\j<=1000000/\i.natAbs<2^64
noncomputable def alN(i j:Int):Prop:=(-(2^64)<i/\i<2^64)\/(-(2^64)<j/\j<2^64)
def alN.ok{i j:Int}(h:alN i j):IntMulOk i j:=by
 rcases h with⟨h1,h2⟩|⟨h1,h2⟩
 ·exact .of_left (intBits_le_64 h1 h2)
 ·exact .of_right (intBits_le_64 h1 h2)
def kE:OpR X (binaryOp .Add) (rI0 λi j=> .int (i+j)):=amd λ_ _ _ _ _ _ _ q=>add_int q
def pY:OpR X (binaryOp .Sub) (rI0 λi j=> .int (i - j)):=amd λ_ _ _ _ _ _ _ q=>sub_int q
def um:OpR X (binaryOp .Mod) (rI (λ_ j=>0<j) λi j=> .int (i%j)):=opI λi j _ _ _ _ _ z q=>by
 have h1:(0:Int)<j:=z;exact mod_int' (by omega) (by rw[Int.fmod_eq_emod_of_nonneg i (by omega)];exact q)
def uo:OpR X (binaryOp .Pow) (rI alE λi j=> .int (i^j.toNat)):=opI λ_ _ _ _ _ _ _ z q=>pow_int_small z.1 z.2.1 z.2.2 q
def unI{f:Value->Sem Value}{g:Int->Int}
  (z:∀(i:Int)(t:Tok)(s:Shared)(Q:Value->Shared->Prop)(E:Value->Shared->Prop),Q (.int (g i) s.toks) {s with toks:=s.toks+1}->wpAny (model X.prog X.w) X.A (f (.int i t)) Q E s):
  UnR X f (rU λi=> .int (g i)):=by
 intro pins s σ H x v Q I rx h;obtain⟨i,rfl,q⟩:=h;obtain⟨t,rfl⟩:=rx;exact z i t s _ _ ⟨.int (g i),H,I.tok _,⟨_,rfl⟩,q⟩
def YJ:UnR X (unaryOp .USub) (rU λi=> .int (-i)):=unI λ_ _ _ _ _ q=>neg_int q
end
noncomputable def ajk:V->V->Bool
 |.non,.non=>true|.non,.int _=>true|.int _,.non=>true|.non,.bl _=>true|.bl _,.non=>true|.non,.str _=>true|.str _,.non=>true
 |.int _,.int _=>true|.bl _,.bl _=>true|.str _,.str _=>true|.byt _,.byt _=>true
 |.int _,.str _=>true|.str _,.int _=>true|.bl _,.str _=>true|.str _,.bl _=>true
 |_,_=>false
noncomputable def rEq:R2:=λx y H Q=>ajk x y=true/\Q (.bl (decide (x=y))) H
noncomputable def rNe:R2:=λx y H Q=>ajk x y=true/\Q (.bl (!decide (x=y))) H
def Wy{i j:Int}:decide (V.int i=V.int j)=(i==j):=by
 rw[yQ];simp
def aaZ{i j:Bool}:decide (V.bl i=V.bl j)=(i==j):=by
 rw[yQ];simp
def Yu{i j:Str}:decide (V.str i=V.str j)=(i==j):=by
 rw[yQ];simp
def XS{i j:Array UInt8}:decide (V.byt i=V.byt j)=(i.toList==j.toList):=by
 rw[yQ];cases i;cases j;simp
section
variable{X:Cx}{a b c:Expr}{ta tb tc:TE}{pos:Pos}
def lg{pins:List (Addr×Obj)}{σ:St}{H:Hp}{s:Shared}{Q:VK}{k z:Bool}(I:Inv X pins σ H s)(q:Q (.bl k) H)(e:k=z):EP X pins σ Q (.bool z) s:=by
 subst e;exact⟨.bl k,H,I,rfl,q⟩
def mW:OpR X (compareOp .Eq) rEq:=by
 intro pins s σ H x y v u Q I rx z h;obtain⟨hs,q⟩:=h
 cases x with
 |non=>
  cases rx
  cases y with
  |non=>cases z;exact PySem.EqNone.eq_none_none (lg I q (by simp))
  |bl j=>cases z;exact PySem.EqNone.eq_none_bool (lg I q (by simp))
  |int j=>obtain⟨t',rfl⟩:=z;exact PySem.EqNone.eq_none_int (lg I q (by simp))
  |str j=>obtain⟨t',rfl⟩:=z;exact PySem.EqNone.eq_none_str (lg I q (by simp))
  |_=>exact absurd (show false=true from hs) zM
 |bl i=>
  cases rx
  cases y with
  |non=>cases z;exact PySem.EqNone.eq_bool_none (lg I q (by simp))
  |bl j=>cases z;exact eq_bool (lg I q aaZ)
  |str j=>obtain⟨t',rfl⟩:=z;exact PySem.EqMixed.eq_bool_str (lg I q (by simp))
  |_=>exact absurd (show false=true from hs) zM
 |int i=>
  obtain⟨t,rfl⟩:=rx
  cases y with
  |non=>cases z;exact PySem.EqNone.eq_int_none (lg I q (by simp))
  |int j=>obtain⟨t',rfl⟩:=z;exact eq_int (lg I q Wy)
  |str j=>obtain⟨t',rfl⟩:=z;exact PySem.EqMixed.eq_int_str (lg I q (by simp))
  |_=>exact absurd (show false=true from hs) zM
 |str i=>
  obtain⟨t,rfl⟩:=rx
  cases y with
  |non=>cases z;exact PySem.EqNone.eq_str_none (lg I q (by simp))
  |bl j=>cases z;exact PySem.EqMixed.eq_str_bool (lg I q (by simp))
  |int j=>obtain⟨t',rfl⟩:=z;exact PySem.EqMixed.eq_str_int (lg I q (by simp))
  |str j=>obtain⟨t',rfl⟩:=z;exact eq_str (lg I q Yu)
  |_=>exact absurd (show false=true from hs) zM
 |byt i=>
  obtain⟨t,rfl⟩:=rx
  cases y with
  |byt j=>obtain⟨t',rfl⟩:=z;exact PySem.W.eq_bytes (lg I q XS)
  |_=>exact absurd (show false=true from hs) zM
 |_=>cases y<;>exact absurd (show false=true from hs) zM
def alP:OpR X (compareOp .NotEq) rNe:=by
 intro pins s σ H x y v u Q I rx z h;obtain⟨hs,q⟩:=h
 cases x with
 |non=>
  cases rx
  cases y with
  |non=>cases z;exact PySem.EqNone.ne_none_none (lg I q (by simp))
  |bl j=>cases z;exact PySem.EqNone.ne_none_bool (lg I q (by simp))
  |int j=>obtain⟨t',rfl⟩:=z;exact PySem.EqNone.ne_none_int (lg I q (by simp))
  |str j=>obtain⟨t',rfl⟩:=z;exact PySem.EqNone.ne_none_str (lg I q (by simp))
  |_=>exact absurd (show false=true from hs) zM
 |bl i=>
  cases rx
  cases y with
  |non=>cases z;exact PySem.EqNone.ne_bool_none (lg I q (by simp))
  |bl j=>cases z;exact ne_bool (lg I q (congrArg not aaZ))
  |str j=>obtain⟨t',rfl⟩:=z;exact PySem.EqMixed.ne_bool_str (lg I q (by simp))
  |_=>exact absurd (show false=true from hs) zM
 |int i=>
  obtain⟨t,rfl⟩:=rx
  cases y with
  |non=>cases z;exact PySem.EqNone.ne_int_none (lg I q (by simp))
  |int j=>obtain⟨t',rfl⟩:=z;exact ne_int (lg I q (congrArg not Wy))
  |str j=>obtain⟨t',rfl⟩:=z;exact PySem.EqMixed.ne_int_str (lg I q (by simp))
  |_=>exact absurd (show false=true from hs) zM
 |str i=>
  obtain⟨t,rfl⟩:=rx
  cases y with
  |non=>cases z;exact PySem.EqNone.ne_str_none (lg I q (by simp))
  |bl j=>cases z;exact PySem.EqMixed.ne_str_bool (lg I q (by simp))
  |int j=>obtain⟨t',rfl⟩:=z;exact PySem.EqMixed.ne_str_int (lg I q (by simp))
  |str j=>obtain⟨t',rfl⟩:=z;exact ne_str (lg I q (congrArg not Yu))
  |_=>exact absurd (show false=true from hs) zM
 |byt i=>
  obtain⟨t,rfl⟩:=rx
  cases y with
  |byt j=>obtain⟨t',rfl⟩:=z;exact PySem.W.ne_bytes (lg I q (congrArg not XS))
  |_=>exact absurd (show false=true from hs) zM
 |_=>cases y<;>exact absurd (show false=true from hs) zM
def Qz:OpR X (compareOp .Lt) (rI0 λi j=> .bl (decide (i<j))):=ali λ_ _ _ _ _ _ _ q=>lt_int q
def aiy:OpR X (compareOp .LtE) (rI0 λi j=> .bl (decide (i<=j))):=ali λ_ _ _ _ _ _ _ q=>le_int q
def Ke:OpR X (compareOp .Gt) (rI0 λi j=> .bl (decide (j<i))):=ali λ_ _ _ _ _ _ _ q=>gt_int q
def akM:OpR X (compareOp .GtE) (rI0 λi j=> .bl (decide (j<=i))):=ali λ_ _ _ _ _ _ _ q=>ge_int q
def Fy:OpR X (compareOp .Is) (λx y H Q=>y=.non/\Q (.bl (decide (x=.non))) H):=by
 intro pins s σ H x y v u Q I z ry h;obtain⟨rfl,q⟩:=h;cases ry;refine is_none_gen (lg I q ?_)
 cases x<;>first
  |(cases z;rfl)
  |(obtain⟨t,rfl⟩:=z;rfl)
def Nh:OpR X (compareOp .IsNot) (λx y H Q=>y=.non/\Q (.bl (!decide (x=.non))) H):=by
 intro pins s σ H x y v u Q I z ry h;obtain⟨rfl,q⟩:=h;cases ry;refine isnot_none_gen (lg I q ?_)
 cases x<;>first
  |(cases z;rfl)
  |(obtain⟨t,rfl⟩:=z;rfl)
def jr(b:Expr){op:CmpOp}(h:op≠.In:=by decide)(h2:op≠.NotIn:=by decide):behindInMarks op b=false:=by
 have z:(op==CmpOp.In)=false:=by cases op<;>first|rfl|exact absurd rfl h
 have q:(op==CmpOp.NotIn)=false:=by cases op<;>first|rfl|exact absurd rfl h2
 cases b<;>simp[behindInMarks,z,q]
def uU{op:CmpOp}{r:R2}(ho:OpR X (compareOp op) r)(ha:PE X a ta)(hb:PE X b tb)(hm:behindInMarks op b=false):PE X (.Compare a [op] [b] pos) (tOp r ta tb):=by
 intro pins s σ H Q I h;exact wpAny_Compare1 (alr ha hb I h λv u z x y H2 I2 rx ry q=>ho pins z σ H2 x y v u Q I2 rx ry q) hm
noncomputable def Cr(t:TE):TT:=λσ H Q=>t σ H λx H'=>∃k,x=.bl k/\Q k H'
def jl{op:CmpOp}{r:R2}(ho:OpR X (compareOp op) r)(ha:PE X a ta)(hb:PE X b tb)(hm:behindInMarks op b=false):PT X (.Compare a [op] [b] pos) (Cr (tOp r ta tb)):=by
 intro pins s σ H Q I h
 refine wpAny_isTrue_Compare1 (thn (ha pins s σ H _ I h) λv s1 ⟨x,H1,I1,r1,q1⟩=>thn (hb pins s1 σ H1 _ I1 q1) λu s2 ⟨y,H2,I2,r2,q2⟩=>
  thn (ho pins s2 σ H2 x y v u _ I2 r1 r2 q2) λc s3 ⟨z,H3,I3,r3,k,e,q⟩=>?_) hm
 subst e;cases r3;exact yr ⟨H3,I3,q⟩
noncomputable def aaM(r r':R2)(ta tb tc:TE):TE:=λσ H Q=>ta σ H λx H1=>tb σ H1 λy H2=>r x y H2 λz H3=>∃k,z=.bl k/\
 (if k=true then tc σ H3 λw' H4=>r' y w' H4 Q else Q (.bl false) H3)
def aaz{op q:CmpOp}{r r':R2}(ho:OpR X (compareOp op) r)(aa:OpR X (compareOp q) r')(ha:PE X a ta)(hb:PE X b tb)(hc:PE X c tc)
  (hm:lastMarks [op,q] [b,c]=false:=by with_unfolding_all rfl):PE X (.Compare a [op,q] [b,c] pos) (aaM r r' ta tb tc):=by
 intro pins s σ H Q I h
 refine Compare_chain (thn (ha pins s σ H _ I h) λv s1 ⟨x,H1,I1,r1,q1⟩=>chain_link (thn (hb pins s1 σ H1 _ I1 q1) λu s2 ⟨y,H2,I2,r2,q2⟩=>
  thn (ho pins s2 σ H2 x y v u _ I2 r1 r2 q2) λd s3 ⟨z,H3,I3,r3,k,e,q3⟩=>?_)) hm
 subst e;cases r3;refine yr ?_
 cases k with
 |false=>exact ite_ff ⟨.bl false,H3,I3,rfl,q3⟩
 |true=>exact ite_tt (chain_last (thn (hc pins s3 σ H3 _ I3 q3) λw' s4 ⟨z',H4,I4,r4,q4⟩=>aa pins s4 σ H4 y z' u w' Q I4 r2 r4 q4))
def Qu:(sizeLine:Nat)<2^63:=by rw[zq];decide
def vals1{x:V}{us:List Value}(r:Vals [x] us):∃u,us=[u]/\RelV x u:=by
 cases r with
 |cons r1 r2=>cases r2;exact⟨_,rfl,r1⟩
def vals2{x y:V}{us:List Value}(r:Vals [x,y] us):∃u q,us=[u,q]/\RelV x u/\RelV y q:=by
 cases r with
 |cons r1 r2=>
  cases r2 with
  |cons r3 r4=>cases r4;exact⟨_,_,rfl,r1,r3⟩
def Yz(hc:X.calm=true):nT X (.builtin "min") (λxs H Q=>∃i j,xs=[.int i,.int j]/\Q (.int (if j<i then j else i)) H):=by
 intro pins s σ H xs us Q I r h;obtain⟨i,j,rfl,q⟩:=h;obtain⟨u,w',rfl,⟨t,rfl⟩,⟨t',rfl⟩⟩:=vals2 r;refine min_two_ints (I.ok.hd hc) λh' tk k=>⟨_,H,I.kept k,?_,q⟩;by_cases z:j<i
 ·rw[zo z,zo z];exact⟨_,rfl⟩
 ·rw[ze z,ze z];exact⟨_,rfl⟩
def Xw:nT X (.type "int") (λxs H Q=>(∃i,xs=[.int i]/\Q (.int i) H)\/∃k,xs=[.bl k]/\Q (.int (if k then 1 else 0)) H):=by
 intro pins s σ H xs us Q I r h;rcases h with⟨i,rfl,q⟩|⟨k,rfl,q⟩
 ·obtain⟨u,rfl,t,rfl⟩:=vals1 r
  exact call_int_int ⟨.int i,H,I,⟨_,rfl⟩,q⟩
 ·obtain⟨u,rfl,z⟩:=vals1 r
  cases z;exact call_int_bool ⟨.int (if k then 1 else 0),H,I.tok _,⟨_,rfl⟩,q⟩
end
end L2
namespace L2
open PySem PySem.Spec PyProof.Rows
structure aix(h:Heap)(x dx C:Addr)(mA:Str->Option Value):Prop where
 obj:h.get? x=some (PySem.W.instObj C dx)
 ns:h.Ns1 dx mA
 ne:dx≠x
def Yg{h:Heap}{dx:Addr}{mA:Str->Option Value}(n:h.Ns1 dx mA):∃od,h.get? dx=some od/\∀name,PySem.W.lookIn name od=some (mA name):=by
 obtain⟨o,es,ep,ho,hd,hk,_,hm⟩:=n;refine⟨o,ho,λname=>?_⟩;have e:=hm name;unfold nsFind findBy at e;rw[<-Array.find?_toList]at e;unfold PySem.W.lookIn;rw[hd];dsimp only;split
 ·rename_i y q
  rw[q]at e;exact congrArg some e
 ·rename_i q
  rw[q]at e
  have a:es.toList.any (·.refKey)=false:=by
   rw[List.any_eq_false];intro y hy;obtain⟨z,t,aa⟩:=hk y (Array.mem_toList_iff.mp hy);simp[DictEntry.refKey,aa]
  have a':¬es.toList.any (·.refKey)=true:=by rw[a];exact zM
  rw[ze a'];exact congrArg some e
def aix.look{h:Heap}{x dx C:Addr}{mA:Str->Option Value}(I:aix h x dx C mA):∃q,PySem.W.InstAt h x (PySem.W.instObj C dx) C (some q)/\∀name,PySem.W.lookIn name q=some (mA name):=
 let⟨q,ho,hl⟩:=Yg I.ns
 ⟨q,⟨I.obj,rfl,rfl,ho⟩,hl⟩
section
variable{prog:Program}{w:World}{A:Around}{E:Value->Shared->Prop}{s:Shared}{K:Fg_}{x dx C f:Addr}{mA:Str->Option Value}{name:Str}{v:Value}
def get_map{q:Bool}{Q:Value->Shared->Prop}(X:K.In s.heap)(I:aix s.heap x dx C mA)(hg:PySem.W.plainGet K C name=true)(hh:PySem.W.hasDictIn K C=true)
  (ha:PySem.W.findIn K (.ref C) name=some none) (hv:mA name=some v) (z:PySem.W.handedIn v=true) (h:Q v {s with toks:=s.toks+1}):
  wpAny (model prog w) A (getAttr (.ref x) name q) Q E s:=by
 obtain⟨od,J,hl⟩:=I.look;exact PySem.W.get_value X J (zzJ hg).1 (PySem.W.findObj_own hh ha rfl (by rw[hl,hv])) z h
def ZV{pl:Sem Bool}{Q:Value×List Value->Shared->Prop}(X:K.In s.heap)(I:aix s.heap x dx C mA)(q:PySem.W.plainGet K C name=true)
  (hf:PySem.W.findIn K (.ref C) name=some (some (.ref f))) (z:PySem.W.isFn K (.ref f)=true) (hv:mA name=none) (h:Q (.ref f,[.ref x]) s):
  wpAny (model prog w) A (getMethod (.ref x) name pl) Q E s:=by
 obtain⟨od,J,hl⟩:=I.look;exact PySem.W.method_fn X J (zzJ q).1 (zzJ q).2 hf (beq_iff_eq.mp z) (by show(PySem.W.lookIn name od).map (·.isSome)=some false;rw[hl,hv];rfl) h
def ajh{ns:List Str}{Q:Unit->Shared->Prop}(X:K.In s.heap)(I:aix s.heap x dx C mA)
  (hs:PySem.W.findIn K (.ref C) "__setattr__" =some (some (.builtin "object.__setattr__"))) (hp:PySem.W.plainOver K C=true) (ht:PySem.W.takerIn K C name=some none) (hh:PySem.W.hasDictIn K C=true)
  (hw:PySem.Within mA ns) (hsz:ns.length<=sizeLine)
  (h:∀h',aix h' x dx C (λy=>if y=name then some v else mA y)->Heap.SameBut dx s.heap h'->Q () {s with heap:=h',toks:=s.toks+2}):
  wpAny (model prog w) A (setAttr (.ref x) name v) Q E s:=by
 obtain⟨od,J,hl⟩:=I.look;refine PySem.W.set_plain X J hs (PySem.W.osa_open (s:={s with toks:=s.toks+1}) (r:=none) X J hp ht λb=>?_);obtain⟨cd,hc,ad⟩:=PySem.W.any_some hh;have hx:s.heap.get? x=some ⟨.ref C,some dx,.plain, #[]⟩:=I.obj;refine zc (zy (zc (zc (wpAny_loadPart hx (zc (PySem.W.Looks.here (s:={s with toks:=s.toks+1}) (PySem.W.looks_clsIn X hc) ?_))))));rw[ad];refine zy (a:=some dx) (zc (zy (zc ?_)));refine wpAny_nsSet1 (s:={s with toks:=s.toks+1}) I.ns λh' q z=>?_;obtain⟨oD,af,ae,ac,aa,ab⟩:=q.count (PySem.Within.cons name v hw);refine zc (wpAny_lookBehind ac (by rw[aa];exact pastItsLine_dict (zV ab (by rw[zL];omega))) ?_);exact zy (h _ ⟨(z.2 _ (Ne.symm I.ne)).trans I.obj,q,I.ne⟩ z)
def Zr{R:Result->Shared->Prop}{vs:List Value}{q:List (Str×Value)}(X:K.In s.heap)(hm:PySem.W.makesIn K C=true)
  (hi:PySem.W.findIn K (.ref C) "__init__" =some (some (.ref f))) (z:PySem.W.typeIn K (.ref f)=some (.type "function"))
  (h:codeAny (model prog w) (A.under (.builtin "type.__call__" ⟨.ref C::vs,q⟩)) (.call (.ref f) ⟨.ref (s.heap.objs.size+1)::vs,q⟩) (PySem.W.InitBack (s.heap.objs.size+1) R)
   {s with heap:=(s.heap.push PySem.W.emptyDict).push (PySem.W.instObj C s.heap.objs.size)}):
  codeAny (model prog w) A (.call (.ref C) ⟨vs,q⟩) R s:=by
 obtain⟨hh,g,d,t,os⟩:=s;exact PySem.W.make_core (zz0 X hm) (PySem.W.looks_findIn X hi) (λself=>PySem.W.bind_fn X self z) (.inl rfl) h
def Ww{R:Result->Shared->Prop}(X:K.In s.heap)(hm:PySem.W.makesIn K C=true)
  (hi:PySem.W.findIn K (.ref C) "__init__" =some (some (.builtin "object.__init__")))
  (q:∀self,PySem.W.Looks (model prog w) s.heap (bindSpecial (.builtin "object.__init__") self) (.builtin "object.__init__",[self]))
  (h:codeAny (model prog w) (A.under (.builtin "type.__call__" ⟨[.ref C],[]⟩)) (.call (.builtin "object.__init__") ⟨[.ref (s.heap.objs.size+1)],[]⟩) (PySem.W.InitBack (s.heap.objs.size+1) R)
   {s with heap:=(s.heap.push PySem.W.emptyDict).push (PySem.W.instObj C s.heap.objs.size)}):
  codeAny (model prog w) A (.call (.ref C) ⟨[],[]⟩) R s:=by
 obtain⟨z,g,d,t,os⟩:=s;exact PySem.W.make_core (zz0 X hm) (PySem.W.looks_findIn X hi) q (.inr ⟨rfl,rfl⟩) h
end
noncomputable def DP(f:Str)(v:V):List (Str×V)->List (Str×V)
 |[]=>[(f,v)]
 |(g,x)::r=>if g=f then(g,v)::r else(g,x)::DP f v r
theorem Kc(f g:Str)(v:V):∀fs:List (Str×V),(DP f v fs).lookup g=if g=f then some v else fs.lookup g
 |[]=>by
  show List.lookup g [(f,v)]=_;by_cases h:g=f
  ·have q:(g==f)=true:=beq_iff_eq.mpr h
   simp only[List.lookup,q,zo h]
  ·have q:(g==f)=false:=beq_eq_false_iff_ne.mpr h
   simp only[List.lookup,q,ze h]
 |(k,x)::r=>by
  have ih:=Kc f g v r;rw[show DP f v ((k,x)::r)=(if k=f then(k,v)::r else(k,x)::DP f v r)from rfl];by_cases z:k=f
  ·rw[zo z]
   by_cases h:g=k
   ·have q:(g==k)=true:=beq_iff_eq.mpr h
    simp only[List.lookup,q,zo (h.trans z)]
   ·have q:(g==k)=false:=beq_eq_false_iff_ne.mpr h
    simp only[List.lookup,q,ze (λe:g=f=>h (e.trans z.symm))]
  ·rw[ze z]
   by_cases h:g=k
   ·have q:(g==k)=true:=beq_iff_eq.mpr h
    simp only[List.lookup,q,ze (λe:g=f=>z (h.symm.trans e))]
   ·have q:(g==k)=false:=beq_eq_false_iff_ne.mpr h
    simp only[List.lookup,q];exact ih
theorem Jc(f:Str)(v:V):∀fs:List (Str×V),f∈(DP f v fs).map (·.1)/\∀g,g∈fs.map (·.1)->g∈(DP f v fs).map (·.1)
 |[]=>⟨by simp[DP],λg h=>by simp at h⟩
 |(k,x)::r=>by
  obtain⟨z,i2⟩:=Jc f v r;rw[show DP f v ((k,x)::r)=(if k=f then(k,v)::r else(k,x)::DP f v r)from rfl];by_cases q:k=f
  ·rw[zo q]
   subst q;exact⟨by simp,λg h=>by simpa using h⟩
  ·rw[ze q]
   refine⟨?_,λg h=>?_⟩
   ·rw[zl]
    exact zp _ z
   ·rw[zl]at h⊢
    rcases zu.mp h with e|e
    ·exact zu.mpr (.inl e)
    ·exact zp _ (i2 g e)
theorem JF(f:Str)(v:V):∀fs:List (Str×V),(DP f v fs).length<=fs.length+1
 |[]=>by simp[DP]
 |(k,x)::r=>by
  have z:=JF f v r;rw[show DP f v ((k,x)::r)=(if k=f then(k,v)::r else(k,x)::DP f v r)from rfl];by_cases q:k=f
  ·rw[zo q,zL,zL];omega
  ·rw[ze q,zL,zL];omega
def KQ.some_of{v:V}{o:Option Value}(r:KQ (some v) o):∃u,o=some u/\RelV v u:=by
 cases o with
 |none=>exact(show False from r).elim
 |some u=>exact⟨u,rfl,r⟩
def KQ.none_of{o:Option Value}(r:KQ none o):o=none:=by
 cases o with
 |none=>rfl
 |some u=>exact(show False from r).elim
def WL{v:V}{u:Value}(r:RelV v u):PySem.W.handedIn u=true:=by
 cases v with
 |non=>cases (show u=Value.none from r);rfl
 |bl b=>cases (show u=Value.bool b from r);rfl
 |int i=>obtain⟨t,e⟩:=(show∃t,u=Value.int i t from r);cases e;rfl
 |str x=>obtain⟨t,e⟩:=(show∃t,u=Value.str x t from r);cases e;rfl
 |byt b=>obtain⟨t,e⟩:=(show∃t,u=Value.bytes b t from r);cases e;rfl
 |flt b=>obtain⟨t,e⟩:=(show∃t,u=Value.float b t from r);cases e;rfl
 |ref a=>cases (show u=Value.ref a from r);rfl
 |ty n=>cases (show u=Value.type n from r);rfl
section
variable{P:Program}{w:World}{H H':Hp}{h h':Heap}{a C dx:Addr}{fs fs':List (Str×V)}
def Ms(hok:HOk P w H h)(e:H a=some (.ins C dx fs)):∃mA,aix h a dx C mA/\(∀f,KQ (fs.lookup f) (mA f))/\PySem.Within mA (fs.map (·.1))/\fs.length<=1000/\H dx=some (.own a):=by
 obtain⟨d,z,ne,ob,mA,n,r,q⟩:=(show mq P w H h a (.ins C dx fs)from hok a _ e);exact⟨mA,⟨ob,n,ne⟩,r,q,z,d⟩
end
structure Cls(K:Fg_)(C:Addr):Prop where
 pg:PySem.W.plainGet K C Str.empty=true
 hd:PySem.W.hasDictIn K C=true
 po:PySem.W.plainOver K C=true
 sa:PySem.W.findIn K (.ref C) "__setattr__" =some (some (.builtin "object.__setattr__"))
def Cls.get{K:Fg_}{C:Addr}(c:Cls K C)(f:Str):PySem.W.plainGet K C f=true:=c.pg
noncomputable def jg(K:Fg_)(C:Addr)(f:Str):Prop:=PySem.W.findIn K (.ref C) f=some none
def jg.taker{K:Fg_}{C:Addr}{f:Str}(n:jg K C f):PySem.W.takerIn K C f=some none:=by
 unfold PySem.W.takerIn;rw[show PySem.W.findIn K (.ref C) f=some none from n];rfl
structure Con(K:Fg_)(C:Addr)(f:Str)(v:V)(u:Value):Prop where
 at_:PySem.W.findIn K (.ref C) f=some (some u)
 rel:RelV v u
 get:PySem.W.specialIn K u "__get__" =some none
 cp:PySem.W.copiedNames.contains f=false
structure Meth(K:Fg_)(C:Addr)(m:Str)(f:Addr):Prop where
 at_:PySem.W.findIn K (.ref C) m=some (some (.ref f))
 fn:PySem.W.isFn K (.ref f)=true
 kp:PySem.W.keepIn K (.ref f)=true
section
variable{X:Cx}{pins:List (Addr×Obj)}{σ:St}{H:Hp}{s:Shared}{a C dx:Addr}{fs:List (Str×V)}{f:Str}{v:V}{A:Around}{E:Value->Shared->Prop}
def Wc{b:Bool}{Q:Value->Shared->Prop}(I:Inv X pins σ H s)(e:H a=some (.ins C dx fs))(c:Cls X.K C)(n:jg X.K C f)(l:fs.lookup f=some v)
  (h:∀u s',Inv X pins σ H s'->RelV v u->Q u s'):wpAny (model X.prog X.w) A (getAttr (.ref a) f b) Q E s:=by
 obtain⟨mA,O,r,_,_,_⟩:=Ms I.hok e;obtain⟨u,z,q⟩:=KQ.some_of (v:=v) (o:=mA f) (by rw[<-l];exact r f);exact get_map I.kIn O (c.get f) c.hd n z (WL q) (h u _ (I.tok _) q)
def LQ{m:Str}{g:Addr}{pl:Sem Bool}{Q:Value×List Value->Shared->Prop}(I:Inv X pins σ H s)(e:H a=some (.ins C dx fs))(c:Cls X.K C)(k:Meth X.K C m g)(l:fs.lookup m=none)
  (h:Q (.ref g,[.ref a]) s):wpAny (model X.prog X.w) A (getMethod (.ref a) m pl) Q E s:=by
 obtain⟨mA,O,r,_,_,_⟩:=Ms I.hok e;have hn:mA m=none:=KQ.none_of (by rw[<-l];exact r m);exact ZV I.kIn O (c.get m) k.at_ k.fn hn h
def Vr{y:V}{u:Value}{Q:Unit->Shared->Prop}(I:Inv X pins σ H s)(e:H a=some (.ins C dx fs))(c:Cls X.K C)(n:jg X.K C f)(hl:fs.length<1000)(ry:RelV y u)
  (h:∀s',Inv X pins σ (upd H a (.ins C dx (DP f y fs))) s'->Q () s'):wpAny (model X.prog X.w) A (setAttr (.ref a) f u) Q E s:=by
 obtain⟨mA,O,r,wi,_,ho⟩:=Ms I.hok e;have hz:(fs.map (·.1)).length<=sizeLine:=by rw[za,zq];omega
 refine ajh I.kIn O c.sa c.po n.taker c.hd wi hz λh' O' sb=>h _ ?_;have hd:∃o,h'.get? dx=some o:=let⟨o,_,_,e',_⟩:=O'.ns;⟨o,e'⟩
 refine I.write (x:=a) (e:=dx) (by rw[e];exact True.intro) (.inr ho) (λb q hb z=>(sb.2 b hb).trans z) hd ?_;refine⟨by rw[iU O.ne];exact ho,?_,O.ne,O'.obj,_,O'.ns,λg=>?_,λg hg=>?_⟩
 ·have:=JF f y fs;omega
 ·show KQ ((DP f y fs).lookup g) (if g=f then some u else mA g)
  rw[Kc];by_cases q:g=f
  ·rw[zo q,zo q];exact ry
  ·rw[ze q,ze q];exact r g
 ·by_cases q:g=f
  ·rw[q];exact(Jc f y fs).1
  ·refine(Jc f y fs).2 g (wi g λz=>hg ?_)
   show(if g=f then some u else mA g)=none;rw[ze q];exact z
def Inv.made(I:Inv X pins σ H s):Inv X pins σ (upd (upd H s.heap.objs.size (.own (s.heap.objs.size+1))) (s.heap.objs.size+1) (.ins C s.heap.objs.size []))
  {s with heap:=(s.heap.push PySem.W.emptyDict).push (PySem.W.instObj C s.heap.objs.size)}:=by
 have z:(s.heap.push PySem.W.emptyDict).get? s.heap.objs.size=some PySem.W.emptyDict:=zB s.heap rfl
 have e2:((s.heap.push PySem.W.emptyDict).push (PySem.W.instObj C s.heap.objs.size)).get? (s.heap.objs.size+1)=some (PySem.W.instObj C s.heap.objs.size):=by
  have:=zB (s.heap.push PySem.W.emptyDict) (o:=PySem.W.instObj C s.heap.objs.size) rfl
  rwa [zzp]at this
 have e3:(s.heap.push PySem.W.emptyDict).Ns s.heap.objs.size (λ_=>none):=⟨PySem.W.emptyDict, #[],_,z,rfl,(λe he=>absurd he (by simp)),λ_=>rfl⟩;have I1:=I.laid (a:=s.heap.objs.size) (o:=.own (s.heap.objs.size+1)) (h':=s.heap.push PySem.W.emptyDict) (t':=s.toks) (λb u q=>zb _ q) (zg _) ⟨_,z⟩;refine I1.laid (a:=s.heap.objs.size+1) (o:=.ins C s.heap.objs.size []) (t':=s.toks) (λb u q=>zb _ q) (zz7 (zzp _ _)) ?_;have ne:s.heap.objs.size≠s.heap.objs.size+1:=zD (zzz _);refine⟨by rw[iU ne,iH],zJ _,ne,e2,λ_=>none,(Heap.Ns1.of_empty e3).at λo q=>zb _ q,λ_=>True.intro,λy hy=>absurd rfl hy⟩
def aiG{prog:Program}{w:World}{env:Env}{e:Expr}{f:Str}{pos:Pos}{s:Shared}{Q:Value->Shared->Prop}(q:attributeBase e f env (eval e env)=eval e env)
  (h:wpAny (model prog w) A (eval e env) (λo z=>wpAny (model prog w) A (getAttr o f true) Q E z) E s):wpAny (model prog w) A (eval (.Attribute e f pos) env) Q E s:=
 Attribute_any_ h (by rw[arm_eval_Attribute,q])
end
noncomputable def akz(K:Fg_)(ta:TE)(f:Str):TE:=λσ H Q=>ta σ H λx H1=>∃a C dx fs v,x=.ref a/\H1 a=some (.ins C dx fs)/\Cls K C/\jg K C f/\fs.lookup f=some v/\Q v H1
noncomputable def akv(K:Fg_)(ta tv:TE)(f:Str):TS:=λD σ H=>tv σ H λy H1=>ta σ H1 λx H2=>∃a C dx fs,x=.ref a/\H2 a=some (.ins C dx fs)/\Cls K C/\jg K C f/\fs.length<1000/\
 D.nx σ (upd H2 a (.ins C dx (DP f y fs)))
section
variable{X:Cx}{o e value:Expr}{f:Str}{pos pos' tpos:Pos}{ta tv:TE}
def akh(he:PE X e ta)(hb:attributeBase e f X.env (eval e X.env)=eval e X.env):PE X (.Attribute e f pos) (akz X.K ta f):=by
 intro pins s σ H Q I h;refine aiG hb (thn (he pins s σ H _ I h) λu s1 ⟨x,H1,I1,rx,a,C,dx,fs,v,ex,ea,c,n,l,q⟩=>?_);subst ex;obtain rfl:u=Value.ref a:=rx;exact Wc I1 ea c n l λu' s2 I2 z=>⟨v,H1,I2,z,q⟩
def ala(ha:PE X o ta)(hv:PE X value tv)(hs:swapsWith value (some (.Attribute o f pos')) pos.line X.env=pure false):PS X (.Assign [.Attribute o f pos'] value pos) (akv X.K ta tv f):=by
 intro pins s σ H D I h;refine plainObj_wpAny_Assign_Attribute (thn (hv pins s σ H _ I h) λu s1 ⟨y,H1,I1,ry,q⟩=>thn (ha pins s1 σ H1 _ I1 q) λov s2 ⟨x,H2,I2,rx,a,C,dx,fs,ex,ea,c,n,l,q2⟩=>?_) hs;subst ex;obtain rfl:ov=Value.ref a:=rx;exact Vr I2 ea c n l ry λs3 z=>⟨σ,_,z,q2⟩
end
section
variable{X:Cx}{pins:List (Addr×Obj)}{σ:St}{H:Hp}{s:Shared}{A:Around}{E:Value->Shared->Prop}{Q:Value->Shared->Prop}{c:Value}{b:Bool}
inductive Kd(K:Fg_)(H:Hp):V->Value->Prop where
 |non:Kd K H .non (.type "NoneType")
 |bl (x:Bool):Kd K H (.bl x) (.type "bool")
 |int (i:Int):Kd K H (.int i) (.type "int")
 |str (x:Str):Kd K H (.str x) (.type "str")
 |flt (x:UInt64):Kd K H (.flt x) (.type "float")
 |lst {a:Addr} {xs:List V} (e:H a=some (.lst xs)):Kd K H (.ref a) (.type "list")
 |frz {a:Addr} {o:Obj} {xs:List V} (e:H a=some (.frz o (.lst xs))):Kd K H (.ref a) (.type "list")
 |tup {a:Addr} {xs:List V} (e:H a=some (.tup xs)):Kd K H (.ref a) (.type "tuple")
 |dK {a:Addr} {kvs:List (Key×V)} (e:H a=some (.dK kvs)):Kd K H (.ref a) (.type "dict")
 |dT {a:Addr} {kvs:List (List Key×V)} (e:H a=some (.dT kvs)):Kd K H (.ref a) (.type "dict")
 | ins {a C dx:Addr} {fs:List (Str×V)} (e:H a=some (.ins C dx fs)) (cl:Cls K C) (ha:PySem.W.findIn K (.ref C) "__class__" =some (some (.builtin "object.__class__")))
   (hn:PySem.W.specialIn K (.builtin "object.__class__") "__get__" =some (some (.builtin "getset_descriptor.__get__"))) (htk:PySem.W.takesIn K (.builtin "object.__class__")=some true)
   (hm:PySem.W.mroIn K C (.type "object")=some true):Kd K H (.ref a) (.ref C)
def Oq{x:V}{u t:Value}(I:Inv X pins σ H s)(rx:RelV x u)(ty:Kd X.K H x t)(e:PySem.W.kitOne X.K t c=some b)(h:∀tk,Q (.bool b) {s with toks:=tk}):
  wpAny (model X.prog X.w) A (call (.builtin "isinstance") [u,c]) Q E s:=by
 cases ty with
 |non=>cases (show u=Value.none from rx);exact yh PySem.W.kitx_none I.kIn True.intro e (λz=>nomatch z) h
 |bl y=>cases (show u=Value.bool y from rx);exact yh PySem.W.kitx_bool I.kIn True.intro e (λz=>nomatch z) h
 |int i=>obtain⟨t,q⟩:=(show∃t,u=Value.int i t from rx);cases q;exact yh PySem.W.kitx_int I.kIn True.intro e (λz=>nomatch z) h
 |str y=>obtain⟨t,q⟩:=(show∃t,u=Value.str y t from rx);cases q;exact yh PySem.W.kitx_str I.kIn True.intro e (λz=>nomatch z) h
 |flt y=>obtain⟨t,q⟩:=(show∃t,u=Value.float y t from rx);cases q;exact yh PySem.W.kitx_float I.kIn True.intro e (λz=>nomatch z) h
 | @lst a xs ea=>
  cases (show u=Value.ref a from rx);obtain⟨_,_,n,_,h1⟩:=(show mq X.prog X.w H s.heap a (.lst xs)from I.hok a _ ea);exact yh PySem.W.kitx_list I.kIn ⟨_,h1,rfl⟩ e (λz=>nomatch z) h
 | @frz a ob xs ea=>
  cases (show u=Value.ref a from rx);obtain⟨_,_,_,n,_,h1⟩:=(show mq X.prog X.w H s.heap a (.frz ob (.lst xs))from I.hok a _ ea);exact yh PySem.W.kitx_list I.kIn ⟨_,h1,rfl⟩ e (λz=>nomatch z) h
 | @tup a xs ea=>
  cases (show u=Value.ref a from rx);obtain⟨_,_,_,p⟩:=(show mq X.prog X.w H s.heap a (.tup xs)from I.hok a _ ea);obtain⟨o,h1,h2,_⟩:=p;exact yh PySem.W.kitx_tuple I.kIn ⟨o,h1,h2⟩ e (λz=>nomatch z) h
 | @dK a kvs ea=>
  cases (show u=Value.ref a from rx);obtain⟨_,_,vs,_,p⟩:=(show mq X.prog X.w H s.heap a (.dK kvs)from I.hok a _ ea);obtain⟨o,es,ep,h1,h2,_⟩:=p;exact yh PySem.W.kitx_dict I.kIn ⟨o,h1,h2.1⟩ e (λz=>nomatch z) h
 | @dT a kvs ea=>
  cases (show u=Value.ref a from rx);obtain⟨_,_,xs,_,o,es,ep,h1,h2,_⟩:=(show mq X.prog X.w H s.heap a (.dT kvs)from I.hok a _ ea);exact yh PySem.W.kitx_dict I.kIn ⟨o,h1,h2.1⟩ e (λz=>nomatch z) h
 | @ins a C dx fs ea cl ha hn htk hm=>
  cases (show u=Value.ref a from rx);obtain⟨mA,O,_⟩:=Ms I.hok ea;obtain⟨od,J,_⟩:=O.look;exact yh (PySem.W.kitx_own (cl.get _) cl.hd ha hn htk hm) I.kIn J e (λz=>nomatch z) h
end
end L2
namespace L2
open PySem PySem.Spec PyProof.Rows
structure qW(k:Nat)(A:Around):Prop where
 hd:A.handled=none
 dp:A.depth+3*k+5<recursionLimit
 un:A.units+16*k+200<cLine
def qW.mono{j k:Nat}{A:Around}(r:qW k A)(h:j<=k):qW j A:=⟨r.hd,by have:=r.dp;omega,by have:=r.un;omega⟩
theorem qW.deeper{k:Nat}{A:Around}(r:qW (k+1) A)(env:Env):qW k (A.deeper env):=
 ⟨r.hd,by have:=r.dp;show A.depth+1+3*k+5<_;omega,by have:=r.un;show A.units+3+16*k+200<_;omega⟩
theorem qW.in1{k:Nat}{A:Around}(r:qW (k+1) A):qW k A.in1:=
 ⟨r.hd,by have:=r.dp;show A.depth+3*k+5<_;omega,by have:=r.un;show A.units+1+16*k+200<_;omega⟩
def Vk{A:Around}{C:Addr}{us:List Value}{q:List (Str×Value)}:(A.under (.builtin "type.__call__" ⟨.ref C::us,q⟩)).depth=A.depth+1:=by
 first|rfl|simp[Around.under,Code.weight,Code.isCreation,Code.isGuard,Code.isCaller,Code.frames,Code.isFrame,guardIds]
def Vm{A:Around}{C:Addr}{us:List Value}{q:List (Str×Value)}:(A.under (.builtin "type.__call__" ⟨.ref C::us,q⟩)).units=A.units+1:=by
 first|rfl|simp[Around.under,Code.cUnits,Code.frames,Code.isFrame]
def qW.make{k:Nat}{A:Around}(r:qW (k+1) A)(C:Addr)(us:List Value)(q:List (Str×Value)):qW k (A.under (.builtin "type.__call__" ⟨.ref C::us,q⟩)):=
 ⟨r.hd,by have:=r.dp;rw[Vk];omega,by have:=r.un;rw[Vm];omega⟩
theorem qW.depth{k:Nat}{A:Around}(r:qW k A):A.depth<recursionLimit:=by have:=r.dp;omega
theorem qW.units{k:Nat}{A:Around}(r:qW k A):A.units+64<cLine:=by have:=r.un;omega
def qW.units0{k:Nat}{A:Around}(r:qW k A):A.units<cLine:=by have:=r.un;omega
noncomputable def Xo:TA:=λ_ H Q=>Q [] H
noncomputable def Ei(ta:TE)(tr:TA):TA:=λσ H Q=>ta σ H λx H1=>tr σ H1 λxs H2=>Q (x::xs) H2
section
variable{X:Cx}{e:Expr}{es:List Expr}{te:TE}{t:TA}{pos:Pos}
def iD:PA X [] Xo:=λ_ _ _ _ H Q I h=>Calls.spliced_nil ⟨[],H,I,.nil,h⟩
def iz(ha:PE X e te)(hr:PA X es t)(hs:starEach (e::es) X.env=(false,eval e X.env)::starEach es X.env:=by rfl):PA X (e::es) (Ei te t):=by
 intro pos pins s σ H Q I h;rw[hs];show wpAny _ _ (spliced ((false,eval e X.env)::backTo pos (starEach es X.env))) _ _ s;refine Calls.spliced_cons (thn (ha pins s σ H _ I h) λu z ⟨x,H1,I1,r1,q⟩=>?_);exact thn (hr pos pins z σ H1 _ I1 q) λus s2 ⟨xs,H2,I2,r2,q2⟩=>⟨x::xs,H2,I2,.cons r1 r2,q2⟩
noncomputable def ame(t:TA):TE:=λσ H Q=>t σ H λxs H1=>xs.length<=sizeLine/\∀p,H1 p=none->Q (.ref p) (upd H1 p (.tup xs))
noncomputable def amn(t:TA):TE:=λσ H Q=>t σ H λxs H1=>xs.length<=sizeLine/\∀p,H1 p=none->Q (.ref p) (upd H1 p (.lst xs))
def lY{x1}(h:PA X es t):PE X (.Tuple es x1 pos) (ame t):=by
 intro pins s σ H Q I hq;refine wpAny_Tuple_spliced (thn (h pos pins s σ H _ I hq) λus s1 ⟨xs,H1,I1,r,z,q⟩=>⟨by rw[<-r.length];exact z,?_⟩);have hf:H1 s1.heap.objs.size=none:=I1.hok.fresh (zg _);refine⟨.ref s1.heap.objs.size,upd H1 s1.heap.objs.size (.tup xs),I1.laid (t':=s1.toks) (λb u e=>zb _ e) (zg _) ?_,rfl,q _ hf⟩;exact⟨z,us,r,⟨_,zB _ rfl,rfl,_,rfl⟩⟩
def kW(h:PA X es t):PE X (.List es pos) (amn t):=by
 intro pins s σ H Q I hq;refine wpAny_List_spliced (thn (h pos pins s σ H _ I hq) λus s1 ⟨xs,H1,I1,r,z,q⟩=>⟨by rw[<-r.length];exact z,?_⟩);have hf:H1 s1.heap.objs.size=none:=I1.hok.fresh (zg _);refine⟨.ref s1.heap.objs.size,upd H1 s1.heap.objs.size (.lst xs),I1.laid (t':=s1.toks) (λb u e=>zb _ e) (zg _) ?_,rfl,q _ hf⟩;exact⟨z,us,0,r,zB _ rfl⟩
end
abbrev Sp:=List V->Hp->VK->XK->Prop
abbrev CXT:=List Env->Hp->Shared->XK->Value->Shared->Prop
structure Zh(P:Program)(w:World)(K:Fg_)(mg:Str->Option Value)(base:Heap)(A:Around)(outer:List Env)(s:Shared)(H:Hp):Prop where
 frames:A.frames=some outer
 mod:Mod K mg base
 bs:∀b o,base.get? b=some o->s.heap.get? b=some o/\H b=none
 bsz:base.objs.size<=s.heap.objs.size
 funs:s.heap.FunFrames base outer
 frf:∀b∈frs outer,H b=none
 hok:HOk P w H s.heap
 bare:AllBare s.gens
noncomputable def CE(outer:List Env)(P:Program)(w:World)(H:Hp)(s:Shared)(Q:VK)(u:Value)(s':Shared):Prop:=
 ∃v H',s'.os=s.os/\AllBare s'.gens/\Un (frs outer) [] H H' s.heap s'.heap/\HOk P w H' s'.heap/\RelV v u/\Q v H'
noncomputable def CR(CX:CXT)(outer:List Env)(P:Program)(w:World)(H:Hp)(s:Shared)(Q:VK)(E:XK)(r:Result)(s':Shared):Prop:=
 match r with
 |.ok (.ret u)=>CE outer P w H s Q u s'
 |.ok _=>False
 |.error e=>CX outer H s E e s'
structure jQ(P:Program)(w:World)(K:Fg_)(mg:Str->Option Value)(base:Heap)(CX:CXT)(k:Nat)(f:Addr)(fd:FuncData)(ps:List Str)(sp:Sp):Prop where
 len:∀vs H Q E,sp vs H Q E->vs.length=ps.length
 run:∀(A:Around)(outer:List Env)(s:Shared)(H:Hp)(args:Args)(us:List Value)(vs:List V)(Q:VK)(E:XK),qW k A->Zh P w K mg base A outer s H->BindsTo s fd args (ps.zip us)->Vals vs us->sp vs H Q E->
  codeAny (model P w) A (.call (.ref f) args) (CR CX outer P w H s Q E) s
def Zh.make{P:Program}{w:World}{K:Fg_}{mg:Str->Option Value}{base:Heap}{A:Around}{outer:List Env}{s:Shared}{H:Hp}(e:Zh P w K mg base A outer s H)(C:Addr)(us:List Value)(q:List (Str×Value)):
  Zh P w K mg base (A.under (.builtin "type.__call__" ⟨.ref C::us,q⟩)) outer s H:=⟨by first|exact e.frames|(simpa [Around.under,Code.envs,Code.isFrame,pushEnvs] using e.frames),e.mod,e.bs,e.bsz,e.funs,e.frf,e.hok,e.bare⟩
theorem Zh.in1{P:Program}{w:World}{K:Fg_}{mg:Str->Option Value}{base:Heap}{A:Around}{outer:List Env}{s:Shared}{H:Hp}(e:Zh P w K mg base A outer s H):
  Zh P w K mg base A.in1 outer s H:=⟨e.frames,e.mod,e.bs,e.bsz,e.funs,e.frf,e.hok,e.bare⟩
section
variable{X:Cx}{pins:List (Addr×Obj)}{σ:St}{H:Hp}{s s':Shared}
def Inv.env0(I:Inv X pins σ H s):Zh X.prog X.w X.K X.mg X.base X.A X.stack s H:=
 ⟨I.ok.frames,I.ok.mod,I.bs,zV I.ok.bsz I.sz,I.stack,I.stkFree,I.hok,I.bare⟩
def Inv.after{Q:VK}{u:Value}(I:Inv X pins σ H s)(h:CE X.stack X.prog X.w H s Q u s'):EP X pins σ Q u s':=by
 obtain⟨v,H',os,bare,un,hok,r,q⟩:=h;obtain⟨hh,g,d,t,aa⟩:=s';obtain rfl:aa=s.os:=os;exact⟨v,H',I.call (h':=hh) (g':=g) (d':=d) (t':=t) (ch:=[]) un hok bare (λb z=>absurd z (by simp)),r,q⟩
end
noncomputable def aae(sp:Sp)(dvs:List V)(E:XK)(t:TA):TE:=λσ H Q=>t σ H λvs H1=>sp (vs++dvs) H1 Q E
noncomputable def akR(C:Addr)(sp:Sp)(dvs:List V)(E:XK)(t:TA):TE:=λσ H Q=>t σ H λvs H1=>∀x dx,H1 x=none->H1 dx=none->dx≠x->
 sp (.ref x::(vs++dvs)) (upd (upd H1 dx (.own x)) x (.ins C dx [])) (λv H2=>v=.non/\Q (.ref x) H2) E
noncomputable def Binds(K:Fg_)(fd:FuncData)(ps:List Str)(ds:List Value):Prop:=
 ∀(s:Shared)(us:List Value),K.In s.heap->(us++ds).length=ps.length->BindsTo s fd ⟨us,[]⟩ (ps.zip (us++ds))
def Binds.all{K:Fg_}{fd:FuncData}{ps:List Str}(h:∀us:List Value,us.length=ps.length->bindArgs fd ⟨us,[]⟩=pure (ps.zip us)):Binds K fd ps []:=λs us _ q=>by
 rw[z5]at q⊢;exact .of_eq (h us q)
noncomputable def Av(CX:CXT)(X:Cx)(E:XK):Prop:=∀(pins:List (Addr×Obj))(σ:St)(H:Hp)(s:Shared)(e:Value)(s':Shared),Inv X pins σ H s->CX X.stack H s E e s'->X.xe e s'
section
variable{X:Cx}{CX:CXT}{k:Nat}{f C:Addr}{fd:FuncData}{ps:List Str}{sp:Sp}{dvs:List V}{ds:List Value}{E:XK}{x m:Str}{p pos apos:Pos}{e o:Expr}{es:List Expr}{ta:TE}{t:TA}
def Us{pins:List (Addr×Obj)}{σ:St}{H:Hp}{s:Shared}{Q:VK}{us:List Value}{vs:List V}(F:jQ X.prog X.w X.K X.mg X.base CX k f fd ps sp)(hr:qW k X.A)(hb:Binds X.K fd ps ds)(hd:Vals dvs ds)(hx:Av CX X E)
  (I:Inv X pins σ H s) (r:Vals vs us) (h:sp (vs++dvs) H Q E):wpAny (model X.prog X.w) X.A (call (.ref f) us) (EP X pins σ Q) X.xe s:=by
 have z:Vals (vs++dvs) (us++ds):=r.append hd;have hl:(us++ds).length=ps.length:=by rw[<-z.length];exact F.len _ _ _ _ h
 refine yyb (codeAny_mono (F.run X.A X.stack s H ⟨us,[]⟩ (us++ds) (vs++dvs) Q E hr I.env0 (hb s us I.kIn hl) z h) λr s' q=>?_)
 cases r with
 |error e=>exact hx pins σ H s e s' I q
 |ok fl=>
  cases fl with
  |ret u=>exact I.after q
  |next=>exact False.elim q
  |brk=>exact False.elim q
  |cont=>exact False.elim q
def ajB(F:jQ X.prog X.w X.K X.mg X.base CX k f fd ps sp)(hr:qW k X.A)(hg:Gl X x)(hm:X.mg x=some (.ref f))(hk:PySem.W.keepIn X.K (.ref f)=true)(hb:Binds X.K fd ps ds)(hd:Vals dvs ds)(hx:Av CX X E)
  (ha:PA X (e::es) t) (z:(x==("__debug__" :Str))=false:=by decide) (he:starEach (e::es) X.env=(false,eval e X.env)::starEach es X.env:=by rfl) (hpl:(backTo pos (starEach es X.env)).any (·.1)=false:=by rfl):
  PE X (.Call (.Name x p) (e::es) [] pos) (aae sp dvs E t):=by
 intro pins s σ H Q I h;refine yf (Ju I hg hm ?_ z);refine zzl (h₀:=X.base) I.ok.mod.kin hk (thn (ha pos pins s σ H _ I h) λus s1 ⟨vs,H1,I1,r,q⟩=>⟨I1.kIn,?_⟩) he hpl;exact Us F hr hb hd hx I1 r q
structure Mk(K:Fg_)(C f:Addr):Prop where
 makes:PySem.W.makesIn K C=true
 init:PySem.W.findIn K (.ref C) "__init__" =some (some (.ref f))
 fn:PySem.W.isFn K (.ref f)=true
 kp:PySem.W.keepIn K (.ref C)=true
def ZK{pins:List (Addr×Obj)}{σ:St}{H:Hp}{s:Shared}{Q:VK}{us:List Value}{vs:List V}(M:Mk X.K C f)(F:jQ X.prog X.w X.K X.mg X.base CX k f fd ps sp)(hr:qW (k+1) X.A)(hb:Binds X.K fd ps ds)(hd:Vals dvs ds)
  (hx:Av CX X E) (I:Inv X pins σ H s) (r:Vals vs us)
  (h:∀x dx,H x=none->H dx=none->dx≠x->sp (.ref x::(vs++dvs)) (upd (upd H dx (.own x)) x (.ins C dx [])) (λv H2=>v=.non/\Q (.ref x) H2) E):
  wpAny (model X.prog X.w) X.A (call (.ref C) us) (EP X pins σ Q) X.xe s:=by
 have hq:=h (s.heap.objs.size+1) s.heap.objs.size (I.hok.fresh (ym _)) (I.hok.fresh (zg _)) (zD (zzz _));have z:=Inv.made (C:=C) I;have r2:Vals (V.ref (s.heap.objs.size+1)::(vs++dvs)) (Value.ref (s.heap.objs.size+1)::(us++ds)):=.cons rfl (r.append hd)
 have hl:(Value.ref (s.heap.objs.size+1)::us++ds).length=ps.length:=by
  have e:=r2.length;rw[F.len _ _ _ _ hq]at e;exact e.symm
 refine yyb (Zr (f:=f) I.kIn M.makes M.init (beq_iff_eq.mp M.fn) (codeAny_mono (F.run _ X.stack _ _ ⟨Value.ref (s.heap.objs.size+1)::us,[]⟩ (Value.ref (s.heap.objs.size+1)::(us++ds)) _ _ E (hr.make C us [])
  (z.env0.make C us []) (hb _ (Value.ref (s.heap.objs.size+1)::us) z.kIn hl) r2 hq) λr s' q=>?_))
 cases r with
 |error e=>exact hx pins σ _ _ e s' z q
 |ok fl=>
  cases fl with
  |ret u=>
   obtain⟨v,H',I3,rv,ev,q3⟩:=z.after q;subst ev;exact⟨rv,⟨V.ref (s.heap.objs.size+1),H',I3,rfl,q3⟩⟩
  |next=>exact False.elim q
  |brk=>exact False.elim q
  |cont=>exact False.elim q
def lR(M:Mk X.K C f)(F:jQ X.prog X.w X.K X.mg X.base CX k f fd ps sp)(hr:qW (k+1) X.A)(hg:Gl X x)(hm:X.mg x=some (.ref C))(hb:Binds X.K fd ps ds)(hd:Vals dvs ds)(hx:Av CX X E)
  (ha:PA X (e::es) t) (z:(x==("__debug__" :Str))=false:=by decide) (he:starEach (e::es) X.env=(false,eval e X.env)::starEach es X.env:=by rfl) (hpl:(backTo pos (starEach es X.env)).any (·.1)=false:=by rfl):
  PE X (.Call (.Name x p) (e::es) [] pos) (akR C sp dvs E t):=by
 intro pins s σ H Q I h;refine yf (Ju I hg hm ?_ z);refine zzl (h₀:=X.base) I.ok.mod.kin M.kp (thn (ha pos pins s σ H _ I h) λus s1 ⟨vs,H1,I1,r,q⟩=>⟨I1.kIn,?_⟩) he hpl;exact ZK M F hr hb hd hx I1 r q
end
noncomputable def PK(X:Cx)(kws:List Keyword)(t:TA):Prop:=
 ∀(pos:Pos)(pins:List (Addr×Obj))(s:Shared)(σ:St)(H:Hp)(Q:List V->Hp->Prop),Inv X pins σ H s->t σ H Q->wpAny (model X.prog X.w) X.A (evalAll ((backToKw pos (keywordEach kws X.env)).map (·.2))) (AP X pins σ Q) X.xe s
section
variable{X:Cx}{CX:CXT}{k:Nat}{f C:Addr}{fd:FuncData}{ps ks:List Str}{sp:Sp}{E:XK}{x m:Str}{p pos apos kpos:Pos}{e o:Expr}{es:List Expr}{kws:List Keyword}{te ta:TE}{t tk:TA}{nm:Option Str}
def aaI:PK X [] Xo:=λ_ _ _ _ H Q I h=>wpAny_evalAll_nil ⟨[],H,I,.nil,h⟩
def YK(ha:PE X e te)(hr:PK X kws t):PK X (⟨nm,e,kpos⟩::kws) (Ei te t):=by
 intro pos pins s σ H Q I h;show wpAny _ _ (evalAll ((do let v<-eval e X.env;standAt pos;pure v)::(backToKw pos (keywordEach kws X.env)).map (·.2))) _ _ s;refine wpAny_evalAll_cons (zc (thn (ha pins s σ H _ I h) λu z ⟨x,H1,I1,r1,q⟩=>zc (zzY (zy ?_))));exact thn (hr pos pins z σ H1 _ I1 q) λus s2 ⟨xs,H2,I2,r2,q2⟩=>⟨x::xs,H2,I2,.cons r1 r2,q2⟩
structure ama(K:Fg_)(fd:FuncData)(ps ks:List Str)(g:List Value->List Value->List Value)(gV:List V->List V->List V):Prop where
 to:∀(s:Shared)(us ws:List Value),K.In s.heap->(g us ws).length=ps.length->BindsTo s fd ⟨us,ks.zip ws⟩ (ps.zip (g us ws))
 rel:∀{vs:List V}{us:List Value}{zs:List V}{ws:List Value},Vals vs us->Vals zs ws->Vals (gV vs zs) (g us ws)
variable{g:List Value->List Value->List Value}{gV:List V->List V->List V}
end
structure iT(N P:List Str)(sc:Scope):Prop where
 kind:sc.kind=.function
 co:sc.isCoroutine=false
 gen:sc.isGenerator=false
 nd:N.Nodup
 pre:N.take P.length=P
 par:∀x∈P,sc.names.lookup x=some .local\/sc.names.lookup x=some .cell
 nofree:∀y∈sc.names,y.2≠.free
theorem Ob{q:Str->Option NameKind}{x:Str}:∀{binds:List (Str×Value)}{m:Str->Option Value},(∀v,(x,v)∉binds)->bindL q binds m x=m x
 |[],_,_=>rfl
 |(n,v)::r,m,h=>by
  unfold bindL;rw[Ob λw z=>h w (zp _ z)];split
  ·have:x≠n:=by rintro rfl;exact h v zj
   simp[this]
  ·rfl
theorem NP{q:Str->Option NameKind}{x:Str}:∀{binds:List (Str×Value)}{m:Str->Option Value},(∀v,(x,v)∉binds)->bindC q binds m x=m x
 |[],_,_=>rfl
 |(n,v)::r,m,h=>by
  unfold bindC;rw[NP λw z=>h w (zp _ z)];split
  ·rfl
  ·have:x≠n:=by rintro rfl;exact h v zj
   simp[this]
theorem PJ{q:Str->Option NameKind}{x:Str}{v:Value}:∀{P:List Str}{vs:List Value}{i:Nat}{m:Str->Option Value},P.Nodup->P[i]? =some x->vs[i]? =some v->q x=some .local->
  bindL q (P.zip vs) m x=some v
 |[],_,_,_,_,h,_,_=>by simp at h
 |_::_,[],_,_,_,_,h,_=>by simp at h
 |p::P,w::vs,0,m,nd,h1,h2,hk=>by
  simp at h1 h2;subst h1;subst h2;show bindL q ((p,w)::P.zip vs) m p=_;unfold bindL;rw[Ob λv z=>(zP.mp nd).1 (yye z).1,zo hk];simp
 |p::P,w::vs,i+1,m,nd,h1,h2,hk=>by
  show bindL q ((p,w)::P.zip vs) m x=_;unfold bindL;exact PJ (i:=i) (zP.mp nd).2 (by simpa using h1) (by simpa using h2) hk
theorem Ov{q:Str->Option NameKind}{x:Str}{v:Value}:∀{P:List Str}{vs:List Value}{i:Nat}{m:Str->Option Value},P.Nodup->P[i]? =some x->vs[i]? =some v->q x≠some .local->
  bindC q (P.zip vs) m x=some v
 |[],_,_,_,_,h,_,_=>by simp at h
 |_::_,[],_,_,_,_,h,_=>by simp at h
 |p::P,w::vs,0,m,nd,h1,h2,hk=>by
  simp at h1 h2;subst h1;subst h2;show bindC q ((p,w)::P.zip vs) m p=_;unfold bindC;rw[NP λv z=>(zP.mp nd).1 (yye z).1,ze hk];simp
 |p::P,w::vs,i+1,m,nd,h1,h2,hk=>by
  show bindC q ((p,w)::P.zip vs) m x=_;unfold bindC;exact Ov (i:=i) (zP.mp nd).2 (by simpa using h1) (by simpa using h2) hk
noncomputable def start(N:List Str)(vs:List V):St:=vs.map some++List.replicate (N.length - vs.length) none
noncomputable def Zw(CX:CXT)(P:Program)(w:World)(K:Fg_)(mg:Str->Option Value)(base:Heap)(N:List Str)(qual:Str)(scope:Scope)(f:Addr)(cd:Value)(A:Around)(outer:List Env)(s:Shared)(H:Hp)(E:XK):Cx where
 prog:=P
 w:=w
 K:=K
 mg:=mg
 base:=base
 A:=A.deeper (envOfC qual scope s.heap.objs.size f cd)
 N:=N
 s₀:=s
 H₀:=H
 env:=envOfC qual scope s.heap.objs.size f cd
 outer:=outer
 stack:=envOfC qual scope s.heap.objs.size f cd::outer
 ex:=[]
 calm:=true
 fn:=λ_=>true
 pn:=[]
 xe:=λe s'=>wpAny (model P w) (A.deeper (envOfC qual scope s.heap.objs.size f cd)) (leaving (envOfC qual scope s.heap.objs.size f cd) e) (λ_ s''=>CX outer H s E e s'') (λe' s''=>CX outer H s E e' s'') s'
def SM{z:Scope}{n:Nat}{x:Str}(h:z.names.lookup x=some .cell):∃c,(cellsFrom n z.names []).lookup x=some c:=by
 have q:=PySem.W.cellsFrom_some z.names n [] (.inl h);exact yK.mp q
def Wq{CX:CXT}{P:Program}{w:World}{K:Fg_}{mg:Str->Option Value}{base:Heap}{N ps:List Str}{aa:Str}{scope:Scope}{f:Addr}{cd:Value}{A:Around}{outer:List Env}{s s1:Shared}{H:Hp}{E:XK}{us:List Value}{vs:List V}
  (S:iT N ps scope) (hd:A.handled=none) (e0:Zh P w K mg base A outer s H) (hl:vs.length=ps.length) (r:Vals vs us)
  (x:InCallC s s.heap.objs.size (bindL (envOfC aa scope s.heap.objs.size f cd).kindOf (ps.zip us) λ_=>none) (cellsFrom (s.heap.objs.size+1) scope.names []) (bindC (envOfC aa scope s.heap.objs.size f cd).kindOf (ps.zip us) λ_=>none) s1):
  Inv (Zw CX P w K mg base N aa scope f cd A outer s H E) [] (start N vs) H s1:=by
 have ad:ps.length<=N.length:=by have:=congrArg List.length S.pre;rw[zU]at this;omega
 obtain⟨h1,tk,rfl,hk⟩:=x.done;have ab:∀b:Addr,b∉(Zw CX P w K mg base N aa scope f cd A outer s H E).ex:=λb z=>absurd (show b∈([]:List Addr)from z) (by simp)
 refine ⟨⟨e0.mod,S.kind,rfl,rfl,zg _,λy z c h1 h2=>?_,λy hy=>?_,λy c _ h=>?_,λ_=>hd,Around.frames_deeper e0.frames,.inr ⟨rfl,rfl⟩,λb z=>absurd z (ab b),e0.bs,e0.bsz,λb _ _=>ab b,λb z=>absurd z (ab b),e0.funs,e0.frf⟩,
  rfl,e0.bare,Un.kept hk,⟨_,x.toInCall.ns,λi y v h1 h2 h3=>?_⟩,λy c h=>⟨_,x.cell y c h⟩,e0.hok.fresh (zg _),λy c h=>?_,λp hp=>absurd (show p∈([]:List (Addr×Obj))from hp) (by simp),e0.hok.kept hk,?_⟩
 ·exact name_of_addr x.apart (yM h1) (yM h2)
 ·have hy:scope.names.lookup y=some .cell\/scope.names.lookup y=some .free:=hy
  rcases hy with hy|hy
  ·exact SM hy
  ·exact absurd rfl (S.nofree _ (yM hy))
 ·exact zz6 (x.above y c (yM h))
 ·have hi:i<vs.length:=by
   unfold start at h2;by_cases hi:i<vs.length
   ·exact hi
   ·rw[z7 (by simpa using hi)]at h2
    rw[List.getElem?_replicate]at h2;split at h2<;>cases h2
  have ha:vs[i]? =some v:=by
   unfold start at h2;rw[z9 (by simpa using hi),zd]at h2
   cases e:vs[i]? with
   |none=>rw[e]at h2;cases h2
   |some a=>rw[e]at h2;cases h2;rfl
  obtain⟨u,hu,rv⟩:=r.get ha
  have hp:ps[i]? =some y:=by
   rw[<-S.pre,List.getElem?_take_of_lt (by omega)];exact h1
  have ac:ps.Nodup:=by rw[<-S.pre];exact S.nd.sublist (List.take_sublist _ _)
  refine⟨u,rv,?_⟩;rcases S.par y (zm hp)with k|k
  ·exact .inl ⟨k,PJ ac hp hu k⟩
  ·obtain⟨c,e⟩:=SM (n:=s.heap.objs.size+1) k
   refine .inr ⟨.inl k,c,e,?_⟩;have q:=x.cell y c e;rw[Ov ac hp hu (by show scope.names.lookup y≠_;rw[k];decide)]at q;exact q
 ·exact e0.hok.fresh (zz6 (x.above y c (yM h)))
 ·unfold start
  show _=N.length;rw[zA,za,List.length_replicate];omega
def akk{CX:CXT}{P:Program}{w:World}{K:Fg_}{mg:Str->Option Value}{base:Heap}{k:Nat}{f:Addr}{name z:Str}{ab:Arguments}{ac:List Stmt}{scope:Scope}{dV kV ah pm aa ct oc:Value}{an od:Option Addr}
  {ai:Array (Option Value)} {N ps:List Str} {sp:Sp} (lk:K.lookup f=some ⟨oc,od,.func (PySem.W.fnOf name z ab ac scope dV kV ah pm an aa ct),ai⟩) (ak:PySem.W.codeIn K aa z=true) (S:iT N ps scope)
  (len:∀vs H Q E,sp vs H Q E->vs.length=ps.length)
  (ad:∀(A:Around)(outer:List Env)(s:Shared)(H:Hp)(vs:List V)(Q:VK)(E:XK),qW k (A.deeper (envOfC z scope s.heap.objs.size f aa))->sp vs H Q E->
   ∃t,PSs (Zw CX P w K mg base N z scope f aa A outer s H E) ac t/\t {nx:=λ_ H'=>Q .non H',rt:=Q} (start N vs) H):
  jQ P w K mg base CX (k+1) f (PySem.W.fnOf name z ab ac scope dV kV ah pm an aa ct) ps sp:=by
 refine⟨len,λA outer s H args us vs Q E hr e0 hb r af=>?_⟩;have hl:=len _ _ _ _ af;have KX:K.In s.heap:=e0.mod.kin.keeps λb o e=>(e0.bs b o e).1;have aj:s.heap.NoLimit:=e0.mod.nolimit.keeps λb o e=>(e0.bs b o e).1
 have ae:∀y∈ps.zip us,scope.names.lookup y.1=some .local\/(scope.names.lookup y.1=some .cell/\((cellsFrom (s.heap.objs.size+1) scope.names []).lookup y.1).isSome=true):=fun⟨n,v⟩ hy=>by
  rcases S.par n (yye hy).1 with q|q
  ·exact .inl q
  ·exact .inr ⟨q,PySem.W.cellsFrom_some _ _ _ (.inl q)⟩
 refine codeAny_call_function hr.depth (KX _ _ lk) rfl S.co S.gen rfl (PySem.W.codeRec_of KX ak) (hb _ _ _ _ ?_);refine wpAny_newFunctionEnv_cells S.kind ae λenv he s1 x=>?_;subst he;refine⟨aj.keeps x.toInCall.keep,codeAny_func ?_⟩;obtain⟨t,ht,hq⟩:=ad A outer s H vs Q E (hr.deeper _) af;have I:Inv (Zw CX P w K mg base N z scope f aa A outer s H E) [] (start N vs) H s1:=Wq S hr.hd e0 hl r x;refine yc (ht [] s1 (start N vs) H _ I hq) (λfl s' hs=>?_) λe s' hs=>hs
 have ag:∀{σ':St}{H':Hp}{v:V}{u:Value},Inv (Zw CX P w K mg base N z scope f aa A outer s H E) [] σ' H' s'->RelV v u->Q v H'->CE outer P w H s Q u s':=
  fun{σ' H' v u} J rv q=>⟨v,H',J.os,J.bare,J.base,J.hok,rv,q⟩
 cases fl with
 |ret u=>
  obtain⟨v,σ',H',J,rv,q⟩:=hs;exact ag J rv q
 |next=>
  obtain⟨σ',H',J,q⟩:=hs;exact ag (v:=V.non) (u:=Value.none) J rfl q
 |brk=>
  obtain⟨_,_,_,q⟩:=hs;exact False.elim q
 |cont=>
  obtain⟨_,_,_,q⟩:=hs;exact False.elim q
end L2
namespace L2
open PySem PySem.Spec PyProof.Rows
section
variable{X:Cx}{x:Str}{p pos:Pos}{e:Expr}{es:List Expr}{t:TA}{id T:String}{r:List V->Hp->VK->Prop}
noncomputable def tCB(r:List V->Hp->VK->Prop)(t:TA):TE:=λσ H Q=>t σ H λvs H1=>r vs H1 Q
def jt(z:nT X (.builtin id) r)(q:Gl X x)(hm:X.mg x=none)(hv:bootBuiltins x=some (.builtin id))(ha:PA X (e::es) t)(hn:x≠ "__name__" :=by decide) (hdb:(x==("__debug__" :Str))=false:=by decide)
  (he:starEach (e::es) X.env=(false,eval e X.env)::starEach es X.env:=by rfl) (hpl:(backTo pos (starEach es X.env)).any (·.1)=false:=by rfl):PE X (.Call (.Name x p) (e::es) [] pos) (tCB r t):=by
 intro pins s σ H Q I h;refine yf (Al I q hm hv ?_ hn hdb);exact PyProof.Rows.callWith_builtin1 (thn (ha pos pins s σ H _ I h) λus s1 ⟨vs,H1,I1,r1,q1⟩=>z pins s1 σ H1 vs us Q I1 r1 q1) he hpl
def nq(z:nT X (.type T) r)(q:Gl X x)(hm:X.mg x=none)(hv:bootBuiltins x=some (.type T))(ha:PA X (e::es) t)(hn:x≠ "__name__" :=by decide) (hdb:(x==("__debug__" :Str))=false:=by decide)
  (he:starEach (e::es) X.env=(false,eval e X.env)::starEach es X.env:=by rfl) (hpl:(backTo pos (starEach es X.env)).any (·.1)=false:=by rfl):PE X (.Call (.Name x p) (e::es) [] pos) (tCB r t):=by
 intro pins s σ H Q I h;refine yf (Al I q hm hv ?_ hn hdb);exact PyProof.Rows.callWith_type1 (thn (ha pos pins s σ H _ I h) λus s1 ⟨vs,H1,I1,r1,q1⟩=>z pins s1 σ H1 vs us Q I1 r1 q1) he hpl
end
end L2
namespace HT
open PySem PyProof.Rows
def ZG(A:Around)(s:Shared)(a:Int)(t:Tok)(c:Int)(u:Tok):∃e,SeqAt.EqAt A s (.int a t) (.int c u) e/\(e=true↔a=c):=
 ⟨(a==c),SeqAt.EqAt.int_int a t c u,by simp⟩
section
open PySem.SeqAt
open PySem.AutoSeq1 (wpAny_loadPart')
open PySem.MeetsSeq PySem.MeetsSeq2 PySem.MeetsSeq3
end
section
variable{prog:Program}{w:World}{A:Around}{E:Value->Shared->Prop}{s:Shared}
def cat_tup{t b:Addr}{vs ws:List Value}{Q:Value->Shared->Prop}(ht:IsTup s.heap t vs.toArray)(hb:IsTup s.heap b ws.toArray)(hv:vs≠[])
  (h1:ws=[]->Q (.ref t) s) (h2:ws≠[]->Q (.ref s.heap.objs.size) {s with heap:=s.heap.push {cls:=.type "tuple",data:=.seq (vs++ws).toArray}})
  (hsz:vs.length+ws.length<=sizeLine):wpAny (model prog w) A (binaryOp .Add (.ref t) (.ref b)) Q E s:=by
 obtain⟨⟨cls,dd,data,sl⟩,ho,hc,n,hd⟩:=id ht;obtain⟨⟨ae,aa,ad,ab⟩,q,z,n2,ac⟩:=id hb;simp only at hc hd z ac;subst hc hd z ac;have e:vs.toArray++ws.toArray=(vs++ws).toArray:=by simp
 by_cases hw:ws=[]
 ·exact concat_meets ⟨_,ho,rfl⟩ ⟨_,q,rfl⟩ noFill_tuple_add seq_tuple_add PySem.F.slot_tuple_add PySem.F.entry_tuple_add (PySem.F.args_tuple_add_2 _ _)
   (tuple_addW1 t b vs.toArray ws.toArray n n2 dd aa sl ab (by simpa using hv) (by simp[hw])) ⟨ho,q,h1 hw⟩
 ·refine concat_meets ⟨_,ho,rfl⟩ ⟨_,q,rfl⟩ noFill_tuple_add seq_tuple_add PySem.F.slot_tuple_add PySem.F.entry_tuple_add (PySem.F.args_tuple_add_2 _ _)
   (tuple_addW2 t b vs.toArray ws.toArray n n2 dd aa sl ab (by simpa using hv) (by simpa using hw) (by rw[zf,zf];exact hsz)) ⟨ho,q,?_⟩
  rw[e];exact h2 hw
noncomputable def sIx(n d:Nat):Option Int->Nat
 |none=>d
 |some v=>if v<0 then(v+(n:Int)).toNat else min v.toNat n
def sIx_none(n d:Nat):sIx n d none=d:=rfl
def sIx_nat(n d k:Nat):sIx n d (some (k:Int))=min k n:=by
 show(if(k:Int)<0 then((k:Int)+(n:Int)).toNat else min (k:Int).toNat n)=min k n;rw[ze (by omega),zzS]
def akd(n d:Nat)(hd:d<=n)(o:Option Int):sIx n d o<=n:=by
 cases o with
 |none=>exact hd
 |some v=>
  show(if v<0 then(v+(n:Int)).toNat else min v.toNat n)<=n;by_cases q:v<0
  ·rw[zo q];omega
  ·rw[ze q];exact Nat.min_le_right _ _
def Yc(v:Int)(n d:Nat):(if v<0 then max (v+(n:Int)) 0 else min v (n:Int))=((sIx n d (some v):Nat):Int):=by
 show(if v<0 then max (v+(n:Int)) 0 else min v (n:Int))=(((if v<0 then(v+(n:Int)).toNat else min v.toNat n):Nat):Int);by_cases q:v<0
 ·simp only[zo q];omega
 ·simp only[ze q];omega
def Ve(lo hi:Option Int)(n:Nat):Builtin.Slice.sliceAdjust lo hi 1 (n:Int)=(((sIx n 0 lo:Nat):Int),((sIx n n hi:Nat):Int)):=by
 have h1:¬((1:Int)<0):=by omega
 unfold Builtin.Slice.sliceAdjust;simp only[h1,if_false];refine Prod.ext ?_ ?_
 ·cases lo with
  |none=>rfl
  |some v=>exact Yc v n 0
 ·cases hi with
  |none=>rfl
  |some v=>exact Yc v n n
def Wf(i j:Nat):Builtin.Slice.slicePlaces (i:Int) (j:Int) 1=j - i:=by
 unfold Builtin.Slice.slicePlaces;have h1:(1:Int)>0:=by omega
 simp only[h1,if_true,Int.ediv_one];split<;>omega
def Lj{v:Value}{o:Option Int}{Q:Option Int->Shared->Prop}(p:IsPart v o)(h:Q o s):wpAny (model prog w) A (Builtin.Slice.slicePartIndex v) Q E s:=by
 cases p with
 |none=>exact slicePart_none h
 |int i t=>exact slicePart_int h
def Gz{sl:Addr}{vl vu:Value}{lo hi:Option Int}{n:Nat}{Q:Int×Int×Nat->Shared->Prop}(hs:s.heap.IsSliceOf sl vl vu .none)(pl:IsPart vl lo)(pu:IsPart vu hi)
  (h:Q (((sIx n 0 lo:Nat):Int),1,sIx n n hi - sIx n 0 lo) s):wpAny (model prog w) A (Builtin.Slice.sliceApplied (.ref sl) (pure (n:Int))) Q E s:=by
 obtain⟨os,z,aa,q⟩:=id hs;unfold Builtin.Slice.sliceApplied Builtin.Slice.sliceFields;refine zc (zc (wpAny_field z q (x:=vl) rfl (zc (wpAny_field z q (x:=vu) rfl (zc (wpAny_field z q (x:=.none) rfl (zy ?_)))))));refine zc (slicePart_none ?_);show wpAny _ _ (if((1:Int)==0)=true then _ else _) _ _ s;rw[ze (by decide)];refine zc (Lj pl (zc (Lj pu (zc (zy ?_)))));show wpAny _ _ (match Builtin.Slice.sliceAdjust lo hi 1 (n:Int)with|(lo,hi)=>pure (lo,(1:Int),Builtin.Slice.slicePlaces lo hi 1)) _ _ s;rw[Ve lo hi n];show wpAny _ _ (pure (((sIx n 0 lo:Nat):Int),(1:Int),Builtin.Slice.slicePlaces ((sIx n 0 lo:Nat):Int) ((sIx n n hi:Nat):Int) 1)) _ _ s;rw[Wf];exact zy h
def Zu(xs:Array Value)(i k:Nat):((List.range k).filterMap fun(m:Nat)=>xs[((i:Int)+(m:Int)*1).toNat]?).toArray=((xs.toList.drop i).take k).toArray:=by
 have e:(fun(m:Nat)=>xs[((i:Int)+(m:Int)*1).toNat]?)=λm=>xs[i+m]? :=by
  funext m;have:((i:Int)+(m:Int)*1).toNat=i+m:=by omega
  rw[this]
 rw[e];have:=pick_run xs i k;rw[List.filterMap_map]at this;have q:((λx=>xs[x]?)∘λx=>i+x)=λm=>xs[i+m]? :=rfl;rw[q]at this;rw[this]
def getItem_tuple_cut{t sl:Addr}{items:Array Value}{vl vu:Value}{lo hi:Option Int}{Q:Value->Shared->Prop}(ht:IsTup s.heap t items)(hs:s.heap.IsSliceOf sl vl vu .none)(pl:IsPart vl lo)(pu:IsPart vu hi)
  (hw:¬(sIx items.size 0 lo=0/\sIx items.size items.size hi=items.size))
  (h:Q (.ref s.heap.objs.size) {s with heap:=s.heap.push {cls:=.type "tuple",data:=.seq ((items.toList.drop (sIx items.size 0 lo)).take (sIx items.size items.size hi - sIx items.size 0 lo)).toArray}})
  (hsz:items.size<=sizeLine):wpAny (model prog w) A (getItem (.ref t) (.ref sl)) Q E s:=by
 have z:sizeOk (.seq ((items.toList.drop (sIx items.size 0 lo)).take (sIx items.size items.size hi - sIx items.size 0 lo)).toArray):=by
  show((items.toList.drop (sIx items.size 0 lo)).take (sIx items.size items.size hi - sIx items.size 0 lo)).toArray.size<=sizeLine;rw[zf,zU,yw,z4];omega
 have hj:sIx items.size items.size hi<=items.size:=akd _ _ (zg _) hi;obtain⟨os,ab,ac,ae⟩:=id hs;have ad:s.TypeIs (.ref sl) "slice" :=⟨os,ab,ac⟩;unfold getItem
 try with_reducible refine yi ?_
 first|refine zc (zy ?_)|skip
 refine zc (wpAny_sequenceKey ht.typeIs (by decide) ?_)
 refine zc (wpAny_callSpecial?_slot (name:=Str.ofString "__getitem__") ht.typeIs PyProof.Rows.slot_tuple_getitem
  (zzb PyProof.Rows.slot_tuple_getitem ht.typeIs entry_tuple_getitem ?_ (args_tuple_getitem _ _)))
 show wpAny _ _ (Builtin.Tuple.tupleItemsOf (.ref t)>>=_) _ _ s;refine zc (tupleItemsOf_ ht ?_);refine zc (yyc ad ?_);rw[zo (by decide)];refine zc (Gz hs pl pu ?_)
 have aa:¬((((sIx items.size 0 lo:Nat):Int)==0 && (1:Int)==1 && (sIx items.size items.size hi - sIx items.size 0 lo)==items.size)=true):=by
  intro q;rw[zzA,zzA]at q;have q1:((sIx items.size 0 lo:Nat):Int)=0:=eq_of_beq q.1.1;have q2:sIx items.size items.size hi - sIx items.size 0 lo=items.size:=eq_of_beq q.2;exact hw ⟨by omega,by omega⟩
 show wpAny _ _ (if(((sIx items.size 0 lo:Nat):Int)==0 && (1:Int)==1 && (sIx items.size items.size hi - sIx items.size 0 lo)==items.size)=true then _ else _) _ _ s;rw[ze aa,Zu]
 first
  |exact zc (m:=Builtin.Tuple.tupleExact _) (y0 (zy ⟨_,rfl,zy h⟩) z)
  |exact zc (m:=Builtin.Tuple.tupleExact _) (y0 (zc (zy (zy ⟨_,rfl,zy h⟩))) z)
  |exact zc (zc (m:=Builtin.Tuple.tupleExact _) (y0 (zy (zy ⟨_,rfl,zy h⟩)) z))
  |exact zc (zc (m:=Builtin.Tuple.tupleExact _) (y0 (zy ⟨_,rfl,zy h⟩) z))
end
end HT
namespace L2
open PySem PySem.Spec PyProof.Rows
abbrev TO:=St->Hp->(Option Int->Hp->Prop)->Prop
noncomputable def PO(X:Cx)(e:Option Expr)(t:TO):Prop:=
 ∀(pins:List (Addr×Obj)) (s:Shared) (σ:St) (H:Hp) (Q:Option Int->Hp->Prop),Inv X pins σ H s->t σ H Q->
  wpAny (model X.prog X.w) X.A (evalPart e X.env) (λu s'=>∃o H',Inv X pins σ H' s'/\IsPart u o/\Q o H') X.xe s
noncomputable def Wz:TO:=λ_ H Q=>Q none H
noncomputable def akQ(t:TE):TO:=λσ H Q=>t σ H λx H1=>∃i,x=.int i/\Q (some i) H1
def intsAre_of{ns:List Int}:∀{us:List Value},Vals (ns.map V.int) us->IntsAre us ns:=by
 induction ns with
 |nil=>intro us r;rw[zza]at r;cases r;exact .nil
 |cons n ns ih=>
  intro us r;rw[zl]at r
  cases r with
  |cons r1 r2=>
   obtain⟨t,e⟩:=r1;subst e;exact .cons n t (ih r2)
section
variable{X:Cx}{e:Expr}{te:TE}{lo hi:Option Expr}{tl th:TO}{pos p2:Pos}
def RV:PO X none Wz:=by
 intro pins s σ H Q I h;rw[evalPart_none];exact zy ⟨none,H,I,.none,h⟩
def JV(h:PE X e te):PO X (some e) (akQ te):=by
 intro pins s σ H Q I z;rw[evalPart_some];refine thn (h pins s σ H _ I z) λu s1 ⟨x,H1,I1,r1,q1⟩=>?_;obtain⟨i,rfl,q⟩:=q1;obtain⟨t,rfl⟩:=r1;exact⟨some i,H1,I1,.int i t,q⟩
noncomputable def SlR(X:Cx)(r:V->Option Int->Option Int->Hp->VK->Prop):Prop:=
 ∀(pins:List (Addr×Obj)) (s:Shared) (σ:St) (H:Hp) (x:V) (v vl vu:Value) (lo hi:Option Int) (sl:Addr) (Q:VK),Inv X pins σ H s->RelV x v->s.heap.IsSliceOf sl vl vu .none->IsPart vl lo->IsPart vu hi->r x lo hi H Q->
  ∃T id,typeLookup (.type T) "__getitem__" =pure (some (.builtin id))/\s.TypeIs v T/\wpAny (model X.prog X.w) X.A (getItem v (.ref sl)) (EP X pins σ Q) X.xe s
noncomputable def tSl(r:V->Option Int->Option Int->Hp->VK->Prop)(te:TE)(tl th:TO):TE:=λσ H Q=>te σ H λx H1=>tl σ H1 λl H2=>th σ H2 λu H3=>r x l u H3 Q
def GX{r:V->Option Int->Option Int->Hp->VK->Prop}(hr:SlR X r)(he:PE X e te)(hl:PO X lo tl)(hu:PO X hi th):PE X (.Subscript e (.Slice lo hi none p2) pos) (tSl r te tl th):=by
 intro pins s σ H Q I h;refine Subscript_ (thn (he pins s σ H _ I h) λv s1 ⟨x,H1,I1,r1,q1⟩=>?_);refine wpAny_Slice (thn (hl pins s1 σ H1 _ I1 q1) λvl s2 ⟨l,H2,I2,pl,q2⟩=>thn (hu pins s2 σ H2 _ I2 q2) λvu z ⟨u,H3,I3,pu,q3⟩=>?_);rw[evalPart_none];refine zy ?_;have I4:Inv X pins σ H3 {z with heap:=z.heap.push {cls:=.type "slice",data:=.fields #[vl,vu,.none]}}:=I3.kept (t':=z.toks) λb ob q=>zb _ q;obtain⟨T,id,hT,ht,hg⟩:=hr pins {z with heap:=z.heap.push {cls:=.type "slice",data:=.fields #[vl,vu,.none]}} σ H3 x v vl vu l u z.heap.objs.size Q I4 r1 (Heap.IsSliceOf.new ..) pl pu q3;show wpAny (model X.prog X.w) X.A (subscriptTail e (.Slice lo hi none p2) v (.ref z.heap.objs.size)) (EP X pins σ Q) X.xe {z with heap:=z.heap.push {cls:=.type "slice",data:=.fields #[vl,vu,.none]}};exact tail_any (ops:=[.ref z.heap.objs.size,v]) ht hT hg (by with_unfolding_all rfl)
noncomputable def Ox(xs:List V)(lo hi:Option Int):List V:=(xs.drop (HT.sIx xs.length 0 lo)).take (HT.sIx xs.length xs.length hi - HT.sIx xs.length 0 lo)
def Ho(xs:List V)(lo hi:Option Int):(Ox xs lo hi).length<=xs.length:=by
 unfold Ox;rw[zU,yw];omega
noncomputable def alu(K:Fg_):V->Option Int->Option Int->Hp->VK->Prop:=λx lo hi H Q=>∃a xs,x=.ref a/\SqT K H a xs/\
 ¬(HT.sIx xs.length 0 lo=0/\HT.sIx xs.length xs.length hi=xs.length)/\∀p,H p=none->Q (.ref p) (upd H p (.tup (Ox xs lo hi)))
def ald:SlR X (alu X.K):=by
 intro pins s σ H x v vl vu lo hi sl Q I rx hs pl pu h;obtain⟨a,xs,rfl,hx,hw,q⟩:=h;cases rx;obtain⟨its,r,ht,hz⟩:=I.tuple hx;have z:its.toArray.size=xs.length:=by rw[zf];exact r.length.symm
 refine⟨"tuple",_,PyProof.Rows.slot_tuple_getitem.lookup,ht.typeIs,?_⟩;refine HT.getItem_tuple_cut ht hs pl pu (by rw[z];exact hw) ?_ (by rw[z];exact hz);rw[z];refine⟨.ref s.heap.objs.size,_,I.laid (t':=s.toks) (o:=.tup (Ox xs lo hi)) (λb ob q=>zb _ q) (zg _) ?_,rfl,q _ (I.hok.fresh (zg _))⟩;exact⟨zV (Ho xs lo hi) hz,_,(r.drop (HT.sIx xs.length 0 lo)).take (HT.sIx xs.length xs.length hi - HT.sIx xs.length 0 lo),IsTup.new _ _⟩
noncomputable def akA(K:Fg_):R2:=λx y H Q=>∃a b xs ys,x=.ref a/\y=.ref b/\SqT K H a xs/\SqT K H b ys/\xs≠[]/\xs.length+ys.length<=sizeLine/\
 (ys=[]->Q (.ref a) H)/\(ys≠[]->∀p,H p=none->Q (.ref p) (upd H p (.tup (xs++ys))))
def Vals.nil_iff{xs:List V}{us:List Value}(r:Vals xs us):us=[]↔xs=[]:=by
 cases r with
 |nil=>simp
 |cons _ _=>simp
def aju:OpR X (binaryOp .Add) (akA X.K):=by
 intro pins s σ H x y v u Q I rx ry h;obtain⟨a,b,xs,ys,rfl,rfl,ha,hb,hx,hz,q1,q2⟩:=h;cases rx;cases ry;obtain⟨its,r1,p1,_⟩:=I.tuple ha;obtain⟨aa,r2,p2,_⟩:=I.tuple hb;refine HT.cat_tup p1 p2 (λz=>hx (r1.nil_iff.mp z)) (λz=>⟨.ref a,H,I,rfl,q1 (r2.nil_iff.mp z)⟩) (λz=>?_) (by rw[<-r1.length,<-r2.length];exact hz);refine⟨.ref s.heap.objs.size,_,I.laid (t':=s.toks) (o:=.tup (xs++ys)) (λb ob q=>zb _ q) (zg _) ?_,rfl,q2 (λw=>z (r2.nil_iff.mpr w)) _ (I.hok.fresh (zg _))⟩;exact⟨by rw[zA];exact hz,_,r1.append r2,IsTup.new _ _⟩
end
end L2
namespace L2
open PySem PySem.Spec PyProof.Rows
noncomputable def ixN(n:Nat)(i:Int):Option Nat:=if 0<=i then(if i<n then some i.toNat else none)else if -(n:Int)<=i then some (i+n).toNat else none
noncomputable def atI{α:Type}(xs:List α)(i:Int):Option α:=(ixN xs.length i).bind λj=>xs[j]?
def Xz{n:Nat}{i:Int}{j:Nat}(h:ixN n i=some j):seqIndex? i n=some j/\j<n/\ -(n:Int)<=i/\i<n:=by
 unfold ixN at h;by_cases q:0<=i
 ·rw[zo q]at h
  by_cases h1:i<n
  ·rw[zo h1]at h
   have e:i.toNat=j:=zw h;exact⟨by rw[seqIndex_of q h1,e],by omega,by omega,h1⟩
  ·rw[ze h1]at h;cases h
 ·rw[ze q]at h
  by_cases h1: -(n:Int)<=i
  ·rw[zo h1]at h
   have e:(i+n).toNat=j:=zw h;exact⟨by rw[seqIndex_neg (by omega) h1,e],by omega,h1,by omega⟩
  ·rw[ze h1]at h;cases h
def Yd{α:Type}{xs:List α}{i:Int}{v:α}(h:atI xs i=some v):∃j,seqIndex? i xs.length=some j/\xs[j]? =some v/\j<xs.length/\ -(xs.length:Int)<=i/\i<xs.length:=by
 unfold atI at h
 cases e:ixN xs.length i with
 |none=>rw[e]at h;cases h
 |some j=>
  rw[e]at h;obtain⟨h1,h2,q,z⟩:=Xz e;exact⟨j,h1,h,h2,q,z⟩
def Jb{α:Type}{xs:List α}{j:Nat}{v:α}(h:xs[j]? =some v):atI xs (j:Int)=some v:=by
 have q:j<xs.length:=(zk.mp h).1
 have e:ixN xs.length (j:Int)=some j:=by
  unfold ixN;rw[zo (by omega),zo (by omega)];simp
 unfold atI;rw[e];exact h
noncomputable def aiH(b:Expr):Prop:=∀o i,subscripted b false o i=operate [o,i] (getItem o i)
noncomputable def IxR(X:Cx)(r:R2):Prop:=
 ∀(value slice:Expr) (pins:List (Addr×Obj)) (s:Shared) (σ:St) (H:Hp) (x y:V) (v u:Value) (Q:VK),Inv X pins σ H s->RelV x v->RelV y u->r x y H Q->
  subscripted slice false v u=operate [v,u] (getItem v u)->wpAny (model X.prog X.w) X.A (subscriptTail value slice v u) (EP X pins σ Q) X.xe s
noncomputable def MtR(X:Cx)(id:String)(r:V->List V->Hp->VK->Prop):Prop:=
 ∀(pins:List (Addr×Obj)) (s:Shared) (σ:St) (H:Hp) (x:V) (xs:List V) (v:Value) (us:List Value) (Q:VK),Inv X pins σ H s->RelV x v->Vals xs us->r x xs H Q->
  wpAny (model X.prog X.w) X.A (call (.builtin id) (v::us)) (EP X pins σ Q) X.xe s
section
variable{X:Cx}{a b:Expr}{ta tb:TE}{pos:Pos}
def jF{r:R2}(hr:IxR X r)(ha:PE X a ta)(hb:PE X b tb)(hs:aiH b):PE X (.Subscript a b pos) (tOp r ta tb):=by
 intro pins s σ H Q I h;exact Subscript_ (alr ha hb I h λv u z x y H2 I2 rx ry q=>hr a b pins z σ H2 x y v u Q I2 rx ry q (hs _ _))
noncomputable def alR(K:Fg_):R2:=λx y H Q=>∃p xs i v,x=.ref p/\y=.int i/\SqL K H p xs/\atI xs i=some v/\Q v H
noncomputable def aik(K:Fg_):R2:=λx y H Q=>∃p xs i v,x=.ref p/\y=.int i/\SqT K H p xs/\atI xs i=some v/\Q v H
def ajy:IxR X (alR X.K):=by
 intro value ac pins s σ H x y v u Q I rx ry h hs;obtain⟨p,xs,i,z,rfl,rfl,hq,he,q⟩:=h;cases rx;obtain⟨t,rfl⟩:=ry;obtain⟨its,r,pl,hz⟩:=I.list hq;obtain⟨j,h1,h2,h3,h4,h5⟩:=Yd he;obtain⟨w,ew,ab⟩:=r.get h2;have hl:=r.length;have hn:=Qu;have aa:EP X pins σ Q w s:=⟨z,H,I,ab,q⟩;by_cases h0:0<=i
 ·have hj:i.toNat=j:=by
   rw[seqIndex_of h0 h5]at h1;exact zw h1
  exact item_listR pl.isList h0 (by omega) (by rw[hj];simpa using ew) aa hs
 ·have hj:(i+(its.toArray.size:Int)).toNat=j:=by
   rw[seqIndex_neg (by omega) h4]at h1;rw[zf,<-hl];exact zw h1
  exact subscriptTail_builtinR (x:=w) pl.isList.typeIs slot_list_getitem.lookup
   (wpAny_getItem_list_neg (Q:=λr s'=>r=w/\EP X pins σ Q r s') pl.isList (by omega) (by rw[zf]<;>omega) (by omega) (by rw[hj];simpa using ew) ⟨rfl,aa⟩) hs
def akq:IxR X (aik X.K):=by
 intro value ac pins s σ H x y v u Q I rx ry h hs;obtain⟨p,xs,i,z,rfl,rfl,hq,he,q⟩:=h;cases rx;obtain⟨t,rfl⟩:=ry;obtain⟨its,r,pl,hz⟩:=I.tuple hq;obtain⟨j,h1,h2,h3,h4,h5⟩:=Yd he;obtain⟨w,ew,ab⟩:=r.get h2;have hl:=r.length;have hn:=Qu;have aa:EP X pins σ Q w s:=⟨z,H,I,ab,q⟩
 exact subscriptTail_builtinR (x:=w) pl.typeIs slot_tuple_getitem.lookup
  (getItem_tuple (j:=j) (Q:=λr s'=>r=w/\EP X pins σ Q r s') pl (by omega) (by omega) (by rw[zf,<-hl];exact h1) (by simpa using ew) ⟨rfl,aa⟩) hs
def Vx(its:List Value)(n j:Nat)(u:Value):Obj.mapSeq (·.setIfInBounds j u) {cls:=.type "list",data:=.seq its.toArray n}={cls:=.type "list",data:=.seq (its.set j u).toArray n}:=by
 simp[Obj.mapSeq]
theorem Inv.lst{pins:List (Addr×Obj)}{σ:St}{H:Hp}{s:Shared}{p:Addr}{xs:List V}(I:Inv X pins σ H s)(h:H p=some (.lst xs)):
  ∃(its:List Value)(n:Nat),Vals xs its/\s.heap.get? p=some {cls:=.type "list",data:=.seq its.toArray n}/\xs.length<=sizeLine:=by
 obtain⟨z,its,n,r,e⟩:=I.hok p _ h;exact⟨its,n,r,e,z⟩
def Inv.lstUpd{pins:List (Addr×Obj)}{σ:St}{H:Hp}{s:Shared}{p:Addr}{xs ys:List V}{its its':List Value}{n z:Nat}{f:Obj->Obj}(I:Inv X pins σ H s)(h:H p=some (.lst xs))
  (ho:s.heap.get? p=some {cls:=.type "list",data:=.seq its.toArray n}) (hf:f {cls:=.type "list",data:=.seq its.toArray n}={cls:=.type "list",data:=.seq its'.toArray z}) (r:Vals ys its') (hz:ys.length<=sizeLine) (t:Nat):
  Inv X pins σ (upd H p (.lst ys)) {s with heap:=s.heap.update p f,toks:=t}:=by
 have e:(s.heap.update p f).get? p=some {cls:=.type "list",data:=.seq its'.toArray z}:=by
  rw[zzv f ho (by rw[hf]<;>rfl),hf]
 refine I.write (x:=p) (e:=p) (by rw[h];trivial) (.inl rfl) (λb u hb q=>(yp _ _ (Ne.symm hb)).trans q) ⟨_,e⟩ ?_;exact⟨hz,its',z,r,e⟩
noncomputable def alG:V->V->V->Hp->(Hp->Prop)->Prop:=λo i v H Q=>∃p xs k j,o=.ref p/\i=.int k/\H p=some (.lst xs)/\ixN xs.length k=some j/\Q (upd H p (.lst (xs.set j v)))
def set_list:alX X alG:=by
 intro pins s σ H o i v ov iv u Q I ro ri rv h;obtain⟨p,xs,k,j,rfl,rfl,hp,hj,q⟩:=h;cases ro;obtain⟨t,rfl⟩:=ri;obtain⟨its,n,r,ho,hz⟩:=I.lst hp;obtain⟨h1,h2,h3,h4⟩:=Xz hj;have z:=r.length;have hn:=Qu
 have I':Inv X pins σ (upd H p (.lst (xs.set j v))) {s with heap:=s.heap.update p (Obj.mapSeq (·.setIfInBounds j u))}:=
  I.lstUpd hp ho (Vx its n j u) (r.set rv j) (by rw[List.length_set];exact hz) s.toks
 by_cases h0:0<=k
 ·have hk:k.toNat=j:=by
   rw[seqIndex_of h0 h4]at h1;exact zw h1
  exact PySem.W.ki_setAt ho h0 (by omega) (by rw[zf,<-z];exact h4) (by rw[hk];exact⟨_,I',q⟩)
 ·have hk:(k+(its.toArray.size:Int)).toNat=j:=by
   rw[seqIndex_neg (by omega) h3]at h1;rw[zf,<-z];exact zw h1
  exact PySem.W.ki_setBack ho (by omega) (by rw[zf,<-z];exact h3) (by omega) (by rw[hk];exact⟨_,I',q⟩)
def OD(lo hi:Option Int)(n:Nat):(sliceBounds lo hi none n).1=((HT.sIx n 0 lo:Nat):Int)/\(sliceBounds lo hi none n).2.1=((HT.sIx n n hi:Nat):Int)/\(sliceBounds lo hi none n).2.2=1:=by
 refine⟨?_,?_,rfl⟩
 ·cases lo with
  |none=>simp[sliceBounds,HT.sIx]
  |some i=>
   simp only[sliceBounds,HT.sIx,Option.getD_none,show(1:Int)>0 by decide,if_true];by_cases h:i<0
   ·simp only[h,if_true]<;>omega
   ·simp only[h,if_false]<;>omega
 ·cases hi with
  |none=>simp[sliceBounds,HT.sIx]
  |some i=>
   simp only[sliceBounds,HT.sIx,Option.getD_none,show(1:Int)>0 by decide,if_true];by_cases h:i<0
   ·simp only[h,if_true]<;>omega
   ·simp only[h,if_false]<;>omega
def Nb(its:List Value)(lo hi:Option Int):slicePick its.toArray lo hi none=((its.drop (HT.sIx its.length 0 lo)).take (HT.sIx its.length its.length hi - HT.sIx its.length 0 lo)).toArray:=by
 obtain⟨h1,h2,q⟩:=OD lo hi its.toArray.size;unfold slicePick;rw[h1,h2,q];simp only[sliceRange_one,pick_run,zf]<;>rfl
noncomputable def alO(K:Fg_):V->Option Int->Option Int->Hp->VK->Prop:=λx lo hi H Q=>∃a xs,x=.ref a/\SqL K H a xs/\∀p,H p=none->Q (.ref p) (upd H p (.lst (Ox xs lo hi)))
def aiA:SlR X (alO X.K):=by
 intro pins s σ H x v vl vu lo hi sl Q I rx hs pl pu h;obtain⟨a,xs,rfl,hx,q⟩:=h;cases rx;obtain⟨its,r,ht,hz⟩:=I.list hx;have z:=r.length;refine⟨"list",_,slot_list_getitem.lookup,ht.isList.typeIs,?_⟩;refine wpAny_getItem_list_slice ht.isList hs pl pu .none (by simp) ?_ (by rw[zf]<;>omega);rw[Nb,<-z];refine⟨.ref s.heap.objs.size,_,I.laid (t':=s.toks) (o:=.lst (Ox xs lo hi)) (λb ob q=>zb _ q) (zg _) ?_,rfl,q _ (I.hok.fresh (zg _))⟩;exact⟨zV (Ho xs lo hi) hz,_,0,(r.drop (HT.sIx xs.length 0 lo)).take (HT.sIx xs.length xs.length hi - HT.sIx xs.length 0 lo),zB _ rfl⟩
def QV:nT X (.builtin "len") (λxs H Q=>∃p ys,xs=[.ref p]/\(SqL X.K H p ys\/SqT X.K H p ys)/\Q (.int ys.length) H):=by
 intro pins s σ H xs us Q I r h;obtain⟨p,ys,rfl,hq,q⟩:=h;obtain⟨u,rfl,rx⟩:=vals1 r;cases rx;have hn:=Qu;rcases hq with hq|hq
 ·obtain⟨its,r',pl,hz⟩:=I.list hq
  have z:=r'.length;exact Calls.call_len_list pl.isList (by simp only[zf]<;>omega) ⟨.int ys.length,H,I.tok _,⟨s.toks+1,by rw[zf,z]⟩,q⟩
 ·obtain⟨its,r',pl,hz⟩:=I.tuple hq
  have z:=r'.length;exact len_tuple pl (by simp only[zf]<;>omega) ⟨.int ys.length,H,I.tok _,⟨s.toks+1,by rw[zf,z]⟩,q⟩
def Fi:nT X (.builtin "len") (λxs H Q=>∃z,xs=[.str z]/\z.length<=sizeLine/\Q (.int z.length) H):=by
 intro pins s σ H xs us Q I r h;obtain⟨z,rfl,hz,q⟩:=h;obtain⟨u,rfl,t,rfl⟩:=vals1 r;have hn:=Qu;exact len_str (by omega) ⟨.int z.length,H,I.tok _,⟨_,rfl⟩,q⟩
def Qw:nT X (.type "list") (λxs H Q=>∃p ys,xs=[.ref p]/\(SqL X.K H p ys\/SqT X.K H p ys)/\∀l,H l=none->Q (.ref l) (upd H l (.lst ys))):=by
 intro pins s σ H xs us Q I r h;obtain⟨p,ys,rfl,hq,q⟩:=h;obtain⟨u,rfl,rx⟩:=vals1 r;cases rx
 have aa:∀(its:List Value),Vals ys its->ys.length<=sizeLine->∀(h':Heap)(z:Nat),(∀b o',s.heap.get? b=some o'->h'.get? b=some o')->
   h'.get? s.heap.objs.size=some {cls:=.type "list",dict:=none,data:=.seq its.toArray z,slots:= #[]}->EP X pins σ Q (.ref s.heap.objs.size) {s with heap:=h'}:=λits r' hz h' z kp e=>
  ⟨.ref s.heap.objs.size,_,I.laid (t':=s.toks) kp (zg _) (show mq X.prog X.w _ h' _ (.lst ys)from⟨hz,its,z,r',e⟩),rfl,q _ (I.hok.fresh (zg _))⟩
 rcases hq with hq|hq
 ·obtain⟨its,r',pl,hz⟩:=I.list hq
  have ab:=r'.length;obtain⟨o,ho,hc,n,hd⟩:=pl.isList;exact call_list_seq p (.inl rfl) ho hc hd (λh' z kp e=>aa its r' hz h' z kp e) (by simp only[zf]<;>omega)
 ·obtain⟨its,r',pl,hz⟩:=I.tuple hq
  have ab:=r'.length;obtain⟨o,ho,hc,n,hd⟩:=pl;exact call_list_seq p (.inr rfl) ho hc hd (λh' z kp e=>aa its r' hz h' z kp e) (by simp only[zf]<;>omega)
noncomputable def tyV(K:Fg_)(T:String)(x:V)(H:Hp):Prop:=match x with
 |.str _=>T= "str"
 |.int _=>T= "int"
 | .ref p=>(T= "list" /\∃xs,SqL K H p xs)\/(T= "tuple" /\∃o,K.lookup p=some o/\o.cls=.type "tuple" /\o.dict=none)\/
   (T= "dict" /\((∃kvs,H p=some (.dK kvs))\/∃kvs,H p=some (.dT kvs)))\/(T= "set" /\∃S n,H p=some (.set S n))
 |_=>False
def aaU{pins:List (Addr×Obj)}{σ:St}{H:Hp}{s:Shared}{T:String}{x:V}{v:Value}(I:Inv X pins σ H s)(r:RelV x v)(ty:tyV X.K T x H):
  s.TypeIs v T/\∀a,v=.ref a->∃ob,s.heap.get? a=some ob/\ob.dict=none:=by
 cases x with
 |str z=>
  obtain⟨t,rfl⟩:=r;cases (show T= "str" from ty);exact⟨typeIs_str s z t,λ_ e=>nomatch e⟩
 |int i=>
  obtain⟨t,rfl⟩:=r;cases (show T= "int" from ty);exact⟨typeIs_int s i t,λ_ e=>nomatch e⟩
 |ref p=>
  cases r;rcases ty with⟨rfl,xs,hq⟩|⟨rfl,o,q,hc,hd⟩|⟨rfl,q⟩|⟨rfl,S,n,q⟩
  ·obtain⟨its,_,pl,_⟩:=I.list hq
   refine⟨pl.isList.typeIs,λa e=>?_⟩;cases e;obtain⟨o,n,e,c,hd,_⟩:=pl;exact⟨o,e,hd⟩
  ·refine⟨⟨o,I.kIn p o q,hc⟩,λa e=>?_⟩
   cases e;exact⟨o,I.kIn _ o q,hd⟩
  ·have z:∃o,s.heap.get? p=some o/\o.ExactDict:=by
    rcases q with⟨kvs,q⟩|⟨kvs,q⟩
    ·obtain⟨_,_,_,_,o,_,_,e,ex,_⟩:=I.hok p _ q
     exact⟨o,e,ex⟩
    ·obtain⟨_,_,_,_,o,_,_,e,ex,_⟩:=I.hok p _ q
     exact⟨o,e,ex⟩
   obtain⟨o,e,ex⟩:=z;refine⟨⟨o,e,ex.1⟩,λa e2=>?_⟩;cases e2;exact⟨o,e,ex.2.1⟩
  ·obtain⟨o,_,_,_,e,ex,_⟩:=I.hok p _ q
   refine⟨⟨o,e,ex.1⟩,λa e2=>?_⟩;cases e2;exact⟨o,e,ex.2.1⟩
 |_=>exact False.elim ty
noncomputable def alA(K:Fg_)(T:String)(r:V->List V->Hp->VK->Prop)(to:TE):TE:=λσ H Q=>to σ H λx H1=>tyV K T x H1/\r x [] H1 Q
noncomputable def tBM(K:Fg_)(T:String)(r:V->List V->Hp->VK->Prop)(to:TE)(t:TA):TE:=λσ H Q=>to σ H λx H1=>tyV K T x H1/\t σ H1 λxs H2=>r x xs H2 Q
variable{o e:Expr}{es:List Expr}{to:TE}{t:TA}{name:Str}{apos cpos:Pos}{T id:String}{r:V->List V->Hp->VK->Prop}
def akc(pa:PlainAttrs T)(slot:Slot T name id)(z:typeOf (.builtin id)=pure (.type "method_descriptor")) (hm:MtR X id r) (ho:PE X o to)
  (q:attributeBase o name X.env (eval o X.env)=eval o X.env:=by rfl) (hline:(apos.endLine==cpos.line)=true:=by rfl):PE X (.Call (.Attribute o name apos) [] [] cpos) (alA X.K T r to):=by
 intro pins s σ H Q I h;refine wpAny_Call_method0_late q hline (thn (ho pins s σ H _ I h) λv s1 ⟨x,H1,I1,r1,ty,q1⟩=>?_);obtain⟨h1,h2⟩:=aaU I1 r1 ty;exact⟨T,id,pa,slot,z,h1,h2,Calls.callWith_builtin rfl (PySem.evalArgs_none (hm pins s1 σ H1 x [] v [] Q I1 r1 .nil q1))⟩
def alL(pa:PlainAttrs T)(slot:Slot T name id)(z:typeOf (.builtin id)=pure (.type "method_descriptor")) (hm:MtR X id r) (ho:PE X o to) (ha:PA X (e::es) t)
  (q:attributeBase o name X.env (eval o X.env)=eval o X.env:=by rfl)
  (hfew:((backTo cpos (starEach (e::es) X.env)).all (λx=>!x.1) && (backToKw cpos (keywordEach [] X.env)).all (λx=>x.1.isSome)
   && decide ((e::es).length+([]:List Keyword).length+(if([]:List Keyword).isEmpty then 0 else 1)<30))=true:=by rfl)
  (hline:(apos.endLine==cpos.line)=true:=by rfl) (hs:starEach (e::es) X.env=(false,eval e X.env)::starEach es X.env:=by rfl) (hplain:(backTo cpos (starEach es X.env)).any (·.1)=false:=by rfl):
  PE X (.Call (.Attribute o name apos) (e::es) [] cpos) (tBM X.K T r to t):=by
 intro pins s σ H Q I h;refine wpAny_Call_method_late q hfew hline rfl (thn (ho pins s σ H _ I h) λv s1 ⟨x,H1,I1,r1,ty,q1⟩=>?_);obtain⟨h1,h2⟩:=aaU I1 r1 ty;refine⟨T,id,pa,slot,z,h1,h2,?_⟩;have hA:=ha cpos pins s1 σ H1 _ I1 q1;rw[hs]at hA⊢;refine Calls.callWith_builtin (by show(false||(backTo cpos (starEach es X.env)).any (·.1))=false;rw[hplain]<;>rfl) (Calls.evalArgs_plain ?_);exact thn hA λus s2 ⟨vs,H2,I2,r2,q2⟩=>hm pins s2 σ H2 x vs v us Q I2 r1 r2 q2
end
end L2
namespace L2
open PySem PySem.Spec PyProof.Rows
noncomputable def MtM(X:Cx)(id:String)(r:V->List V->Hp->VK->Prop):Prop:=
 ∀(pins:List (Addr×Obj)) (s:Shared) (σ:St) (H:Hp) (x:V) (xs:List V) (v:Value) (us:List Value) (Q:VK),Inv X pins σ H s->RelV x v->Vals xs us->r x xs H Q->
  wpAny (model X.prog X.w) X.A (call (.builtin id) (v::us)) (EP X pins σ Q) X.xe s
def Vals.one{x:V}{us:List Value}(h:Vals [x] us):∃u,us=[u]/\RelV x u:=by
 cases h with|cons r q=>cases q;exact⟨_,rfl,r⟩
def Vals.two{x y:V}{us:List Value}(h:Vals [x,y] us):∃u v,us=[u,v]/\RelV x u/\RelV y v:=by
 cases h with|cons r q=>cases q with|cons r2 q2=>cases q2;exact⟨_,_,rfl,r,r2⟩
def Vals.zero:∀{us:List Value},Vals [] us->us=[]
 |_,.nil=>rfl
theorem Vals.dropLast{xs:List V}{us:List Value}(h:Vals xs us):Vals xs.dropLast us.dropLast:=by
 induction h with
 |nil=>exact .nil
 |cons r t ih=>
  cases t with
  |nil=>exact .nil
  |cons q t'=>exact .cons r ih
def Wa{α:Type}(l:List α):l.eraseIdx (l.length - 1)=l.dropLast:=by
 induction l with
 |nil=>rfl
 |cons a r ih=>
  cases r with
  |nil=>rfl
  |cons b r=>
   have e:(a::b::r).length - 1=((b::r).length - 1)+1:=by
    have h1:(a::b::r).length=r.length+2:=rfl;have h2:(b::r).length=r.length+1:=rfl;omega
   rw[e,List.eraseIdx_cons_succ,ih]
   all_goals rfl
section
variable{X:Cx}{pins:List (Addr×Obj)}{σ:St}{H:Hp}{s:Shared}{l b:Addr}{xs ys zs:List V}
def Inv.lset{its its':List Value}{n:Nat}{f:Array Value->Array Value}{t':Nat}(I:Inv X pins σ H s)(hH:H l=some (.lst xs))
  (e:s.heap.get? l=some {cls:=.type "list",data:=.seq its.toArray n}) (hf:f its.toArray=its'.toArray) (hv:Vals ys its') (hz:ys.length<=sizeLine):
  Inv X pins σ (upd H l (.lst ys)) {s with heap:=s.heap.update l (Obj.mapSeq f),toks:=t'}:=by
 have q:=PySem.IsL.update e f;rw[hf]at q;refine I.write (x:=l) (e:=l) (by rw[hH];exact trivial) (.inl rfl) (λb' u z hu=>(yp s.heap (Obj.mapSeq f) (Ne.symm z)).trans hu) ⟨_,q⟩ ?_;exact⟨hz,its',_,hv,q⟩
def Inv.lnew{its:List Value}{t':Nat}(I:Inv X pins σ H s)(z:Vals ys its)(hz:ys.length<=sizeLine):
  Inv X pins σ (upd H s.heap.objs.size (.lst ys)) {s with heap:=s.heap.push {cls:=.type "list",data:=.seq its.toArray},toks:=t'}:=
 I.laid (λ_ _ q=>zb _ q) (zg _) ⟨hz,its,0,z,zB _ rfl⟩
theorem Inv.fresh(I:Inv X pins σ H s):H s.heap.objs.size=none:=I.hok.fresh (zg _)
def Inv.lstM(I:Inv X pins σ H s)(q:H l=some (.lst xs)):xs.length<=sizeLine/\∃(its:List Value)(n:Nat),Vals xs its/\xs.length=its.length/\s.heap.get? l=some {cls:=.type "list",data:=.seq its.toArray n}:=by
 obtain⟨z,its,n,r,e⟩:=I.hok l _ q;exact⟨z,its,n,r,r.length,e⟩
def ZM{n:Nat}(h:n<=sizeLine):Builtin.List.listTooLong n=false:=by
 unfold Builtin.List.listTooLong;exact zI (by omega)
end
section
variable{X:Cx}
noncomputable def Hq:V->List V->Hp->VK->Prop:=λx vs H Q=>∃l xs y,x=.ref l/\vs=[y]/\H l=some (.lst xs)/\xs.length<sizeLine/\Q .non (upd H l (.lst (xs++[y])))
def mD:MtM X "list.append" Hq:=by
 intro pins s σ H x vs v us Q I rx rv h;obtain⟨l,xs,y,rfl,rfl,hH,hz,q⟩:=h;cases rx;obtain⟨u,rfl,ru⟩:=rv.one;obtain⟨z,its,n,r,hl,e⟩:=I.lstM hH;refine yyd F.slot_list_append ⟨_,e,rfl⟩ F.entry_list_append (F.args_list_append_2 _ _) (PySem.list_append l its.toArray n u (by rw[zf];omega)) ⟨e,?_⟩;refine⟨.non,_,I.lset (its':=its++[u]) hH e (by simp) (r.append (.cons ru .nil)) ?_,rfl,q⟩;rw[zA,yU];omega
noncomputable def aiZ:V->List V->Hp->VK->Prop:=λx vs H Q=>∃l b xs zs,x=.ref l/\vs=[.ref b]/\H l=some (.lst xs)/\H b=some (.lst zs)/\xs.length+zs.length<=sizeLine/\Q .non (upd H l (.lst (xs++zs)))
def Hg:MtM X "list.extend" aiZ:=by
 intro pins s σ H x vs v us Q I rx rv h;obtain⟨l,b,xs,zs,rfl,rfl,hH,hB,hz,q⟩:=h;cases rx;obtain⟨u,rfl,ru⟩:=rv.one;cases ru;obtain⟨z,its,n,r,hl,e⟩:=I.lstM hH;obtain⟨z2,aa,n2,r2,ac,e2⟩:=I.lstM hB;have hsz:its.toArray.size+aa.toArray.size<=sizeLine:=by rw[zf,zf];omega
 have ab:¬(!its.toArray.isEmpty && Builtin.List.listTooLong (its.toArray.size+aa.toArray.size))=true:=by
  rw[ZM hsz,zzq];exact zM
 refine yyd F.slot_list_extend ⟨_,e,rfl⟩ F.entry_list_extend (F.args_list_extend_2 _ _)
  (AutoSeq1.list_extend_list_list_0 l its.toArray n b aa.toArray n2 ab (by rw[zf];omega) (by omega)) ⟨e,e2,?_⟩
 refine⟨.non,_,I.lset (its':=its++aa) hH e (by simp) (r.append r2) ?_,rfl,q⟩;rw[zA];omega
noncomputable def amo:V->List V->Hp->VK->Prop:=λx vs H Q=>∃l xs y,x=.ref l/\vs=[]/\H l=some (.lst xs)/\xs[xs.length - 1]? =some y/\Q y (upd H l (.lst xs.dropLast))
def ako:MtM X "list.pop" amo:=by
 intro pins s σ H x vs v us Q I rx rv h;obtain⟨l,xs,y,rfl,rfl,hH,hy,q⟩:=h;cases rx;have aa:=rv.zero;subst aa;obtain⟨z,its,n,r,hl,e⟩:=I.lstM hH;obtain⟨u,hu,ru⟩:=r.get hy
 have hy':its.toArray[its.toArray.size - 1]? =some u:=by
  show its.toArray[its.length - 1]? =some u;rw[<-yF,<-hl];exact hu
 refine yyd F.slot_list_pop ⟨_,e,rfl⟩ F.entry_list_pop (F.args_list_pop_1 _) (MeetsSeq.list_pop_last l its.toArray n u hy' (by rw[zf];omega)) ⟨e,?_⟩;refine⟨y,_,I.lset (its':=its.dropLast) hH e ?_ r.dropLast ?_,ru,q⟩
 ·show its.toArray.eraseIdxIfInBounds (its.toArray.size - 1)=its.dropLast.toArray
  rw[zf,List.eraseIdxIfInBounds_toArray,Wa]
 ·rw[List.length_dropLast]
  omega
noncomputable def alz:R2:=λx y H Q=>∃l b xs zs,x=.ref l/\y=.ref b/\H l=some (.lst xs)/\H b=some (.lst zs)/\xs.length+zs.length<=sizeLine/\∀p,H p=none->Q (.ref p) (upd H p (.lst (xs++zs)))
def Xj:OpR X (binaryOp .Add) alz:=by
 intro pins s σ H x y v u Q I rx ry h;obtain⟨l,b,xs,zs,rfl,rfl,hH,hB,hz,q⟩:=h;cases rx;cases ry;obtain⟨z,its,n,r,hl,e⟩:=I.lstM hH;obtain⟨z2,aa,n2,r2,ab,e2⟩:=I.lstM hB;refine PySem.P.add_list e e2 ?_ (by rw[zf,zf];omega);have ea:its.toArray++aa.toArray=(its++aa).toArray:=by simp
 rw[ea];exact⟨.ref _,_,I.lnew (t':=s.toks) (r.append r2) (by rw[zA];omega),rfl,q _ I.fresh⟩
end
section
variable{prog:Program}{w:World}{A:Around}{E:Value->Shared->Prop}{s:Shared}
set_option maxRecDepth 100000 in
end
end L2
namespace Att
open PySem PySem.W PySem.Calls PyProof.Rows
def Ip{P:Params}{h:Heap}:∀(ns:List Int)(vs:List Value),WellAll P h vs (ns.map WData.int)->IntsAre vs ns:=by
 intro ns
 induction ns with
 |nil=>
  intro vs w;rw[zza]at w;cases w;exact .nil
 |cons n ns ih=>
  intro vs w;rw[zl]at w
  cases w with
  |cons a b=>
   cases a;exact .cons _ _ (ih _ b)
def Yj{l:OpenLaw}{n:Nat}(hn:l.most=some n){P:Params}{h:Heap}{args:List WData}{z:List Value}
  (aa:l.row.toRowW.claim.pre args=true) (ad:WellAll P h z args):
  ∃a vs ns,z=[Value.ref a]/\args=[WData.list (ns.map WData.int)]/\h.get? a=some {cls:=.type "list",data:=.seq vs.toArray}/\IntsAre vs ns/\ns.length<=n:=by
 have ac:WShape.hasAll [] args [.list .int]=true:=(pre_splitW aa).1;have hc:l.pre.holds [] {args:=args}=true:=(pre_splitW aa).2;obtain⟨d,r,rfl,h1,h2⟩:=hasAllW_cons ac;obtain rfl:=hasAllW_nil h2;obtain⟨xs,rfl,h3⟩:=hasW_list h1;obtain⟨ns,rfl⟩:=items_int h3
 have ab:ns.length<=n:=by
  unfold OpenLaw.pre at hc
  have h4:(WTm.not (.lt (.lit (.int (n:Int))) (.len (.arg 0)))).holds [] {args:=[.list (ns.map .int)]}=true:=by
   have h4:=(holds_andW hc).1;rw[hn]at h4;exact h4
  have h5:=condW_of h4 (w_not (w_lt w_lit (w_len_list (w_arg rfl))));rw[za]at h5;refine Nat.le_of_not_lt λq=>?_;have q':(n:Int)<((ns.length:Nat):Int):=by omega
  first
   |(rw[zE q']at h5;exact absurd h5 (by decide))
   |(simp at h5;omega)
 cases ad with
 |cons w1 w2=>
  cases w2
  cases w1 with
  |list ho hall=>exact⟨_,_,ns,rfl,rfl,ho,Ip ns _ hall,ab⟩
def YW(l:OpenLaw)(args:List WData):l.row.toRowW.claim.post args (.bool true) args=true:=
 postW_of (r:=l.row.toRowW) (X:=(true==true))
  (show WShape.has [] (.bool true) .bool=true by first|rfl|decide|simp[WShape.has,WShape.arms,WShape.armsAll])
  (show(WTm.eq .res (.lit (.bool true))).value [] {args:=args,res:=some (.bool true),after:=args}=some (.bool (true==true))from w_eq_bool (w_res rfl) w_lit) rfl
def attach_call{l:OpenLaw}{n:Nat}{q:Program}{aa:List Str}{XP:(Str->Option Value)->Heap->Prop}{YP:World->Heap->Prop}{d:DefRec}
  (hn:l.most=some n) (ah:d.params.defaults=[])
  (ad:∀(w:World)(s₀ z:Shared)(mg mb:Str->Option Value)(fa:Addr)(o:Obj)(pm cd ac:Value)(a:Addr)(vs:List Value)(ns:List Int),
   Ground q aa [] XP w s₀ mg mb z.heap->YP w z.heap->
   z.heap.get? fa=some o->o.data=.func (docDef d.name d.params d.body d.scope pm cd ac)->z.heap.CodeRec cd d.name->mg d.name=some (.ref fa)->
   z.heap.get? a=some {cls:=.type "list",data:=.seq vs.toArray}->IntsAre vs ns->ns.length<=n->z.gens= #[]->
   codeAny (model l.prog w) callerA (.call (.ref fa) ⟨[.ref a],[]⟩) (λr s'=>r=.ok (.ret (.bool true))/\OldK z.heap s'.heap/\s'.os=z.os/\AllBare s'.gens) z):
  WalkO q aa XP YP l.row.toRowW d [] (λf vs=>PySem.call f vs):=by
 intro w s₀ z mg mb G Y fa o pm cd ac dV kV ho hd aj hD ak hg args am as ag al an ai ao;obtain rfl:dV=.none:=Dflts.none hD ah;obtain rfl:kV=.none:=Dflts.noKw hD;obtain⟨a,vs,ns,rfl,rfl,af,ab,ae⟩:=Yj hn ag ai;refine enter_call (codeAny_mono (ad w s₀ z mg mb fa o pm cd ac a vs ns G Y ho (fd_plain hd) aj ak af ab ae hg) λr s' hq=>?_);obtain⟨rfl,h2,h3,h4⟩:=hq;exact⟨.inl ⟨.bool true,.bool true,[],rfl,λ_=>rfl,.bool true,YW l _,λ_=>⟨List.Pairwise.nil,λ_ hm=>(nomatch hm)⟩⟩,h2,h3,h4⟩
end Att
namespace L2
open PySem PySem.Spec PyProof.Rows
theorem vU:∀{vs:List Value}{ns:List Int},IntsAre vs ns->Vals (ns.map V.int) vs
 |_,_,.nil=> .nil
 |_,_,.cons n t h=> .cons ⟨t,rfl⟩ (vU h)
noncomputable def Only(H:Hp):Prop:=∀b,H b=none\/∃o xs,H b=some (.frz o (.lst xs))
def aaE{P:Program}{w:World}{K:Fg_}{mg mb:Str->Option Value}{CX:CXT}{k:Nat}{fa a:Addr}{fd:FuncData}{x:Str}{sp:Sp}{s₁:Shared}{vs:List Value}{ns:List Int}
  (KX:K.In s₁.heap) (ad:s₁.heap.Ns mainGlobals mg) (hb:s₁.heap.Ns builtinsNs mb) (ai:∀x:Str,x≠ "__name__" ->mb x=bootBuiltins x) (ah:s₁.heap.NoLimit) (hg:s₁.gens= #[])
  (ha:s₁.heap.get? a=some {cls:=.type "list",data:=.seq vs.toArray}) (hi:IntsAre vs ns) (hl:ns.length<=sizeLine) (hr:qW k callerA)
  (F:∀base:Heap,K.In base->base.Ns mainGlobals mg->jQ P w K mg base CX k fa fd [x] sp) (hbind:∀(s:Shared)(u:Value),BindsTo s fd ⟨[u],[]⟩ [(x,u)])
  (hsp:∀H:Hp,Only H->SqL K H a (ns.map V.int)->sp [.ref a] H (λv _=>v=.bl true) λ_ _ _=>False)
  (hCX:∀H e s',CX [] H s₁ (λ_ _ _=>False) e s'->False):
  codeAny (model P w) callerA (.call (.ref fa) ⟨[.ref a],[]⟩) (λr s'=>r=.ok (.ret (.bool true))/\OldK s₁.heap s'.heap/\s'.os=s₁.os/\AllBare s'.gens) s₁:=by
 have rv:=vU hi;have ae:=hi.length
 have ac:∀H:Hp,Only H->SqL K H a (ns.map V.int)->HOk P w H s₁.heap->(∀b,H b≠none->b=a)->(H a≠none->K.lookup a=none)->
   codeAny (model P w) callerA (.call (.ref fa) ⟨[.ref a],[]⟩) (λr s'=>r=.ok (.ret (.bool true))/\OldK s₁.heap s'.heap/\s'.os=s₁.os/\AllBare s'.gens) s₁:=by
  intro H hO hS hok hA hK;have aa:∀{b:Addr}{o:Obj},s₁.heap.get? b=some o->H b=none->(ZR s₁.heap H).get? b=some o:=λe n=>ZQ e n
  have aj:∀{b:Addr}{o:Obj}{es:Array DictEntry}{ep:Nat},s₁.heap.get? b=some o->o.data=.dict es ep->H b=none:=fun{b o es ep} e d=>by
   cases q:H b with
   |none=>rfl
   |some u=>
    have e':b=a:=hA b (by rw[q];simp);subst e';rw[ha]at e;cases e;have d':Data.seq vs.toArray _=Data.dict es ep:=d;cases d'
  have ab:∀{b:Addr}{m:Str->Option Value},s₁.heap.Ns b m->(ZR s₁.heap H).Ns b m:=fun{b m}⟨o,es,ep,e,d,r⟩=>⟨o,es,ep,aa e (aj e d),d,r⟩
  have ag:K.In (ZR s₁.heap H):=λb o e=>aa (KX b o e) (by
   cases q:H b with
   |none=>rfl
   |some u=>
    have e':b=a:=hA b (by rw[q];simp);subst e';rw[hK (by rw[q];simp)]at e;cases e)
  have hM:Mod K mg (ZR s₁.heap H):=⟨ag,ab ad,⟨mb,ab hb,ai⟩,let⟨mc,h1,h2⟩:=ah;⟨mc,ab h1,h2⟩⟩;have e0:Zh P w K mg (ZR s₁.heap H) callerA [] s₁ H:=⟨rfl,hM,λb o e=>aiR e,zz7 (Yn _ _),trivial,λb hb=>absurd (show b∈([]:List Addr)from hb) (by simp),hok,.of_eq hg⟩;refine codeAny_mono ((F _ ag (ab ad)).run callerA [] s₁ H ⟨[.ref a],[]⟩ [.ref a] [.ref a] _ _ hr e0 (hbind s₁ (.ref a)) (.cons rfl .nil) (hsp H hO hS)) λr s' h=>?_
  cases r with
  |error e=>exact(hCX H e s' h).elim
  |ok fl=>
   cases fl with
   |next=>exact False.elim h
   |brk=>exact False.elim h
   |cont=>exact False.elim h
   |ret u=>
    obtain⟨v,H',os,bare,un,af,r',q⟩:=h;have q':v=.bl true:=q;subst q';obtain rfl:u=Value.bool true:=r';refine⟨rfl,OldK.of_keep λb o e=>?_,os,bare⟩
    cases q:H b with
    |none=>exact un.keep b o e q (by intro z;exact absurd (show b∈([]:List Addr)from z) (by simp)) (by simp)
    |some u=>
     rcases hO b with z|⟨ob,xs,z⟩
     ·rw[q]at z;cases z
     ·have z2:=un.frzs b ob _ z
      obtain⟨e1,_⟩:=hok b _ z;obtain⟨e2,_⟩:=af b _ z2;rw[e]at e1;cases e1;exact e2
 cases hk:K.lookup a with
 |some o=>
  have e:=KX a o hk;rw[ha]at e;cases e;refine ac (λ_=>none) (λ_=> .inl rfl) (.inr ⟨_,vs.toArray,_,hk,rfl,rfl,rfl,by rw[zf,ae];exact hl,by simpa using rv⟩) (λb u z=>by have z':(none:Option HO)=some u:=z;cases z') (λb z=>absurd rfl z) λz=>absurd rfl z
 |none=>
  refine ac (λb=>if b=a then some (.frz {cls:=.type "list",data:=.seq vs.toArray} (.lst (ns.map V.int)))else none) (λb=>?_) (.inl (.inr ⟨{cls:=.type "list",data:=.seq vs.toArray},zo rfl⟩)) (λb u z=>?_) (λb z=>?_) λ_=>hk
  ·by_cases hb:b=a
   ·exact .inr ⟨_,_,zo hb⟩
   ·exact .inl (ze hb)
  ·by_cases hb:b=a
   ·have z':=(zo hb).symm.trans z
    cases z';subst hb;exact⟨ha,by rw[za];exact hl,vs,_,rv,ha⟩
   ·have z':=(ze hb).symm.trans z
    cases z'
  ·by_cases hb:b=a
   ·exact hb
   ·exact absurd (ze hb) z
end L2
namespace L2
open PySem PySem.Spec PyProof.Rows
def walk_of{l:PySem.W.OpenLaw}{n k:Nat}{q:Program}{ab:List Str}{XP:(Str->Option Value)->Heap->Prop}{YP:World->Heap->Prop}{d:DefRec}{K:Params->Fg_}{CX:World->CXT}{sp:World->Sp}{x:Str}
  (hn:l.most=some n) (ag:n<=sizeLine) (ad:d.params.defaults=[]) (hr:qW k callerA)
  (hY:∀(w:World)(h:Heap),YP w h->(K w.params).In h)
  (F:∀(w:World)(mg:Str->Option Value)(fa:Addr)(h:Heap),(K w.params).In h->h.Ns mainGlobals mg->mg d.name=some (.ref fa)->
   ∃fd:FuncData,(∀(s:Shared)(u:Value),BindsTo s fd ⟨[u],[]⟩ [(x,u)])/\
    ∀base:Heap,(K w.params).In base->base.Ns mainGlobals mg->jQ l.prog w (K w.params) mg base (CX w) k fa fd [x] (sp w))
  (ae:∀(w:World)(H:Hp)(a:Addr)(ns:List Int),ns.length<=n->Only H->SqL (K w.params) H a (ns.map V.int)->sp w [.ref a] H (λv _=>v=.bl true) λ_ _ _=>False)
  (af:∀(w:World)(H:Hp)(s:Shared)(e:Value)(s':Shared),CX w [] H s (λ_ _ _=>False) e s'->False):
  PySem.W.WalkO q ab XP YP l.row.toRowW d [] (λf vs=>PySem.call f vs):=by
 refine Att.attach_call hn ad λw s₀ s₁ mg mb fa o pm cd ai a vs ns G Y ho hd aj ah ac aa z hg=>?_;have KX:=hY w _ Y;obtain⟨fd,hb,hF⟩:=F w mg fa _ KX G.T.g ah;exact aaE KX G.T.g G.T.b G.T.builtins G.T.nolimit hg ac aa (zV z ag) hr hF hb (λH hO hS=>ae w H a ns z hO hS) λH e s'=>af w H s₁ e s'
end L2
namespace L2
open PySem PySem.Spec PyProof.Rows
noncomputable def inClass(s:Stmt)(j:Nat):Stmt:=match s with
 |.ClassDef _ _ _ body _ _ _ _ _ _ _=>body.getD j (.Pass ⟨0,0,0,0⟩)
 |_=> .Pass ⟨0,0,0,0⟩
noncomputable def nP(s:Stmt):Arguments:=match s with
 |.FunctionDef _ a _ _ _ _ _ _ _ _=>a
 |_=>{posonlyargs:=[],args:=[],vararg:=none,kwonlyargs:=[],kw_defaults:=[],kwarg:=none,defaults:=[]}
noncomputable def mz(s:Stmt):List Stmt:=match s with
 |.FunctionDef _ _ b _ _ _ _ _ _ _=>b
 |_=>[]
noncomputable def iK(s:Stmt):Scope:=match s with
 |.FunctionDef _ _ _ _ _ _ sc _ _ _=>sc
 |_=>{kind:=.function,names:=[],isGenerator:=false,isCoroutine:=false}
abbrev CX0:CXT:=λ_ _ _ _ _ _=>False
abbrev E0:XK:=λ_ _ _=>False
def jL{X:Cx}:Av CX0 X E0:=λ_ _ _ _ _ _ _ h=>h.elim
structure Fun(K:Fg_)(x qual:Str)(st:Stmt)(f:Addr)(fd:FuncData):Prop where
 ex:∃(oc:Value)(od:Option Addr)(kV doc pm:Value)(an:Option Addr)(cdv ct:Value)(osl:Array (Option Value)),
  fd=PySem.W.fnOf x qual (nP st) (mz st) (iK st) .none kV doc pm an cdv ct/\K.lookup f=some ⟨oc,od,.func fd,osl⟩/\PySem.W.codeIn K cdv qual=true
 kp:PySem.W.keepIn K (.ref f)=true
section
variable{P:Program}{w:World}{K:Fg_}{mg:Str->Option Value}{base:Heap}
def Fun.ok{x z:Str}{st:Stmt}{f:Addr}{fd:FuncData}{N ps:List Str}{k:Nat}{sp:Sp}(F:Fun K x z st f fd)(S:iT N ps (iK st))(len:∀vs H Q E,sp vs H Q E->vs.length=ps.length)
  (ab:∀(aa:Value)(A:Around)(outer:List Env)(s:Shared)(H:Hp)(vs:List V)(Q:VK)(E:XK),qW k (A.deeper (envOfC z (iK st) s.heap.objs.size f aa))->sp vs H Q E->
   ∃t,PSs (Zw CX0 P w K mg base N z (iK st) f aa A outer s H E).nox (mz st) t/\t {nx:=λ_ H'=>Q .non H',rt:=Q} (start N vs) H):jQ P w K mg base CX0 (k+1) f fd ps sp:=by
 obtain⟨oc,od,kV,ae,pm,an,aa,ct,af,rfl,lk,ac⟩:=F.ex;refine akk lk ac S len λA outer s H vs Q E hr ad=>?_;obtain⟨t,h,q⟩:=ab aa A outer s H vs Q E hr ad;exact⟨t,h.nox,q⟩
def Fun.binds{x q:Str}{st:Stmt}{f:Addr}{fd:FuncData}{ps:List Str}(F:Fun K x q st f fd)
  (h:∀(kV z pm:Value)(an:Option Addr)(aa ct:Value)(us:List Value),us.length=ps.length->bindArgs (PySem.W.fnOf x q (nP st) (mz st) (iK st) .none kV z pm an aa ct) ⟨us,[]⟩=pure (ps.zip us)):Binds K fd ps []:=by
 obtain⟨oc,od,kV,z,pm,an,aa,ct,ac,rfl,lk,ab⟩:=F.ex;exact .all (h kV z pm an aa ct)
def Ys{x q:Str}{st:Stmt}{f:Addr}{oc:Value}{od an:Option Addr}{ab:Array (Option Value)}{kV aa pm z ct:Value}(l:K.lookup f=some ⟨oc,od,.func (PySem.W.fnOf x q (nP st) (mz st) (iK st) .none kV aa pm an z ct),ab⟩)
  (c:PySem.W.codeIn K z q=true) (k:PySem.W.keepIn K (.ref f)=true):Fun K x q st f (PySem.W.fnOf x q (nP st) (mz st) (iK st) .none kV aa pm an z ct):=⟨⟨oc,od,kV,aa,pm,an,z,ct,ab,rfl,l,c⟩,k⟩
end
def uF{A:Around}{k:Nat}(q:qW k A):A.units+1<cLine:=yx (Nat.add_le_add_left (by decide:1<=64) _) q.units
def XX{n:Nat}(h:n<=1000):n<sizeLine:=yx h (by decide)
section
variable{X:Cx}
def pv(i:Nat){x:Str}{pos:Pos}(q:X.N[i]? =some x:=by rfl)(hv:Vis X.env.scope x:=by walk_at "o") (hd:(x==("__debug__" :Str))=false:=by decide)
  (hcd:(x==("__classdict__" :Str))=false:=by decide):PE X (.Name x pos) (Oo i):=akC q hv hd hcd
end
noncomputable def Same(H H':Hp):Prop:=∀b o,H b=some o->H' b=some o
def same_refl(H:Hp):Same H H:=λ_ _ h=>h
def Same.trans{H H1 H2:Hp}(a:Same H H1)(b:Same H1 H2):Same H H2:=λc o h=>b c o (a c o h)
def Same.free{H H':Hp}(e:Same H H'){l:Addr}(h:H' l=Option.none):H l=Option.none:=by
 cases q:H l with
 |none=>rfl
 |some o=>
  rw[e l o q]at h;cases h
def Same.seq{K:Fg_}{H H':Hp}{a:Addr}{xs:List V}(e:Same H H')(h:SqL K H a xs):SqL K H' a xs:=by
 rcases h with(h|⟨o,h⟩)|h
 ·exact .inl (.inl (e _ _ h))
 ·exact .inl (.inr ⟨o,e _ _ h⟩)
 ·exact .inr h
end L2
namespace L2
open PySem PySem.Spec PyProof.Rows
noncomputable def AllIn:List (Str×Addr)->List (Str×Addr)->Prop
 |[],_=>True
 |(x,c)::r,cells=>cells.lookup x=some c/\AllIn r cells
theorem AllIn.look{aa:List (Str×Addr)}:∀{cl:List (Str×Addr)},AllIn cl aa->∀{x:Str}{c:Addr},cl.lookup x=some c->aa.lookup x=some c
 |[],_,x,c,e=>by simp at e
 |(y,d)::r,h,x,c,e=>by
  rw[zz1]at e
  cases q:x==y with
  |true=>
   rw[q]at e;have z:d=c:=zw e;have z2:x=y:=beq_iff_eq.mp q;subst z z2;exact h.1
  |false=>
   rw[q]at e;exact AllIn.look h.2 e
noncomputable def GK(cells:List (Str×Addr)):List (Str×NameKind)->List (Str×Addr)->List (Str×Addr)
 |[],cs=>cs
 |(n,k)::r,cs=>GK cells r (match k with
  |.free=>match cells.lookup n with
   |some c=>(n,c)::cs
   |Option.none=>cs
  |_=>cs)
abbrev Fb(scope:Scope)(env:Env):List (Str×Addr):=GK env.cells scope.names []
theorem JC(z:List (Str×Addr)):∀(names:List (Str×NameKind))(cs:List (Str×Addr)),AllIn cs z->AllIn (GK z names cs) z
 |[],_,h=>h
 |(n,k)::r,cs,h=>by
  unfold GK;refine JC z r _ ?_
  cases k with
  |free=>
   cases q:z.lookup n with
   |none=>exact h
   |some c=>exact⟨q,h⟩
  |_=>exact h
def tO(scope:Scope)(env:Env):AllIn (Fb scope env) env.cells:=JC _ _ _ trivial
noncomputable def CapOk(X:Cx)(sc:Scope)(cl:List (Str×Addr)):List Str->List (Option Nat)->Prop
 |[],[]=>True
 |_::N,Option.none::r=>CapOk X sc cl N r
 |x::N,some j::r=>X.N[j]? =some x/\(X.env.kindOf x=some .cell\/X.env.kindOf x=some .free)/\(sc.names.lookup x=some .cell\/sc.names.lookup x=some .free)/\(∃c,cl.lookup x=some c)/\CapOk X sc cl N r
 |_,_=>False
noncomputable def pD(σ:St)(cap:List (Option Nat)):St:=cap.map λo=>match o with
 |Option.none=>Option.none
 |some j=>match σ[j]? with
  |some v=>v
  |Option.none=>Option.none
def CapOk.nil{X:Cx}{q:Scope}{cl:List (Str×Addr)}:CapOk X q cl [] []:=trivial
def CapOk.own{X:Cx}{q:Scope}{cl:List (Str×Addr)}{x:Str}{N:List Str}{r:List (Option Nat)}(h:CapOk X q cl N r):CapOk X q cl (x::N) (Option.none::r):=h
def CapOk.take{X:Cx}{q:Scope}{cl:List (Str×Addr)}{x:Str}{N:List Str}{j:Nat}{r:List (Option Nat)}(h1:X.N[j]? =some x)(h2:X.env.kindOf x=some .cell\/X.env.kindOf x=some .free)
  (z:q.names.lookup x=some .cell\/q.names.lookup x=some .free) (h4:(cl.lookup x).isSome=true) (h:CapOk X q cl N r):CapOk X q cl (x::N) (some j::r):=⟨h1,h2,z,yK.mp h4,h⟩
theorem CapOk.len{X:Cx}{q:Scope}{cl:List (Str×Addr)}:∀{N:List Str}{cap:List (Option Nat)},CapOk X q cl N cap->cap.length=N.length
 |[],[],_=>rfl
 |_::N,Option.none::r,h=>congrArg (·+1) (CapOk.len (N:=N) (cap:=r) h)
 |_::N,some _::r,h=>congrArg (·+1) (CapOk.len (N:=N) (cap:=r) h.2.2.2.2)
 |[],_::_,h=>h.elim
 |_::_,[],h=>h.elim
theorem CapOk.get{X:Cx}{sc:Scope}{cl:List (Str×Addr)}{σ:St}:∀{N:List Str}{cap:List (Option Nat)}{i:Nat}{x:Str}{v:V},CapOk X sc cl N cap->N[i]? =some x->(pD σ cap)[i]? =some (some v)->
  ∃j:Nat,X.N[j]? =some x/\σ[j]? =some (some v)/\(X.env.kindOf x=some .cell\/X.env.kindOf x=some .free)/\(sc.names.lookup x=some .cell\/sc.names.lookup x=some .free)/\∃c,cl.lookup x=some c
 |[],[],i,x,v,_,e,_=>by simp at e
 |y::N,Option.none::r,0,x,v,h,e1,e2=>by
  have z:(some (Option.none:Option V))=some (some v):=e2;cases z
 |y::N,Option.none::r,i+1,x,v,h,e1,e2=>CapOk.get (N:=N) (cap:=r) (i:=i) h (by simpa using e1) (by simpa [pD] using e2)
 |y::N,some j::r,0,x,v,h,e1,e2=>by
  have z:y=x:=by simpa using e1
  subst z;obtain⟨h1,h2,h3,h4,_⟩:=h;refine⟨j,h1,?_,h2,h3,h4⟩;have z2:some (match σ[j]? with|some v=>v|Option.none=>Option.none)=some (some v):=e2
  cases q:σ[j]? with
  |none=>rw[q]at z2;cases z2
  |some o=>rw[q]at z2;exact z2
 |y::N,some j::r,i+1,x,v,h,e1,e2=>CapOk.get (N:=N) (cap:=r) (i:=i) h.2.2.2.2 (by simpa using e1) (by simpa [pD] using e2)
 |[],_::_,_,_,_,h,_,_=>h.elim
 |_::_,[],_,_,_,h,_,_=>h.elim
noncomputable def cxC(X:Cx)(N':List Str)(scope:Scope)(s:Shared)(H:Hp)(fp:List Addr)(xe:Value->Shared->Prop):Cx:=
 {X with N:=N',s₀:=s,H₀:=H,env:=compEnvC scope (Fb scope X.env) s.heap.objs.size X.env,outer:=X.stack,ex:=fp,fn:=λ_=>false,pn:=[],xe:=xe}
noncomputable def PTs(X:Cx)(ifs:List Expr)(t:TT):Prop:=
 ∀(pins:List (Addr×Obj)) (s:Shared) (σ:St) (H:Hp) (Q:Bool->Hp->Prop),Inv X pins σ H s->t σ H Q->
  wpAny (model X.prog X.w) X.A (forIn ifs true λc r=>if r=true then do let ok<-isTrue c X.env (eval c X.env);pure (ForInStep.yield ok)else pure (ForInStep.yield r)) (TP X pins σ Q) X.xe s
noncomputable def Kr:TT:=λ_ H Q=>Q true H
def jP{X:Cx}:PTs X [] Kr:=λ_ _ _ H _ I h=>wpAny_tests_nil ⟨H,I,h⟩
def BL{X:Cx}{c:Expr}{t:TT}(h:PT X c t):PTs X [c] t:=λpins s σ H Q I q=>wpAny_tests_one (h pins s σ H Q I q)
noncomputable def aiI(cap:List (Option Nat))(wi:TI)(g:TG)(tt:TT)(te:TE):TE:=λσ H Q=>wi σ H λJ H1=>∀D,H1 D=Option.none->
 ∃W:Nat->Nat->List V->St->Hp->Prop,(∃m,W 0 m [] (pD σ cap) (upd H1 D (.lst [])))/\∀i m acc σ1 H2,W i m acc σ1 H2->H2 D=some (.lst acc)->
  (J.stop i H2/\Q (.ref D) H2)\/(J.go i H2/\∀x H3,J.yld i H2 x H3->g x σ1 H3 λσ4 H4=>tt σ4 H4 λb H5=>
   if b=true then te σ4 H5 λv H6=>∃acc',H6 D=some (.lst acc')/\acc'.length<sizeLine/\∃m',m'<m/\W (i+1) m' (acc'++[v]) σ4 (upd H6 D (.lst (acc'++[v])))
   else∃m',m'<m/\∃acc',H5 D=some (.lst acc')/\W (i+1) m' acc' σ4 H5)
section
variable{X:Cx}{elt tg iter:Expr}{ifs:List Expr}{scope:Scope}{pos:Pos}{cap:List (Option Nat)}{N':List Str}{wi:TI}{g:TG}{tt:TT}{te:TE}
structure Xf(X:Cx)(iter:Expr)(scope:Scope)(N':List Str)(cap:List (Option Nat)):Prop where
 clos:closureFor scope X.env=pure (Fb scope X.env)
 cap:CapOk X (relabel scope X.env) (Fb scope X.env) N' cap
 kind:scope.kind=.function
 nocell:∀y∈scope.names,y.2≠.cell
 names:∀y∈scope.names,y.2=.local->scope.names.lookup y.1=some .local
 has:(scope.names.all λy=>y.2 !=.free||((Fb scope X.env).lookup y.1).isSome)=true
 fold:∀x,foldedSetIterable iter X.env x=pure x
theorem XH{f:Str×NameKind->Str×NameKind}(h1:∀y,(f y).1=y.1)(h2:∀y,y.2≠NameKind.cell->((f y).2=NameKind.cell\/(f y).2=NameKind.free)->y.2=NameKind.free){cl:List (Str×Addr)}:
  ∀{names:List (Str×NameKind)}{x:Str},(∀y∈names,y.2≠NameKind.cell)->(names.all λy=>y.2 !=NameKind.free||(cl.lookup y.1).isSome)=true->((names.map f).lookup x=some NameKind.cell\/(names.map f).lookup x=some NameKind.free)->∃c,cl.lookup x=some c
 |[],x,_,_,h=>by rcases h with h|h<;>simp at h
 |y::r,x,hc,ha,h=>by
  rw[List.all_cons,zzA]at ha;rw[zl]at h;have e0:f y=(y.1,(f y).2):=by rw[<-h1 y]
  rw[e0,zz1]at h
  cases q:x==y.1 with
  |true=>
   rw[q]at h;have e:x=y.1:=beq_iff_eq.mp q
   have hf:y.2=NameKind.free:=h2 y (hc y zj) (by
    rcases h with h|h
    ·exact .inl (zw h)
    ·exact .inr (zw h))
   have h3:(cl.lookup y.1).isSome=true:=by
    have:=ha.1;rw[hf]at this
    simpa using this
   rw[e];exact yK.mp h3
  |false=>
   rw[q]at h;exact XH h1 h2 (λz hz=>hc z (zp _ hz)) ha.2 h
def ajS{env:Env}{scope:Scope}{cl:List (Str×Addr)}{x:Str}(hc:∀y∈scope.names,y.2≠NameKind.cell)(ha:(scope.names.all λy=>y.2 !=NameKind.free||(cl.lookup y.1).isSome)=true)
  (h:(relabel scope env).names.lookup x=some NameKind.cell\/(relabel scope env).names.lookup x=some NameKind.free):∃c,cl.lookup x=some c:=by
 refine XH (f:=fun(n,k)=>if(k==NameKind.free && env.scope.kind==.function && env.kindOf n==some .cell)then(n,NameKind.cell)else(n,k)) (λy=>?_) (λy hy q=>?_) hc ha h
 ·obtain⟨n,k⟩:=y
  dsimp only;split<;>rfl
 ·obtain⟨n,k⟩:=y
  dsimp only at q⊢hy;by_cases z:(k==NameKind.free && env.scope.kind==.function && env.kindOf n==some .cell)=true
  ·simp only[zzA]at z
   exact beq_iff_eq.mp z.1.1
  ·rw[ze z]at q
   rcases q with q|q
   ·exact absurd q hy
   ·exact q
def QJ{P:Program}{w:World}{A:Around}{R:Result->Shared->Prop}{s:Shared}{it acc:Value}{env:Env}(I:Nat->Shared->Prop)
  (q:∀n s,I n s->wpAny (model P w) A (pyNext it) (λr s₁=>match r with
   |none=>R (.ok .next) s₁
   | some v=>wpAny (model P w) A (letOwnedTupleGo tg it v) (λ_ z=>wpAny (model P w) A (assign tg env v) (λ_ s₂=>
     wpAny (model P w) A (forIn ifs true λc r=>if r=true then do let ok<-isTrue c env (eval c env);pure (ForInStep.yield ok)else pure (ForInStep.yield r)) (λok s₃=>
      if ok=true then wpAny (model P w) A (eval elt env) (λx s₄=>
       wpAny (model P w) A (call (.builtin "list.append") [acc,x]) (λ_ s₅=>∃m,m<n/\I m s₅) (notedBy (model P w) A env λe s'=>R (.error e) s') s₄) (notedBy (model P w) A env λe s'=>R (.error e) s') s₃
      else∃m,m<n/\I m s₃) (notedBy (model P w) A env λe s'=>R (.error e) s') s₂) (notedBy (model P w) A env λe s'=>R (.error e) s') z) (notedBy (model P w) A env λe s'=>R (.error e) s') s₁)
    (notedBy (model P w) A env λe s'=>R (.error e) s') s)
  (n:Nat) (h:I n s):
  codeAny (model P w) A (.compLoop (.ListComp elt [⟨tg,iter,ifs,0⟩] scope pos) 0 it acc env) R s:=by
 refine codeAny_loop rfl I (λn s hI=>?_) n h;show wpAny _ A ((compTurn (.ListComp elt [⟨tg,iter,ifs,0⟩] scope pos) 0 it acc env).onRaise (λx=>do noteFrame x env;theTreesLotGoes x)) _ _ s;refine wpAny_noted ?_;rw[compTurn_list];refine zc (zzY (zc (yc (q n s hI) (λr s₁ h₁=>?_) λ_ _ h'=>h')))
 cases r with
 |none=>exact zy h₁
 |some v=>
  refine zc (yc h₁ (λ_ z h₁=>?_) λ_ _ h'=>h');refine zc (yc h₁ (λ_ s₂ h₂=>zc (yc h₂ (λok s₃ h₃=>?_) λ_ _ h'=>h')) λ_ _ h'=>h')
  cases ok with
  |false=>exact zy ⟨rfl,h₃⟩
  |true=>
   exact zc (zc (yc h₃ (λx s₄ h₄=>zc (yc h₄ (λ_ s₅ h₅=>zy (zy ⟨rfl,h₅⟩)) λ_ _ h'=>h')) λ_ _ h'=>h'))
def Pn{pins:List (Addr×Obj)}{σ:St}{H2:Hp}{s2:Shared}{Q:VK}{it:Addr}{fp:List Addr}{tn:Nat->Heap->Prop}{J:It}{R:Value->Addr->Result->Shared->Prop}{E:Value->Shared->Prop}
  (hc:X.calm=true) (C:Xf X iter scope N' cap)
  (hg:∀s H fp xe,PG (cxC X N' scope s H fp xe) tg g) (ht:∀s H fp xe,PTs (cxC X N' scope s H fp xe) ifs tt) (he:∀s H fp xe,PE (cxC X N' scope s H fp xe) elt te)
  (I2:Inv X pins σ H2 s2) (T:Turn X.prog X.w X.K tg J fp it tn) (ag:tn 0 s2.heap) (f2:∀b∈fp,QW X pins H2 b)
  (hR:∀D Cl H' s',Inv X pins σ H' s'->(∃m,s'.heap.Ns Cl m)->H' Cl=Option.none->Cl≠X.env.locals->X.s₀.heap.objs.size<=Cl->(∀x c,X.env.cells.lookup x=some c->c≠Cl)->(∀p∈X.pn++pins,p.1≠Cl)->Q (.ref D) H'->R (.ref D) Cl (.ok .next) s')
  (hw:∀D,H2 D=Option.none->∃W:Nat->Nat->List V->St->Hp->Prop,(∃m,W 0 m [] (pD σ cap) (upd H2 D (.lst [])))/\∀i m acc σ1 H2,W i m acc σ1 H2->H2 D=some (.lst acc)->
   (J.stop i H2/\Q (.ref D) H2)\/(J.go i H2/\∀x H3,J.yld i H2 x H3->g x σ1 H3 λσ4 H4=>tt σ4 H4 λb H5=>
    if b=true then te σ4 H5 λv H6=>∃aa,H6 D=some (.lst aa)/\aa.length<sizeLine/\∃m',m'<m/\W (i+1) m' (aa++[v]) σ4 (upd H6 D (.lst (aa++[v])))
    else∃m',m'<m/\∃aa,H5 D=some (.lst aa)/\W (i+1) m' aa σ4 H5)):
  wpAny (model X.prog X.w) X.A (newList []) (λacc s₃=>wpAny (model X.prog X.w) X.A (newFunctionEnv scope X.env.globals (Fb scope X.env) [] X.env.qual none .none (some X.env)) (λal s₄=>
   codeAny (model X.prog X.w) X.A (.compStart (.ListComp elt [⟨tg,iter,ifs,0⟩] scope pos) 0 (.ref it) acc {al with scope:=relabel scope X.env}) (R acc al.locals) s₄) E s₃) E s2:=by
 refine y0 (wpAny_newFunctionEnv C.nocell (by intro y hy;simp at hy) (λh₁ aj ah=>?_) C.kind);obtain⟨W,⟨m0,w0⟩,ak⟩:=hw s2.heap.objs.size I2.fresh;have I3:Inv X pins σ (upd H2 s2.heap.objs.size (.lst [])) {s2 with heap:=s2.heap.push {cls:=.type "list",data:=.seq ([]:List Value).toArray}}:=I2.lnew (t':=s2.toks) .nil (zJ _);generalize an:({s2 with heap:=s2.heap.push {cls:=.type "list",data:=.seq ([]:List Value).toArray}}:Shared)=s3 at I3 aj ah⊢;generalize hD:s2.heap.objs.size=D at I3 w0 ak⊢;have bh:H2 D=Option.none:=by rw[<-hD];exact I2.fresh
 have aq:s3.os=s2.os:=by rw[<-an]
 have aw:Un (frs X.stack) fp H2 (upd H2 D (.lst [])) s2.heap s3.heap:=by
  rw[<-an,<-hD];exact Un.laid (λb u q=>zb _ q) (zg _) I2.fresh
 have ab:∀b o,s3.heap.get? b=some o->h₁.get? b=some o:=λb o e=>(ah.2 b (zD (zr e))).trans (zb _ e);have af:∀b o,s2.heap.get? b=some o->s3.heap.get? b=some o:=λb o e=>by rw[<-an];exact zb _ e
 have hR':∀(r:Result)(s':Shared),R (.ref D) s3.heap.objs.size r s'->R (.ref D) s3.heap.objs.size r s':=λ_ _ h=>h
 have f3:∀b∈fp,QW X pins (upd H2 D (.lst [])) b:=λb hb=>by
  obtain⟨q0,q1⟩:=f2 b hb;refine⟨?_,q1⟩;obtain⟨o,e,_⟩:=T.obj _ _ ag b hb;rw[iU (by rw[<-hD];exact zD (zr e))];exact q0
 let XC:Cx:=cxC X N' scope s3 (upd H2 D (.lst [])) fp (notedBy (model X.prog X.w) X.A (compEnvC scope (Fb scope X.env) s3.heap.objs.size X.env) λe s'=>R (.ref D) s3.heap.objs.size (.error e) s')
 have ok:XC.Ok:=by
  refine⟨I3.ok.mod,C.kind,I3.ok.glob,I3.ok.blt,zg _,λx y c e1 e2=>I3.ok.inj x y c ((tO scope X.env).look e1) ((tO scope X.env).look e2),λx hx=>ajS C.nocell C.has hx,λx c hf=>(nomatch hf),λ_=>I3.ok.hd hc,I3.ok.frames,.inl rfl,λb hb=>?_,I3.bs,zV I3.ok.bsz I3.sz,λb o e hb=>?_,λb hb hf=>?_,I3.stack,I3.stkFree⟩
  ·obtain⟨q0,q1,q2,q3,q4,q5⟩:=f3 b hb
   refine⟨?_,λx c e=>q4 x c ((tO scope X.env).look e)⟩;obtain⟨o,e,_⟩:=T.obj _ _ ag b hb;exact zD (zr (af _ _ e))
  ·obtain⟨q0,q1,q2,q3,q4,q5⟩:=f3 b hb
   rcases q3 with q3|q3
   ·exact I3.ok.noex b o e q3
   ·exact absurd (zG (zr e) (zV I3.ok.bsz q3)) (ya _)
  ·obtain⟨q0,q1,q2,q3,q4,q5⟩:=f3 b hb
   rcases zu.mp (I3.stkSub b hf)with z|z
   ·exact q1 z
   ·exact q2 z
 have I4:Inv XC [] (pD σ cap) (upd H2 D (.lst [])) {s3 with heap:=h₁,toks:=s3.toks+([]:List (Str×Value)).length}:=by
  refine⟨ok,rfl,I3.bare,Un.kept ab,⟨_,aj,λi x v e1 e2 e3=>?_⟩,λx c e=>?_,I3.hok.fresh (zg _),λx c e=>I3.freeC x c ((tO scope X.env).look e),λp hp=>absurd (show p∈([]:List (Addr×Obj))from hp) (by simp),I3.hok.kept ab,by rw[show(pD σ cap).length=cap.length from by simp[pD]];exact C.cap.len⟩
  ·obtain⟨j,g1,g2,g3,g4,c,g5⟩:=C.cap.get e1 e2
   obtain⟨m,_,hl⟩:=I3.loc
   obtain ⟨u,r,l⟩:=hl j x v g1 g2 (by
    rcases g3 with z|z
    ·exact .inr (.inl z)
    ·exact .inr (.inr z))
   refine⟨u,r,.inr ⟨g4,c,g5,?_⟩⟩;rcases l with⟨k,_⟩|⟨_,c',e,z⟩
   ·rcases g3 with q|q
    ·rw[k]at q;cases q
    ·rw[k]at q;cases q
   ·have e':=(tO scope X.env).look g5
    rw[e]at e';cases e';obtain⟨o,ho,hd⟩:=z;exact⟨o,ab _ _ ho,hd⟩
  ·obtain⟨v,o,ho,hd⟩:=I3.cell x c ((tO scope X.env).look e)
   exact⟨v,o,ab _ _ ho,hd⟩
 have av:tn 0 h₁:=T.keep _ _ _ ag λb _ o e=>ab b o (af b o e)
 have ao:∀{ac:List (Addr×Obj)}{H':Hp},(∀b∈fp,H' b=Option.none)->(∀p∈ac,p.1∉fp)->∀b∈fp,QW XC ac H' b:=fun{ac H'} hn hp b hb=>by
  obtain⟨q1,q2⟩:=ok.exf b hb;exact⟨hn b hb,q1,ok.exfs b hb,.inl hb,q2,λp ax z=>hp p (by simpa [XC,cxC] using ax) (by rw[z];exact hb)⟩
 have bg:D∉fp:=λhb=>by
  obtain⟨o,e,_⟩:=T.obj _ _ ag D hb;rw[<-hD]at e;exact absurd (zr e) (ya _)
 have out:∀{σ':St}{H':Hp}{s':Shared},Inv XC [] σ' H' s'->Inv X pins σ H' s':=fun{σ' H' s'} J'=>
  I2.call' (ch:=fp) (J'.os.trans aq) (aw.trans J'.base) J'.hok J'.bare λb hb=>by
   obtain⟨q0,q1,q2,q3,q4,q5⟩:=f2 b hb;exact⟨q3,q1,q4,q5⟩
 have ai:∀s₄:Shared,s₄={s3 with heap:=h₁,toks:=s3.toks+([]:List (Str×Value)).length}->
   codeAny (model X.prog X.w) X.A (.compLoop (.ListComp elt [⟨tg,iter,ifs,0⟩] scope pos) 0 (.ref it) (.ref D) (compEnvC scope (Fb scope X.env) s3.heap.objs.size X.env)) (R (.ref D) s3.heap.objs.size) s₄:=by
  rintro s₄ rfl
  refine QJ (λn s'=>∃i acc σ' H',Inv XC [] σ' H' s'/\tn i s'.heap/\(∀b∈fp,H' b=Option.none)/\H' D=some (.lst acc)/\W i n acc σ' H') ?_ m0
   ⟨0,[],pD σ cap,upd H2 D (.lst []),I4,av,λb hb=>(f3 b hb).1,iH,w0⟩
  rintro n s5 ⟨i,acc,σ5,H5,I5,as,ap,hA,w5⟩;rcases ak i n acc σ5 H5 w5 hA with⟨stop,q⟩|⟨go,ar⟩
  ·refine thn (T.done XC rfl rfl rfl hc i [] s5 σ5 H5 _ I5 (ao ap (by simp)) as stop) λr s6 ⟨hr,I6⟩=>?_
   subst hr;obtain⟨m,hn,_⟩:=I6.loc
   exact hR D s3.heap.objs.size H5 s6 (out I6) ⟨m,hn⟩ I6.free (yC I3.lt) I3.sz (λx c e z=>by
    obtain⟨v,o,ho,_⟩:=I3.cell x c e;rw[z]at ho;exact absurd (zr ho) (ya _)) (λp hp z=>by
    have e:=(I3.pin p hp).1;rw[z]at e;exact absurd (zr e) (ya _)) q
  ·refine thn (T.item XC rfl rfl rfl hc i [] s5 σ5 H5 _ I5 (ao ap (by simp)) as go) λr s6 ⟨u,hr,h6⟩=>?_
   subst hr;refine thn h6 λ_ s7 ⟨x,H7,I7,r7,y7,am,bc⟩=>?_;have I7':=I7.pinned (ao bc (by simp)) (T.obj _ _ am)
   have ad:∀{σ8:St}{H8:Hp}{s8:Shared},Inv XC ([]++PN fp s7.heap) σ8 H8 s8->(∃aa,H8 D=some (.lst aa)/\∃m',m'<n/\W (i+1) m' aa σ8 H8)->
     ∃m,m<n/\∃i acc σ' H',Inv XC [] σ' H' s8/\tn i s8.heap/\(∀b∈fp,H' b=Option.none)/\H' D=some (.lst acc)/\W i m acc σ' H':=fun{σ8 H8 s8} I8⟨aa,ae,m',hm,w8⟩=>by
    refine⟨m',hm,i+1,aa,σ8,H8,I8.unpinned,T.keep _ _ _ am λb hb o e=>(I8.pin (b,o) (zF _ (zF _ (xX hb e)))).1,λb hb=>?_,ae,w8⟩;obtain⟨o,e,d⟩:=T.obj _ _ am b hb;exact(I8.pin (b,o) (zF _ (zF _ (xX hb e)))).2.1
   refine thn (hg s3 _ fp _ _ s7 σ5 H7 x u _ I7' r7 (ar x H7 y7)) λ_ s8 ⟨σ8,H8,I8,q8⟩=>?_;refine thn (ht s3 _ fp _ _ s8 σ8 H8 _ I8 q8) λb s9 ⟨H9,I9,q9⟩=>?_
   cases b with
   |false=>
    rw[ze zM]at q9⊢;obtain⟨m',hm,aa,ae,w9⟩:=q9;exact ad I9 ⟨aa,ae,m',hm,w9⟩
   |true=>
    rw[zo rfl]at q9⊢;refine thn (he s3 _ fp _ _ s9 σ8 H9 _ I9 q9) λv bd ⟨y,au,bb,ay,aa,ae,hz,m',hm,az⟩=>?_;refine thn (mD (X:=XC) _ bd σ8 au (.ref D) [y] (.ref D) [v] (λ_ Hz=>Hz=upd au D (.lst (aa++[y]))) bb rfl (.cons ay .nil) ⟨D,aa,y,rfl,rfl,ae,hz,rfl⟩) λ_ bi ⟨_,bf,be,_,ba⟩=>?_;subst ba;exact ad be ⟨aa++[y],iH,m',hm,az⟩
 exact codeAny_compStart_list (ai _ rfl) (T.self _ 0 _ _ _ av (ai _ rfl))
def jO(hc:X.calm=true)(C:Xf X iter scope N' cap)(hi:PI X tg iter wi)
  (hg:∀s H fp xe,PG (cxC X N' scope s H fp xe) tg g) (ht:∀s H fp xe,PTs (cxC X N' scope s H fp xe) ifs tt) (he:∀s H fp xe,PE (cxC X N' scope s H fp xe) elt te):
  PE X (.ListComp elt [⟨tg,iter,ifs,0⟩] scope pos) (aiI cap wi g tt te):=by
 intro pins s σ H Q I h;rw[eval_ListComp];refine wpAny_comprehension_free (use:=none) rfl C.fold C.clos C.kind C.names (thn (hi pins s σ H _ I h) λv s1 h1=>thn h1 λab s2 h2=>?_);obtain⟨it,fp,tn,J,H2,e,I2,T,aa,f2,hw⟩:=h2;subst e;refine Pn (R:=λacc Cl=>compPost (model X.prog X.w) X.A X.xe none (EP X pins σ Q) acc Cl) hc C hg ht he I2 T aa f2 ?_ hw;intro D Cl H' s' I' ⟨m,hn⟩ hf h1 h2 h3 h4 q;exact⟨m,hn,λh' z=>⟨.ref D,H',I'.turned (t':=s'.toks) (λb o hb e=>(z.2 b hb).trans e) hf h1 (.inr h2) h3 h4,rfl,q⟩⟩
def oO{i:Nat}{y:Str}{py aa:Pos}(hN:X.N.Nodup)(ab:X.N[i]? =some y)(hy:X.env.scope.names.lookup y=some .local)
  (hc:X.calm=true) (C:Xf X iter scope N' cap) (hi:PI X tg iter wi)
  (hg:∀s H fp xe,PG (cxC X N' scope s H fp xe) tg g) (ht:∀s H fp xe,PTs (cxC X N' scope s H fp xe) ifs tt) (he:∀s H fp xe,PE (cxC X N' scope s H fp xe) elt te)
  (ae:swapsWith (.ListComp elt [⟨tg,iter,ifs,0⟩] scope pos) (some (.Name y py)) aa.line X.env=pure true:=by rfl):
  PS X (.Assign [.Name y py] (.ListComp elt [⟨tg,iter,ifs,0⟩] scope pos) aa) (alo (aiI cap wi g tt te) (Vv i)):=by
 intro pins s σ H D I h;rw[exec_Assign_Name_used _ _ _ _ ae];refine zc (zzY (zc ?_));show wpAny _ X.A (do let _<-comprehension (.ListComp elt [⟨tg,iter,ifs,0⟩] scope pos) scope X.env _ (newList []) false (eval iter X.env) (some (assign (.Name y py) X.env))) _ _ s
 refine zc (yc (wpAny_comprehension_free (use:=some (assign (.Name y py) X.env)) (Q:=λ_ s'=>SP X pins D .next s') rfl C.fold C.clos C.kind C.names (thn (hi pins s σ H _ I h) λv s1 h1=>thn h1 λai s2 h2=>?_))
  (λ_ s' hq=>zy (zy hq)) λ_ _ e=>e)
 obtain⟨it,fp,tn,J,H2,e,I2,T,ag,f2,hw⟩:=h2;subst e;refine Pn (Q:=λx H1=>Vv i x σ H1 D.nx) (R:=λacc Cl=>compPost (model X.prog X.w) X.A X.xe (some (assign (.Name y py) X.env)) (λ_ s'=>SP X pins D .next s') acc Cl) hc C hg ht he I2 T ag f2 ?_ hw;intro Da Cl H' s' I' ⟨m,hn⟩ hf h1 h2 h3 h4 q;show wpAny _ _ (assign (.Name y py) X.env (.ref Da)) _ _ s';refine wpAny_assign_Name (Qe I' hN ab (.inl hy) (v:=.ref Da) rfl (λaf I'' ⟨a,ac,ha⟩=>?_) (.inr hy))
 have ah:Cl≠a:=by
  rcases ha with z|z
  ·rw[z];exact h1
  ·exact Ne.symm (h3 y a z)
 exact⟨m,hn.sameBut ac ah,λh' ad=>⟨_,H',I''.turned (t':=af.toks) (λb o hb e=>(ad.2 b hb).trans e) hf h1 (.inr h2) h3 h4,q⟩⟩
end
end L2
namespace L2
open PySem PySem.Spec PyProof.Rows
section
variable{X:Cx}{a b c:Expr}{ta tb tc:TE}{pos:Pos}
noncomputable def ajA(i j:Int):Prop:=i.natAbs<2^2000/\j.natAbs<2^2000
def ajA.ok{i j:Int}(h:ajA i j):IntMulOk i j:=
 IntMulOk.of_bits (zV (intBits_le h.1) (by decide)) (zV (intBits_le h.2) (by decide))
noncomputable def Qa(_ j:Int):Prop:=0<j/\j.natAbs<2^2000
def rK:OpR X (binaryOp .FloorDiv) (rI Qa λi j=> .int (i/j)):=opI λi j _ _ _ _ _ z q=>by
 have h1:(0:Int)<j:=z.1;have h0:j.natAbs≠0:=by omega
 have h2:j.natAbs.log2<2000:=(Nat.log2_lt h0).mpr z.2;exact floordiv_int (by omega) (by rw[Int.fdiv_eq_ediv_of_nonneg i (by omega)];exact q) (.inl (PyProof.noPylong_of_log2 (by omega)))
def Xe(hc:X.calm=true):nT X (.builtin "sum") (λxs H Q=>∃(a:Addr)(ns:List Int),xs=[.ref a]/\SqL X.K H a (ns.map V.int)/\Q (.int ns.sum) H):=by
 intro pins s σ H xs us Q I r h;obtain⟨a,ns,rfl,hq,q⟩:=h;obtain⟨u,rfl,r1⟩:=vals1 r;cases r1;obtain⟨its,rv,pl,hz⟩:=I.list hq;have hi:IntsAre its ns:=intsAre_of rv;obtain⟨xs,e⟩:=hi.allInts.items;have z:=pl.isList;rw[e]at z;refine sum_intListG (I.ok.hd hc) z λh' tk t' hk=>?_;have e1:its=(intItems xs).toList:=by rw[<-e]
 have e2:xs.toList.map (·.1)=ns:=by rw[<-nums_intItems,<-e1,hi.numsOf]
 have es:preSum (numAt xs) xs.size=ns.sum:=by rw[preSum_eq,zT (by simp),e2]
 rw[es];exact⟨.int ns.sum,H,I.kept hk,⟨_,rfl⟩,q⟩
def Ls{pins:List (Addr×Obj)}{σ:St}{H:Hp}{s:Shared}{l:Addr}{bs:List Bool}(I:Inv X pins σ H s)(hq:SqL X.K H l (bs.map V.bl)):
  ∃its:List Value,its.length=bs.length/\s.heap.IsList l its.toArray/\l≠s.heap.objs.size/\∀(i:Nat)(v:Value),its.toArray[i]? =some v->v=.bool (bs.getD i false):=by
 obtain⟨its,q,pl,hz⟩:=I.list hq;refine⟨its,by rw[<-q.length,za],pl.isList,?_,λi v e=>?_⟩
 ·obtain⟨o,n,e,_⟩:=pl
  exact zD (zr e)
 ·have e':its[i]? =some v:=by simpa using e
  have hi:i<its.length:=(zk.mp e').1;have hb:i<bs.length:=by have:=q.length;rw[za]at this;omega
  obtain⟨u,z,ru⟩:=q.get (i:=i) (x:=.bl bs[i]) (by simp[hb]);rw[e']at z;cases z;have:v=Value.bool bs[i]:=ru;rw[this];simp[List.getD,hb]
def range_any(bs:List Bool):(List.range bs.length).any (λi=>bs.getD i false)=bs.any id:=by
 rw[yQ];simp only[yz,yq,id];constructor
 ·rintro⟨i,hi,e⟩
  refine⟨bs[i],yD hi,?_⟩
  simpa [List.getD,hi] using e
 ·rintro⟨x,q,e⟩
  obtain⟨i,hi,rfl⟩:=List.mem_iff_getElem.mp q;exact⟨i,hi,by simpa [List.getD,hi] using e⟩
def range_all(bs:List Bool):(List.range bs.length).all (λi=>bs.getD i false)=bs.all id:=by
 rw[yQ];simp only[List.all_eq_true,yq,id];constructor
 ·intro h x q
  obtain⟨i,hi,rfl⟩:=List.mem_iff_getElem.mp q
  simpa [List.getD,hi] using h i hi
 ·intro h i hi
  have:=h bs[i] (yD hi)
  simpa [List.getD,hi] using this
def YQ(hc:X.calm=true):nT X (.builtin "any") (λxs H Q=>∃(a:Addr)(bs:List Bool),xs=[.ref a]/\SqL X.K H a (bs.map V.bl)/\Q (.bl (bs.any id)) H):=by
 intro pins s σ H xs us Q I r h;obtain⟨a,bs,rfl,hq,q⟩:=h;obtain⟨u,rfl,r1⟩:=vals1 r;cases r1;obtain⟨its,aa,hl,ab,ac⟩:=Ls I hq;refine call_any_walk (yJ hl ?_);refine⟨s.heap.objs.size,_,_,_,_,_,λi=>bs.getD i false,rfl,Walks.list (A:=X.A.in1) (I.ok.hd hc) s.heap.objs.size a ab its.toArray,⟨⟨_,zB _ rfl,rfl,rfl⟩,hl.at λo e=>zb _ e⟩,λi v s' Q' E' e hQ=>?_,λh' tk hk=>?_⟩
 ·rw[ac i v e]
  exact yr hQ
 ·have e:(List.range its.toArray.size).any (λi=>bs.getD i false)=bs.any id:=by rw[zf,aa];exact range_any bs
  rw[e];refine⟨.bl (bs.any id),H,I.kept λb o e=>hk b o ?_ (zb _ e),rfl,q⟩;intro z;have z':b=s.heap.objs.size:=by simpa using z
  rw[z']at e;exact absurd (zr e) (ya _)
def Zb(hc:X.calm=true):nT X (.builtin "all") (λxs H Q=>∃(a:Addr)(bs:List Bool),xs=[.ref a]/\SqL X.K H a (bs.map V.bl)/\Q (.bl (bs.all id)) H):=by
 intro pins s σ H xs us Q I r h;obtain⟨a,bs,rfl,hq,q⟩:=h;obtain⟨u,rfl,r1⟩:=vals1 r;cases r1;obtain⟨its,aa,hl,ab,ac⟩:=Ls I hq;refine call_all_walk (yJ hl ?_);refine⟨s.heap.objs.size,_,_,_,_,_,λi=>bs.getD i false,rfl,Walks.list (A:=X.A.in1) (I.ok.hd hc) s.heap.objs.size a ab its.toArray,⟨⟨_,zB _ rfl,rfl,rfl⟩,hl.at λo e=>zb _ e⟩,λi v s' Q' E' e hQ=>?_,λh' tk hk=>?_⟩
 ·rw[ac i v e]
  exact yr hQ
 ·have e:(List.range its.toArray.size).all (λi=>bs.getD i false)=bs.all id:=by rw[zf,aa];exact range_all bs
  rw[e];refine⟨.bl (bs.all id),H,I.kept λb o e=>hk b o ?_ (zb _ e),rfl,q⟩;intro z;have z':b=s.heap.objs.size:=by simpa using z
  rw[z']at e;exact absurd (zr e) (ya _)
end
end L2
namespace L2
open PySem PySem.Spec PyProof.Rows
section
variable{X:Cx}{a b c:Expr}{ta tb tc:TE}{pos:Pos}
noncomputable def Ab(i j:Int):Prop:=alN i j\/ajA i j
def mH:OpR X (binaryOp .Mult) (rI Ab λi j=> .int (i*j)):=opI λ_ _ _ _ _ _ _ z q=>mul_int q (z.elim (λh=>h.ok) λh=>h.ok)
def Pz{i j:Int}(h1: -(2^64)<i)(h2:i<2^64):Ab i j:=.inl (.inl ⟨h1,h2⟩)
def vd{i j:Int}(h1: -(2^64)<j)(h2:j<2^64):Ab i j:=.inl (.inr ⟨h1,h2⟩)
def Ab.big{i j:Int}(h1:i.natAbs<2^2000)(h2:j.natAbs<2^2000):Ab i j:=.inr ⟨h1,h2⟩
def Oz:nT X (.builtin "isinstance") (λxs H Q=>∃x n t k,xs=[x,.ty n]/\Kd X.K H x t/\PySem.W.kitOne X.K t (.type n)=some k/\Q (.bl k) H):=by
 intro pins s σ H xs us Q I r h;obtain⟨x,n,t,k,rfl,ty,e,q⟩:=h;obtain⟨u,w',rfl,rx,z⟩:=vals2 r;cases z;exact Oq I rx ty e λtk=>⟨.bl k,H,I.tok _,rfl,q⟩
def Qc:nT X (.builtin "isinstance") (λxs H Q=>∃x C t k,xs=[x,.ref C]/\Kd X.K H x t/\PySem.W.kitOne X.K t (.ref C)=some k/\Q (.bl k) H):=by
 intro pins s σ H xs us Q I r h;obtain⟨x,C,t,k,rfl,ty,e,q⟩:=h;obtain⟨u,w',rfl,rx,z⟩:=vals2 r;cases z;exact Oq I rx ty e λtk=>⟨.bl k,H,I.tok _,rfl,q⟩
def Pa{x:Str}(T:String)(q:Gl X x)(hm:X.mg x=none)(z:bootBuiltins x=some (.type T))(hn:x≠ "__name__" :=by decide) (hd:(x==("__debug__" :Str))=false:=by decide):PE X (.Name x pos) (tC (.ty T)):=ajd q hm z rfl hn hd
end
section
variable{D:Ends}{σ:St}{H:Hp}{t u:TS}{te ta tb tc:TE}{tt tu:TT}{Q:VK}{QB:Bool->Hp->Prop}{QA:List V->Hp->Prop}{QG:St->Hp->Prop}{v x y:V}{vs:List V}{i j:Nat}{g:TG}{gs:TGs}{A:TA}{K:Fg_}
def ap_seq:Yt t u D σ H=t {D with nx:=u D} σ H:=rfl
def ap_next:Pu D σ H=D.nx σ H:=rfl
def ap_asg:alo te g D σ H=te σ H λx H1=>g x σ H1 D.nx:=rfl
def ap_name:Vv i v σ H QG=QG (σ.set i (some v)) H:=rfl
def ap_var:Oo i σ H Q=∃v,σ[i]? =some (some v)/\Q v H:=rfl
def ap_c:tC v σ H Q=Q v H:=rfl
def ap_op{r:R2}:tOp r ta tb σ H Q=ta σ H λx H1=>tb σ H1 λy H2=>r x y H2 Q:=rfl
def ap_un{r:V->Hp->VK->Prop}:tUn r ta σ H Q=ta σ H λx H1=>r x H1 Q:=rfl
def ap_rI{C:Int->Int->Prop}{f:Int->Int->V}:rI C f x y H Q=∃i j,x=.int i/\y=.int j/\C i j/\Q (f i j) H:=rfl
def ap_rI0{f:Int->Int->V}:rI0 f x y H Q=∃i j,x=.int i/\y=.int j/\Q (f i j) H:=rfl
def ap_rU{f:Int->V}:rU f x H Q=∃i,x=.int i/\Q (f i) H:=rfl
def ap_rEq:rEq x y H Q=(ajk x y=true/\Q (.bl (decide (x=y))) H):=rfl
def ap_rNe:rNe x y H Q=(ajk x y=true/\Q (.bl (!decide (x=y))) H):=rfl
def ap_ret:alV te D σ H=te σ H D.rt:=rfl
def ap_retN:aky D σ H=D.rt .non H:=rfl
def ap_drop:alg te D σ H=te σ H λ_ H1=>D.nx σ H1:=rfl
def ap_if:Wl tt t u D σ H=tt σ H λb H1=>if b=true then t D σ H1 else u D σ H1:=rfl
def ap_test:Cr te σ H QB=te σ H λx H'=>∃k,x=.bl k/\QB k H':=rfl
def ap_tB:tB te σ H QB=te σ H λx H1=>∃c,x=.bl c/\QB c H1:=rfl
def ap_and:amh tt tu σ H QB=tt σ H λc H1=>if c=true then tu σ H1 QB else QB false H1:=rfl
def ap_or:tOr tt tu σ H QB=tt σ H λc H1=>if c=true then QB true H1 else tu σ H1 QB:=rfl
def ap_not:amm tt σ H QB=tt σ H λc H1=>QB (!c) H1:=rfl
def ap_andV:ajV ta tb σ H Q=ta σ H λx H1=>∃c,x=.bl c/\if c=true then tb σ H1 Q else Q (.bl false) H1:=rfl
def ap_notV:akf ta σ H Q=ta σ H λx H1=>∃c,x=.bl c/\Q (.bl (!c)) H1:=rfl
def ap_ifE:tIf tt ta tb σ H Q=tt σ H λc H1=>if c=true then ta σ H1 Q else tb σ H1 Q:=rfl
def ap_call{sp:Sp}{dvs:List V}{E:XK}:aae sp dvs E A σ H Q=A σ H λvs H1=>sp (vs++dvs) H1 Q E:=rfl
def ap_nil:Xo σ H QA=QA [] H:=rfl
def ap_cons:Ei ta A σ H QA=ta σ H λx H1=>A σ H1 λxs H2=>QA (x::xs) H2:=rfl
def ap_cb{r:List V->Hp->VK->Prop}:tCB r A σ H Q=A σ H λvs H1=>r vs H1 Q:=rfl
def ap_lst:amn A σ H Q=A σ H λxs H1=>xs.length<=sizeLine/\∀p,H1 p=none->Q (.ref p) (upd H1 p (.lst xs)):=rfl
def ap_tup:ame A σ H Q=A σ H λxs H1=>xs.length<=sizeLine/\∀p,H1 p=none->Q (.ref p) (upd H1 p (.tup xs)):=rfl
def ap_chain{r q:R2}:aaM r q ta tb tc σ H Q=ta σ H λx H1=>tb σ H1 λy H2=>r x y H2 λz H3=>∃k,z=.bl k/\(if k=true then tc σ H3 λw' H4=>q y w' H4 Q else Q (.bl false) H3):=rfl
def ap_sl{r:V->Option Int->Option Int->Hp->VK->Prop}{tl th:TO}:tSl r te tl th σ H Q=te σ H λx H1=>tl σ H1 λl H2=>th σ H2 λu q=>r x l u q Q:=rfl
def ap_noPart{QO:Option Int->Hp->Prop}:Wz σ H QO=QO none H:=rfl
def ap_part{QO:Option Int->Hp->Prop}:akQ te σ H QO=te σ H λx H1=>∃i,x=.int i/\QO (some i) H1:=rfl
def ap_gNil:ami vs σ H QG=(vs=[]/\QG σ H):=rfl
def ap_gCons{u:TGs}:akj g u vs σ H QG=∃v r,vs=v::r/\g v σ H λq H'=>u r q H' QG:=rfl
def ap_gTup{n:Nat}:alx K n gs v σ H QG=∃a xs,v=.ref a/\SqT K H a xs/\xs.length=n/\gs xs σ H QG:=rfl
def ap_bm{T:String}{r:V->List V->Hp->VK->Prop}:tBM K T r te A σ H Q=te σ H λx H1=>tyV K T x H1/\A σ H1 λxs H2=>r x xs H2 Q:=rfl
def ap_bm0{T:String}{r:V->List V->Hp->VK->Prop}:alA K T r te σ H Q=te σ H λx H1=>tyV K T x H1/\r x [] H1 Q:=rfl
def ap_ixL{x y:V}:alR K x y H Q=∃p xs i v,x=.ref p/\y=.int i/\SqL K H p xs/\atI xs i=some v/\Q v H:=rfl
def ap_slL{lo hi:Option Int}:alO K x lo hi H Q=∃a xs,x=.ref a/\SqL K H a xs/\∀p,H p=none->Q (.ref p) (upd H p (.lst (Ox xs lo hi))):=rfl
def scal_int(i j:Int):ajk (.int i) (.int j)=true:=rfl
def scal_str(i j:Str):ajk (.str i) (.str j)=true:=rfl
def scal_bl(i j:Bool):ajk (.bl i) (.bl j)=true:=rfl
def start_eq(N:List Str)(vs:List V):start N vs=vs.map some++List.replicate (N.length - vs.length) none:=rfl
end
end L2
namespace L2
open PySem PySem.Spec PyProof.Rows
def Ir{α:Type}(l:List α):l.filter (λ_=>true)=l:=by simp
theorem Same.upd{H H':Hp}{a:Addr}{o:HO}(h:Same H H')(hn:H a=Option.none):Same H (upd H' a o):=λb u e=>by
 rw[iU (jN e hn)];exact h b u e
def iM{H:Hp}{a:Addr}{o:HO}(hn:H a=Option.none):Same H (L2.upd H a o):=Same.upd (same_refl H) hn
section
variable{K:Fg_}{a D:Addr}{xs:List V}{g:TG}{tt:TT}{te:TE}{σ0:St}{H1:Hp}{Q:VK}
def xg{xs:List V}(J:It)(Sσ:St->Prop)(p:V->Bool)(F:V->V)(hD:H1 D=Option.none)(h0:Sσ σ0)(hz:xs.length<=sizeLine)
  (ae:∀(i:Nat) x H,xs[i]? =some x->Same H1 H->J.go i H/\∀y H',J.yld i H y H'->y=x/\H'=H) (ac:∀H,Same H1 H->J.stop xs.length H)
  (hs:∀x∈xs,∀(σ:St)(H:Hp)(R1:St->VK)(R2:St->Hp->Prop),Sσ σ->Same H1 H->(p x=true->∀z H6,Sσ z->Same H H6->R1 z (F x) H6)->(p x=false->∀z H6,Sσ z->Same H H6->R2 z H6)->
   g x σ H λz H4=>tt z H4 λb H5=>if b=true then te z H5 (R1 z)else R2 z H5)
  (k:∀H',Same H1 H'->H' D=some (.lst ((xs.filter p).map F))->Q (.ref D) H'):
  ∃W:Nat->Nat->List V->St->Hp->Prop,(∃m,W 0 m [] σ0 (upd H1 D (.lst [])))/\∀i m acc σ1 H2,W i m acc σ1 H2->H2 D=some (.lst acc)->
   (J.stop i H2/\Q (.ref D) H2)\/(J.go i H2/\∀x H3,J.yld i H2 x H3->g x σ1 H3 λz H4=>tt z H4 λb H5=>
    if b=true then te z H5 λv H6=>∃q,H6 D=some (.lst q)/\q.length<sizeLine/\∃m',m'<m/\W (i+1) m' (q++[v]) z (upd H6 D (.lst (q++[v])))
    else∃m',m'<m/\∃q,H5 D=some (.lst q)/\W (i+1) m' q z H5):=by
 refine⟨λi m acc σ H=>m=xs.length - i/\i<=xs.length/\Sσ σ/\Same H1 H/\acc=((xs.take i).filter p).map F,⟨xs.length,rfl,zJ _,h0,iM hD,by simp⟩,?_⟩;rintro i m acc σ H ⟨rfl,hi,hσ,sm,rfl⟩ hA;by_cases ab:i<xs.length
 ·have hx:xs[i]? =some xs[i]:=by simp[ab]
  obtain⟨go,yl⟩:=ae i xs[i] H hx sm;refine .inr ⟨go,λy H' hy=>?_⟩;obtain⟨rfl,rfl⟩:=yl y H' hy;have aa:xs.take (i+1)=xs.take i++[xs[i]]:=by rw[zN,hx];rfl
  have af:(((xs.take i).filter p).map F).length<=i:=by
   rw[za];exact zV (yk _ _) (by rw[zU];exact Nat.min_le_left _ _)
  refine hs xs[i] (yD ab) σ H' _ _ hσ sm (λhp z H6 ad s6=>?_) (λhp z H6 ad s6=>?_)
  ·refine⟨_,s6 _ _ hA,by omega,xs.length - (i+1),by omega,rfl,ab,ad,(sm.trans s6).upd hD,?_⟩
   rw[aa,ye,zv];simp[hp]
  ·refine⟨xs.length - (i+1),by omega,_,s6 _ _ hA,rfl,ab,ad,sm.trans s6,?_⟩
   rw[aa,ye,zv];simp[hp]
 ·have e:i=xs.length:=by omega
  subst e;refine .inl ⟨ac H sm,k H sm ?_⟩;rw[hA,z0]
def YB(Sσ:St->Prop)(p:V->Bool)(F:V->V)(hS:SqL K H1 a xs)(hD:H1 D=Option.none)(h0:Sσ σ0)(hz:xs.length<=sizeLine)
  (hs:∀x∈xs,∀(σ:St)(H:Hp)(R1:St->VK)(R2:St->Hp->Prop),Sσ σ->Same H1 H->(p x=true->∀z H6,Sσ z->Same H H6->R1 z (F x) H6)->(p x=false->∀z H6,Sσ z->Same H H6->R2 z H6)->
   g x σ H λz H4=>tt z H4 λb H5=>if b=true then te z H5 (R1 z)else R2 z H5)
  (k:∀H',Same H1 H'->H' D=some (.lst ((xs.filter p).map F))->Q (.ref D) H'):
  ∃W:Nat->Nat->List V->St->Hp->Prop,(∃m,W 0 m [] σ0 (upd H1 D (.lst [])))/\∀i m acc σ1 H2,W i m acc σ1 H2->H2 D=some (.lst acc)->
   ((Itl K a).stop i H2/\Q (.ref D) H2)\/((Itl K a).go i H2/\∀x H3,(Itl K a).yld i H2 x H3->g x σ1 H3 λz H4=>tt z H4 λb H5=>
    if b=true then te z H5 λv H6=>∃q,H6 D=some (.lst q)/\q.length<sizeLine/\∃m',m'<m/\W (i+1) m' (q++[v]) z (upd H6 D (.lst (q++[v])))
    else∃m',m'<m/\∃q,H5 D=some (.lst q)/\W (i+1) m' q z H5):=
 xg (Itl K a) Sσ p F hD h0 hz (λi x H hx sm=>⟨⟨xs,x,sm.seq hS,hx⟩,λy H' hy=>⟨zw ((hy.2 xs (sm.seq hS)).symm.trans hx),hy.1⟩⟩) (λH sm=>⟨xs,sm.seq hS,zg _⟩) hs k
def VD{lo:Int}{n:Nat}(Sσ:St->Prop)(p:V->Bool)(F:V->V)(hD:H1 D=Option.none)(h0:Sσ σ0)(hz:n<=sizeLine)
  (hs:∀i:Nat,i<n->∀(σ:St)(H:Hp)(R1:St->VK)(R2:St->Hp->Prop),Sσ σ->Same H1 H->(p (.int (lo+i))=true->∀z H6,Sσ z->Same H H6->R1 z (F (.int (lo+i))) H6)->(p (.int (lo+i))=false->∀z H6,Sσ z->Same H H6->R2 z H6)->
   g (.int (lo+i)) σ H λz H4=>tt z H4 λb H5=>if b=true then te z H5 (R1 z)else R2 z H5)
  (k:∀H',Same H1 H'->H' D=some (.lst ((((List.range n).map fun(i:Nat)=>V.int (lo+i)).filter p).map F))->Q (.ref D) H'):
  ∃W:Nat->Nat->List V->St->Hp->Prop,(∃m,W 0 m [] σ0 (upd H1 D (.lst [])))/\∀i m acc σ1 H2,W i m acc σ1 H2->H2 D=some (.lst acc)->
   ((Itr lo n).stop i H2/\Q (.ref D) H2)\/((Itr lo n).go i H2/\∀x H3,(Itr lo n).yld i H2 x H3->g x σ1 H3 λz H4=>tt z H4 λb H5=>
    if b=true then te z H5 λv H6=>∃q,H6 D=some (.lst q)/\q.length<sizeLine/\∃m',m'<m/\W (i+1) m' (q++[v]) z (upd H6 D (.lst (q++[v])))
    else∃m',m'<m/\∃q,H5 D=some (.lst q)/\W (i+1) m' q z H5):=by
 refine xg (xs:=(List.range n).map fun(i:Nat)=>V.int (lo+i)) (Itr lo n) Sσ p F hD h0 (by simpa using hz) (λi x H hx sm=>?_) (λH sm=>?_) (λx hx σ H R1 R2 h1 h2 h3 h4=>?_) k
 ·have hi:i<n:=by simpa using (zk.mp hx).1
  have e:x=.int (lo+i):=by
   rw[zd,List.getElem?_range hi]at hx;exact(zw hx).symm
  exact⟨hi,λy H' hy=>⟨hy.2.trans e.symm,hy.1⟩⟩
 ·show n<=_
  simp
 ·obtain⟨i,hi,rfl⟩:=zi.mp hx
  exact hs i (yq.mp hi) σ H R1 R2 h1 h2 h3 h4
end
end L2
namespace L2
open PySem PySem.Spec PyProof.Rows
inductive DV where
 |non|bl (b:Bool)|int (i:Int)|str (x:Str)|lst (xs:List DV)|tup (xs:List DV)
mutual
inductive Ka(K:Fg_)(H:Hp):V->DV->Prop
 |non:Ka K H .non .non
 |bl (b:Bool):Ka K H (.bl b) (.bl b)
 |int (i:Int):Ka K H (.int i) (.int i)
 |str (x:Str):Ka K H (.str x) (.str x)
 |lst {a:Addr} {vs:List V} {ds:List DV} (h:SqL K H a vs) (hs:qX K H vs ds):Ka K H (.ref a) (.lst ds)
 |tup {a:Addr} {vs:List V} {ds:List DV} (h:SqT K H a vs) (hs:qX K H vs ds):Ka K H (.ref a) (.tup ds)
inductive qX(K:Fg_)(H:Hp):List V->List DV->Prop
 |nil:qX K H [] []
 |cons {v:V} {d:DV} {vs:List V} {ds:List DV} (h:Ka K H v d) (hs:qX K H vs ds):qX K H (v::vs) (d::ds)
end
mutual
noncomputable def lM:DV->DV->Bool
 |.non,.non=>true
 |.bl a,.bl b=>a==b
 |.int a,.int b=>a==b
 |.bl a,.int b=>(if a then 1 else 0)==b
 |.int a,.bl b=>a==(if b then 1 else 0)
 |.str a,.str b=>a==b
 |.lst xs,.lst ys=>Cq xs ys
 |.tup xs,.tup ys=>Cq xs ys
 |_,_=>false
noncomputable def Cq:List DV->List DV->Bool
 |[],[]=>true
 |x::xs,y::ys=>lM x y && Cq xs ys
 |_,_=>false
end
mutual
noncomputable def Ce:DV->Nat
 |.lst xs=>Ac xs+1
 |.tup xs=>Ac xs+1
 |_=>0
noncomputable def Ac:List DV->Nat
 |[]=>0
 |x::xs=>max (Ce x) (Ac xs)
end
theorem qX.length{K:Fg_}{H:Hp}:∀{vs:List V}{ds:List DV},qX K H vs ds->vs.length=ds.length
 |_,_,.nil=>rfl
 |_,_,.cons _ hs=>congrArg (·+1) (qX.length hs)
theorem qX.get{K:Fg_}{H:Hp}:∀{vs:List V}{ds:List DV}{j:Nat}{v:V}{d:DV},qX K H vs ds->vs[j]? =some v->ds[j]? =some d->Ka K H v d
 |_,_,_,_,_,.nil,h,_=>by simp at h
 |_,_,0,_,_,.cons h _,e1,e2=>by simp at e1 e2;subst e1 e2;exact h
 |_,_,j+1,_,_,.cons _ hs,e1,e2=>qX.get (j:=j) hs (by simpa using e1) (by simpa using e2)
theorem Qf:∀{ds:List DV}{j:Nat}{d:DV},ds[j]? =some d->Ce d<=Ac ds
 |[],_,_,h=>by simp at h
 |x::xs,0,d,h=>by simp at h;subst h;unfold Ac;exact Nat.le_max_left _ _
 |x::xs,j+1,d,h=>by unfold Ac;exact zV (Qf (j:=j) (by simpa using h)) (Nat.le_max_right _ _)
theorem qT:∀(xs ys:List DV),xs.length=ys.length->Cq xs ys=(List.range xs.length).all λj=>lM (xs.getD j .non) (ys.getD j .non)
 |[],[],_=>rfl
 |x::xs,y::ys,h=>by
  unfold Cq;rw[qT xs ys (by simpa using h),zL,List.range_succ_eq_map,List.all_cons,List.all_map];rfl
 |[],_::_,h=>by simp at h
 |_::_,[],h=>by simp at h
theorem qO:∀(xs ys:List DV),xs.length≠ys.length->Cq xs ys=false
 |[],[],h=>absurd rfl h
 |x::xs,y::ys,h=>by
  unfold Cq;rw[qO xs ys (by simpa using h),zzq]
 |[],_::_,_=>by unfold Cq;rfl
 |_::_,[],_=>by unfold Cq;rfl
def Ub(xs ys:List DV):lM (.lst xs) (.lst ys)=Cq xs ys:=by unfold lM;rfl
def Ud(xs ys:List DV):lM (.tup xs) (.tup ys)=Cq xs ys:=by unfold lM;rfl
mutual
theorem CT:∀d:DV,lM d d=true
 |.non=>by unfold lM;rfl
 |.bl a=>by unfold lM;simp
 |.int a=>by unfold lM;simp
 |.str a=>by unfold lM;simp
 |.lst xs=>by unfold lM;exact tR xs
 |.tup xs=>by unfold lM;exact tR xs
theorem tR:∀ds:List DV,Cq ds ds=true
 |[]=>by unfold Cq;rfl
 |x::xs=>by unfold Cq;rw[CT x,tR xs];rfl
end
section
variable{X:Cx}{pins:List (Addr×Obj)}{σ:St}{H:Hp}{s:Shared}
def Inv.noboth(I:Inv X pins σ H s){a:Addr}{xs ys:List V}(h:SqL X.K H a xs)(h':SqT X.K H a ys):False:=by
 obtain⟨its,r,⟨o,n,e,c,_⟩,_⟩:=I.list h;obtain⟨its',r',⟨o',q,z,_⟩,_⟩:=I.tuple h';rw[e]at q;cases q;rw[c]at z;exact absurd z (by decide)
mutual
theorem Ka.inj(I:Inv X pins σ H s):∀{v:V}{d d':DV},Ka X.K H v d->Ka X.K H v d'->d=d'
 |_,_,_,.non,.non=>rfl
 |_,_,_,.bl _,.bl _=>rfl
 |_,_,_,.int _,.int _=>rfl
 |_,_,_,.str _,.str _=>rfl
 |_,_,_,.lst h hs,.lst h' hs'=>by
  have e:=I.list_inj h h';subst e;rw[qX.inj I hs hs']
 |_,_,_,.tup h hs,.tup h' hs'=>by
  have e:=I.tuple_inj h h';subst e;rw[qX.inj I hs hs']
 |_,_,_,.lst h _,.tup h' _=>(I.noboth h h').elim
 |_,_,_,.tup h _,.lst h' _=>(I.noboth h' h).elim
theorem qX.inj(I:Inv X pins σ H s):∀{vs:List V}{ds ds':List DV},qX X.K H vs ds->qX X.K H vs ds'->ds=ds'
 |_,_,_,.nil,.nil=>rfl
 |_,_,_,.cons h hs,.cons h' hs'=>by rw[Ka.inj I h h',qX.inj I hs hs']
end
def in1_units(A:Around):A.in1.units=A.units+1:=rfl
def tQ(I:Inv X pins σ H s){A:Around}{d1 d2:DV}{v1 v2:V}{u1 z:Value}(hd:Ce d1<=0)(aa:A.units<cLine)(h1:Ka X.K H v1 d1)(h2:Ka X.K H v2 d2)(r1:RelV v1 u1)(q:RelV v2 z):SeqAt.EqAt A s u1 z (lM d1 d2):=by
 cases h1 with
 |lst h hs=>unfold Ce at hd;omega
 |tup h hs=>unfold Ce at hd;omega
 |non=>
  cases (show u1=Value.none from r1)
  cases h2 with
  |non=>cases (show z=Value.none from q);unfold lM;exact SeqAt.EqAt.same _
  |bl b=>cases (show z=Value.bool b from q);unfold lM;exact SeqAt.EqAt.none_bool b
  |int i=>obtain⟨t,e⟩:=(show∃t,z=Value.int i t from q);subst e;unfold lM;exact SeqAt.EqAt.none_int i t
  |str x=>obtain⟨t,e⟩:=(show∃t,z=Value.str x t from q);subst e;unfold lM;exact SeqAt.EqAt.none_str x t
  |lst h hs=>obtain⟨its,_,p,_⟩:=I.list h;cases q;unfold lM;exact SeqAt.EqAt.none_list p.isList aa
  |tup h hs=>obtain⟨its,_,p,_⟩:=I.tuple h;cases q;unfold lM;exact SeqAt.EqAt.none_tuple p aa
 |bl a=>
  cases (show u1=Value.bool a from r1)
  cases h2 with
  |non=>cases (show z=Value.none from q);unfold lM;exact SeqAt.EqAt.bool_none a
  |bl b=>cases (show z=Value.bool b from q);unfold lM;exact SeqAt.EqAt.bool_bool a b
  |int i=>obtain⟨t,e⟩:=(show∃t,z=Value.int i t from q);subst e;unfold lM;exact SeqAt.EqAt.bool_int a i t
  |str x=>obtain⟨t,e⟩:=(show∃t,z=Value.str x t from q);subst e;unfold lM;exact SeqAt.EqAt.bool_str a x t
  |lst h hs=>obtain⟨its,_,p,_⟩:=I.list h;cases q;unfold lM;exact SeqAt.EqAt.bool_list a p.isList aa
  |tup h hs=>obtain⟨its,_,p,_⟩:=I.tuple h;cases q;unfold lM;exact SeqAt.EqAt.bool_tuple a p aa
 |int a=>
  obtain⟨t1,e1⟩:=(show∃t,u1=Value.int a t from r1);subst e1
  cases h2 with
  |non=>cases (show z=Value.none from q);unfold lM;exact SeqAt.EqAt.int_none a t1
  |bl b=>cases (show z=Value.bool b from q);unfold lM;exact SeqAt.EqAt.int_bool a t1 b
  |int i=>obtain⟨t,e⟩:=(show∃t,z=Value.int i t from q);subst e;unfold lM;exact SeqAt.EqAt.int_int a t1 i t
  |str x=>obtain⟨t,e⟩:=(show∃t,z=Value.str x t from q);subst e;unfold lM;exact SeqAt.EqAt.int_str a t1 x t
  |lst h hs=>obtain⟨its,_,p,_⟩:=I.list h;cases q;unfold lM;exact SeqAt.EqAt.int_list a t1 p.isList aa
  |tup h hs=>obtain⟨its,_,p,_⟩:=I.tuple h;cases q;unfold lM;exact SeqAt.EqAt.int_tuple a t1 p aa
 |str a=>
  obtain⟨t1,e1⟩:=(show∃t,u1=Value.str a t from r1);subst e1
  cases h2 with
  |non=>cases (show z=Value.none from q);unfold lM;exact SeqAt.EqAt.str_none a t1
  |bl b=>cases (show z=Value.bool b from q);unfold lM;exact SeqAt.EqAt.str_bool a t1 b
  |int i=>obtain⟨t,e⟩:=(show∃t,z=Value.int i t from q);subst e;unfold lM;exact SeqAt.EqAt.str_int a t1 i t
  |str x=>obtain⟨t,e⟩:=(show∃t,z=Value.str x t from q);subst e;unfold lM;exact SeqAt.EqAt.str_str a t1 x t
  |lst h hs=>obtain⟨its,_,p,_⟩:=I.list h;cases q;unfold lM;exact SeqAt.EqAt.str_list a t1 p.isList aa
  |tup h hs=>obtain⟨its,_,p,_⟩:=I.tuple h;cases q;unfold lM;exact SeqAt.EqAt.str_tuple a t1 p aa
def qi{A:Around}{ac ad:List V}{aa ab:List DV}{q z:List Value}(r1:Vals ac q)(r2:Vals ad z)(h1:qX X.K H ac aa)(h2:qX X.K H ad ab)
  (ih:∀(d1 d2:DV)(v1 v2:V)(u1 u2:Value),Ce d1<=Ac aa->Ka X.K H v1 d1->Ka X.K H v2 d2->RelV v1 u1->RelV v2 u2->SeqAt.EqAt A s u1 u2 (lM d1 d2)):
  ∀(j:Nat)(a:j<q.toArray.size)(b:j<z.toArray.size),SeqAt.EqAt A s q.toArray[j] z.toArray[j] (lM (aa.getD j .non) (ab.getD j .non)):=by
 intro j a b;have l1:=r1.length;have l2:=r2.length;have m1:=h1.length;have m2:=h2.length;simp only[zf]at a b;have a1:j<ac.length:=by omega
 have a2:j<ad.length:=by omega
 have b1:j<aa.length:=by omega
 have b2:j<ab.length:=by omega
 obtain⟨w1,e1,q1⟩:=r1.get (i:=j) (x:=ac[j]) (by simp[a1]);obtain⟨w2,e2,q2⟩:=r2.get (i:=j) (x:=ad[j]) (by simp[a2]);have z1:q.toArray[j]=w1:=by simpa [a] using e1
 have z2:z.toArray[j]=w2:=by simpa [b] using e2
 have y1:aa.getD j .non=aa[j]:=by simp[List.getD,b1]
 have y2:ab.getD j .non=ab[j]:=by simp[List.getD,b2]
 rw[z1,z2,y1,y2];exact ih _ _ _ _ _ _ (Qf (j:=j) (by simp[b1])) (h1.get (j:=j) (by simp[a1]) (by simp[b1])) (h2.get (j:=j) (by simp[a2]) (by simp[b2])) q1 q2
def Ue(I:Inv X pins σ H s):∀(n:Nat)(A:Around)(d1 d2:DV)(v1 v2:V)(u1 q:Value),Ce d1<=n->A.units+n<cLine->Ka X.K H v1 d1->Ka X.K H v2 d2->RelV v1 u1->RelV v2 q->SeqAt.EqAt A s u1 q (lM d1 d2):=by
 intro n
 induction n with
 |zero=>exact λA d1 d2 v1 v2 u1 q hd hu h1 h2 r1 z=>tQ I hd (by omega) h1 h2 r1 z
 |succ n ih=>
  intro A d1 d2 v1 v2 u1 q hd hu h1 h2 r1 z;have hu':A.units<cLine:=by omega
  have ad:A.in1.units+n<cLine:=by rw[in1_units];omega
  cases h1 with
  |non=>exact tQ I (by unfold Ce;omega) hu' .non h2 r1 z
  |bl a=>exact tQ I (by unfold Ce;omega) hu' (.bl a) h2 r1 z
  |int a=>exact tQ I (by unfold Ce;omega) hu' (.int a) h2 r1 z
  |str a=>exact tQ I (by unfold Ce;omega) hu' (.str a) h2 r1 z
  | @lst a vs ds h hs=>
   obtain⟨its,rv,p,_⟩:=I.list h;cases (show u1=Value.ref a from r1);have hd':Ac ds<=n:=by unfold Ce at hd;omega
   cases h2 with
   |non=>cases (show q=Value.none from z);unfold lM;exact SeqAt.EqAt.list_none p.isList hu'
   |bl b=>cases (show q=Value.bool b from z);unfold lM;exact SeqAt.EqAt.list_bool b p.isList hu'
   |int i=>obtain⟨t,e⟩:=(show∃t,q=Value.int i t from z);subst e;unfold lM;exact SeqAt.EqAt.list_int i t p.isList hu'
   |str x=>obtain⟨t,e⟩:=(show∃t,q=Value.str x t from z);subst e;unfold lM;exact SeqAt.EqAt.list_str x t p.isList hu'
   | @lst a2 vs2 ds2 h' hs'=>
    obtain⟨aa,ab,p2,_⟩:=I.list h';cases (show q=Value.ref a2 from z);unfold lM;by_cases ac:a=a2
    ·subst ac
     have e:=I.list_inj h h';subst e;rw[qX.inj I hs hs',tR];exact SeqAt.EqAt.same _
    ·have l1:=rv.length
     have l2:=ab.length;have m1:=hs.length;have m2:=hs'.length;by_cases hz:ds.length=ds2.length
     ·rw[qT _ _ hz]
      have:=SeqAt.EqAt.of_refs ac (SeqAt.RcAt.lists (A:=A) (e:=λj=>lM (ds.getD j .non) (ds2.getD j .non)) p.isList p2.isList (by simp only[zf];omega) hu'
       (qi rv ab hs hs' λd1 d2 v1 v2 u1 q ae g1 g2 q1 q2=>ih A.in1 d1 d2 v1 v2 u1 q (by omega) ad g1 g2 q1 q2))
      rw[zf,show its.length=ds.length by omega]at this;exact this
     ·rw[qO _ _ hz]
      exact SeqAt.EqAt.of_refs ac (SeqAt.RcAt.lists_lengths p.isList p2.isList (by simp only[zf,bne_iff_ne];omega) hu')
   | @tup a2 vs2 ds2 h' hs'=>
    obtain⟨aa,ab,p2,_⟩:=I.tuple h';cases (show q=Value.ref a2 from z);unfold lM;exact SeqAt.EqAt.list_tuple p.isList p2 hu'
  | @tup a vs ds h hs=>
   obtain⟨its,rv,p,_⟩:=I.tuple h;cases (show u1=Value.ref a from r1);have hd':Ac ds<=n:=by unfold Ce at hd;omega
   cases h2 with
   |non=>cases (show q=Value.none from z);unfold lM;exact SeqAt.EqAt.tuple_none p hu'
   |bl b=>cases (show q=Value.bool b from z);unfold lM;exact SeqAt.EqAt.tuple_bool b p hu'
   |int i=>obtain⟨t,e⟩:=(show∃t,q=Value.int i t from z);subst e;unfold lM;exact SeqAt.EqAt.tuple_int i t p hu'
   |str x=>obtain⟨t,e⟩:=(show∃t,q=Value.str x t from z);subst e;unfold lM;exact SeqAt.EqAt.tuple_str x t p hu'
   | @lst a2 vs2 ds2 h' hs'=>
    obtain⟨aa,ab,p2,_⟩:=I.list h';cases (show q=Value.ref a2 from z);unfold lM;exact SeqAt.EqAt.tuple_list p p2.isList hu'
   | @tup a2 vs2 ds2 h' hs'=>
    obtain⟨aa,ab,p2,_⟩:=I.tuple h';cases (show q=Value.ref a2 from z);unfold lM;by_cases ac:a=a2
    ·subst ac
     have e:=I.tuple_inj h h';subst e;rw[qX.inj I hs hs',tR];exact SeqAt.EqAt.same _
    ·have l1:=rv.length
     have l2:=ab.length;have m1:=hs.length;have m2:=hs'.length
     have:=SeqAt.EqAt.of_refs ac (SeqAt.RcAt.tuples (A:=A) (e:=λj=>lM (ds.getD j .non) (ds2.getD j .non)) p p2 hu'
       (qi rv ab hs hs' λd1 d2 v1 v2 u1 q ae g1 g2 q1 q2=>ih A.in1 d1 d2 v1 v2 u1 q (by omega) ad g1 g2 q1 q2))
     simp only[zf]at this;by_cases hz:ds.length=ds2.length
     ·rw[qT _ _ hz]
      rw[show its.length=ds.length by omega,show aa.length=ds.length by omega,Nat.min_self,beq_self_eq_true,Bool.and_true]at this;exact this
     ·rw[qO _ _ hz]
      rw[show(its.length==aa.length)=false from beq_eq_false_iff_ne.mpr (by omega),zzq]at this;exact this
noncomputable def alJ(K:Fg_):R2:=λx y H Q=>∃d1 d2,Ka K H x d1/\Ka K H y d2/\1<=Ce d1/\Ce d1<=20/\Q (.bl (lM d1 d2)) H
noncomputable def alS(K:Fg_):R2:=λx y H Q=>∃d1 d2,Ka K H x d1/\Ka K H y d2/\1<=Ce d1/\Ce d1<=20/\Q (.bl (!lM d1 d2)) H
def alf{k:Nat}(hr:qW k X.A):OpR X (compareOp .Eq) (alJ X.K):=by
 intro pins s σ H x y v u Q I rx ry h;obtain⟨d1,d2,h1,h2,ad,hd,q⟩:=h;have hr':=hr.units;have hu':X.A.units<cLine:=by omega
 have ae:X.A.in1.units+20<cLine:=by rw[in1_units];omega
 have aa:∀b,SeqAt.RcAt X.A s v u b->b=(lM d1 d2)->wpAny (model X.prog X.w) X.A (compareOp .Eq v u) (EP X pins σ Q) X.xe s:=λb hb e=>by
  subst e;exact hb X.prog X.w X.xe _ ⟨.bl _,H,I,rfl,q⟩
 cases h1 with
 |non=>unfold Ce at ad;omega
 |bl a=>unfold Ce at ad;omega
 |int a=>unfold Ce at ad;omega
 |str a=>unfold Ce at ad;omega
 | @lst a vs ds h hs=>
  obtain⟨its,rv,p,_⟩:=I.list h;cases (show v=Value.ref a from rx);have hd':Ac ds<=20:=by unfold Ce at hd;omega
  cases h2 with
  |non=>cases (show u=Value.none from ry);exact aa _ (SeqAt.RcAt.list_none p.isList hu') (by unfold lM;rfl)
  |bl b=>cases (show u=Value.bool b from ry);exact aa _ (SeqAt.RcAt.list_bool b p.isList hu') (by unfold lM;rfl)
  |int i=>obtain⟨t,e⟩:=(show∃t,u=Value.int i t from ry);subst e;exact aa _ (SeqAt.RcAt.list_int i t p.isList hu') (by unfold lM;rfl)
  |str z=>obtain⟨t,e⟩:=(show∃t,u=Value.str z t from ry);subst e;exact aa _ (SeqAt.RcAt.list_str z t p.isList hu') (by unfold lM;rfl)
  | @tup a2 vs2 ds2 h' hs'=>
   obtain⟨ab,ac,p2,_⟩:=I.tuple h';cases (show u=Value.ref a2 from ry);exact aa _ (SeqAt.RcAt.list_tuple p.isList p2 hu') (by unfold lM;rfl)
  | @lst a2 vs2 ds2 h' hs'=>
   obtain⟨ab,ac,p2,_⟩:=I.list h';cases (show u=Value.ref a2 from ry);have l1:=rv.length;have l2:=ac.length;have m1:=hs.length;have m2:=hs'.length;by_cases hz:ds.length=ds2.length
   ·refine aa _ (SeqAt.RcAt.lists (A:=X.A) (e:=λj=>lM (ds.getD j .non) (ds2.getD j .non)) p.isList p2.isList (by simp only[zf];omega) hu'
     (qi rv ac hs hs' λd1 d2 v1 v2 u1 u2 af g1 g2 q1 q2=>Ue I 20 X.A.in1 d1 d2 v1 v2 u1 u2 (by omega) ae g1 g2 q1 q2)) ?_
    rw[Ub,qT _ _ hz,zf,show its.length=ds.length by omega]
   ·refine aa _ (SeqAt.RcAt.lists_lengths p.isList p2.isList (by simp only[zf,bne_iff_ne];omega) hu') ?_
    unfold lM;rw[qO _ _ hz]
    all_goals rfl
 | @tup a vs ds h hs=>
  obtain⟨its,rv,p,_⟩:=I.tuple h;cases (show v=Value.ref a from rx);have hd':Ac ds<=20:=by unfold Ce at hd;omega
  cases h2 with
  |non=>cases (show u=Value.none from ry);exact aa _ (SeqAt.RcAt.tuple_none p hu') (by unfold lM;rfl)
  |bl b=>cases (show u=Value.bool b from ry);exact aa _ (SeqAt.RcAt.tuple_bool b p hu') (by unfold lM;rfl)
  |int i=>obtain⟨t,e⟩:=(show∃t,u=Value.int i t from ry);subst e;exact aa _ (SeqAt.RcAt.tuple_int i t p hu') (by unfold lM;rfl)
  |str z=>obtain⟨t,e⟩:=(show∃t,u=Value.str z t from ry);subst e;exact aa _ (SeqAt.RcAt.tuple_str z t p hu') (by unfold lM;rfl)
  | @lst a2 vs2 ds2 h' hs'=>
   obtain⟨ab,ac,p2,_⟩:=I.list h';cases (show u=Value.ref a2 from ry);exact aa _ (SeqAt.RcAt.tuple_list p p2.isList hu') (by unfold lM;rfl)
  | @tup a2 vs2 ds2 h' hs'=>
   obtain⟨ab,ac,p2,_⟩:=I.tuple h';cases (show u=Value.ref a2 from ry);have l1:=rv.length;have l2:=ac.length;have m1:=hs.length;have m2:=hs'.length
   refine aa _ (SeqAt.RcAt.tuples (A:=X.A) (e:=λj=>lM (ds.getD j .non) (ds2.getD j .non)) p p2 hu'
     (qi rv ac hs hs' λd1 d2 v1 v2 u1 u2 af g1 g2 q1 q2=>Ue I 20 X.A.in1 d1 d2 v1 v2 u1 u2 (by omega) ae g1 g2 q1 q2)) ?_
   rw[Ud];simp only[zf];by_cases hz:ds.length=ds2.length
   ·rw[qT _ _ hz,show its.length=ds.length by omega,show ab.length=ds.length by omega,Nat.min_self,beq_self_eq_true,Bool.and_true]
   ·rw[qO _ _ hz,show(its.length==ab.length)=false from beq_eq_false_iff_ne.mpr (by omega),zzq]
def akG{k:Nat}(hr:qW k X.A):OpR X (compareOp .NotEq) (alS X.K):=by
 intro pins s σ H x y v u Q I rx ry h;obtain⟨d1,d2,h1,h2,ad,hd,q⟩:=h;have hr':=hr.units;have hu':X.A.units<cLine:=by omega
 have ae:X.A.in1.units+20<cLine:=by rw[in1_units];omega
 have aa:∀b,SeqAt.RcNeAt X.A s v u b->b=(!lM d1 d2)->wpAny (model X.prog X.w) X.A (compareOp .NotEq v u) (EP X pins σ Q) X.xe s:=λb hb e=>by
  subst e;exact hb X.prog X.w X.xe _ ⟨.bl _,H,I,rfl,q⟩
 cases h1 with
 |non=>unfold Ce at ad;omega
 |bl a=>unfold Ce at ad;omega
 |int a=>unfold Ce at ad;omega
 |str a=>unfold Ce at ad;omega
 | @lst a vs ds h hs=>
  obtain⟨its,rv,p,_⟩:=I.list h;cases (show v=Value.ref a from rx);have hd':Ac ds<=20:=by unfold Ce at hd;omega
  cases h2 with
  |non=>cases (show u=Value.none from ry);exact aa _ (SeqAt.RcNeAt.list_none p.isList hu') (by unfold lM;rfl)
  |bl b=>cases (show u=Value.bool b from ry);exact aa _ (SeqAt.RcNeAt.list_bool b p.isList hu') (by unfold lM;rfl)
  |int i=>obtain⟨t,e⟩:=(show∃t,u=Value.int i t from ry);subst e;exact aa _ (SeqAt.RcNeAt.list_int i t p.isList hu') (by unfold lM;rfl)
  |str z=>obtain⟨t,e⟩:=(show∃t,u=Value.str z t from ry);subst e;exact aa _ (SeqAt.RcNeAt.list_str z t p.isList hu') (by unfold lM;rfl)
  | @tup a2 vs2 ds2 h' hs'=>
   obtain⟨ab,ac,p2,_⟩:=I.tuple h';cases (show u=Value.ref a2 from ry);exact aa _ (SeqAt.RcNeAt.list_tuple p.isList p2 hu') (by unfold lM;rfl)
  | @lst a2 vs2 ds2 h' hs'=>
   obtain⟨ab,ac,p2,_⟩:=I.list h';cases (show u=Value.ref a2 from ry);have l1:=rv.length;have l2:=ac.length;have m1:=hs.length;have m2:=hs'.length;by_cases hz:ds.length=ds2.length
   ·refine aa _ (SeqAt.RcNeAt.lists (A:=X.A) (e:=λj=>lM (ds.getD j .non) (ds2.getD j .non)) p.isList p2.isList (by simp only[zf];omega) hu'
     (qi rv ac hs hs' λd1 d2 v1 v2 u1 u2 af g1 g2 q1 q2=>Ue I 20 X.A.in1 d1 d2 v1 v2 u1 u2 (by omega) ae g1 g2 q1 q2)) ?_
    rw[Ub,qT _ _ hz,zf,show its.length=ds.length by omega]
   ·refine aa _ (SeqAt.RcNeAt.lists_lengths p.isList p2.isList (by simp only[zf,bne_iff_ne];omega) hu') ?_
    unfold lM;rw[qO _ _ hz]
    all_goals rfl
 | @tup a vs ds h hs=>
  obtain⟨its,rv,p,_⟩:=I.tuple h;cases (show v=Value.ref a from rx);have hd':Ac ds<=20:=by unfold Ce at hd;omega
  cases h2 with
  |non=>cases (show u=Value.none from ry);exact aa _ (SeqAt.RcNeAt.tuple_none p hu') (by unfold lM;rfl)
  |bl b=>cases (show u=Value.bool b from ry);exact aa _ (SeqAt.RcNeAt.tuple_bool b p hu') (by unfold lM;rfl)
  |int i=>obtain⟨t,e⟩:=(show∃t,u=Value.int i t from ry);subst e;exact aa _ (SeqAt.RcNeAt.tuple_int i t p hu') (by unfold lM;rfl)
  |str z=>obtain⟨t,e⟩:=(show∃t,u=Value.str z t from ry);subst e;exact aa _ (SeqAt.RcNeAt.tuple_str z t p hu') (by unfold lM;rfl)
  | @lst a2 vs2 ds2 h' hs'=>
   obtain⟨ab,ac,p2,_⟩:=I.list h';cases (show u=Value.ref a2 from ry);exact aa _ (SeqAt.RcNeAt.tuple_list p p2.isList hu') (by unfold lM;rfl)
  | @tup a2 vs2 ds2 h' hs'=>
   obtain⟨ab,ac,p2,_⟩:=I.tuple h';cases (show u=Value.ref a2 from ry);have l1:=rv.length;have l2:=ac.length;have m1:=hs.length;have m2:=hs'.length
   refine aa _ (SeqAt.RcNeAt.tuples (A:=X.A) (e:=λj=>lM (ds.getD j .non) (ds2.getD j .non)) p p2 hu'
     (qi rv ac hs hs' λd1 d2 v1 v2 u1 u2 af g1 g2 q1 q2=>Ue I 20 X.A.in1 d1 d2 v1 v2 u1 u2 (by omega) ae g1 g2 q1 q2)) ?_
   rw[Ud];simp only[zf];by_cases hz:ds.length=ds2.length
   ·rw[qT _ _ hz,show its.length=ds.length by omega,show ab.length=ds.length by omega,Nat.min_self,beq_self_eq_true,Bool.and_true]
   ·rw[qO _ _ hz,show(its.length==ab.length)=false from beq_eq_false_iff_ne.mpr (by omega),zzq]
end
end L2
namespace L2
open PySem PySem.Spec PyProof.Rows
section
variable{X:Cx}{K:Fg_}{a b o e:Expr}{ta tb to te:TE}{pos:Pos}{tg:Expr}
def mC(q:X.K=K:=by rfl):IxR X (alR K):=q▸ajy
def jm(q:X.K=K:=by rfl):IxR X (aik K):=q▸akq
def Uk(q:X.K=K:=by rfl):SlR X (alO K):=q▸aiA
def XR(q:X.K=K:=by rfl):SlR X (alu K):=q▸ald
def aiv{k:Nat}(q:qW k X.A)(z:X.K=K:=by rfl):OpR X (compareOp .Eq) (alJ K):=z▸alf q
def Xd{k:Nat}(q:qW k X.A)(z:X.K=K:=by rfl):OpR X (compareOp .NotEq) (alS K):=z▸akG q
def aaB(q:X.K=K:=by rfl):OpR X (binaryOp .Add) (akA K):=q▸aju
noncomputable def alK(K:Fg_):List V->Hp->VK->Prop:=λxs H Q=>∃p ys,xs=[.ref p]/\(SqL K H p ys\/SqT K H p ys)/\Q (.int ys.length) H
def nA(q:X.K=K:=by rfl):nT X (.builtin "len") (alK K):=q▸QV
noncomputable def alH(K:Fg_):List V->Hp->VK->Prop:=λxs H Q=>∃(a:Addr)(ns:List Int),xs=[.ref a]/\SqL K H a (ns.map V.int)/\Q (.int ns.sum) H
def mO(q:X.calm=true)(z:X.K=K:=by rfl):nT X (.builtin "sum") (alH K):=z▸Xe q
noncomputable def aly(K:Fg_):List V->Hp->VK->Prop:=λxs H Q=>∃(a:Addr)(bs:List Bool),xs=[.ref a]/\SqL K H a (bs.map V.bl)/\Q (.bl (bs.any id)) H
def Qs(q:X.calm=true)(z:X.K=K:=by rfl):nT X (.builtin "any") (aly K):=z▸YQ q
noncomputable def alB(K:Fg_):List V->Hp->VK->Prop:=λxs H Q=>∃(a:Addr)(bs:List Bool),xs=[.ref a]/\SqL K H a (bs.map V.bl)/\Q (.bl (bs.all id)) H
def Ze(q:X.calm=true)(z:X.K=K:=by rfl):nT X (.builtin "all") (alB K):=z▸Zb q
noncomputable def HX(K:Fg_):List V->Hp->VK->Prop:=λxs H Q=>∃p ys,xs=[.ref p]/\(SqL K H p ys\/SqT K H p ys)/\∀l,H l=none->Q (.ref l) (upd H l (.lst ys))
def xU(q:X.K=K:=by rfl):nT X (.type "list") (HX K):=q▸Qw
noncomputable def alW(K:Fg_):List V->Hp->VK->Prop:=λxs H Q=>∃x n t k,xs=[x,.ty n]/\Kd K H x t/\PySem.W.kitOne K t (.type n)=some k/\Q (.bl k) H
def pC(q:X.K=K:=by rfl):nT X (.builtin "isinstance") (alW K):=q▸Oz
noncomputable def ajH(K:Fg_):List V->Hp->VK->Prop:=λxs H Q=>∃x C t k,xs=[x,.ref C]/\Kd K H x t/\PySem.W.kitOne K t (.ref C)=some k/\Q (.bl k) H
def uc(q:X.K=K:=by rfl):nT X (.builtin "isinstance") (ajH K):=q▸Qc
noncomputable def aml:List V->Hp->VK->Prop:=λxs H Q=>∃i j,xs=[.int i,.int j]/\Q (.int (if j<i then j else i)) H
def Qp(q:X.calm=true):nT X (.builtin "min") aml:=Yz q
def kJ(q:PE X o to)(z:X.K=K:=by rfl):PI X tg o (Yk K to):=z▸aiY q
def aiF(q:PE X o to)(z:X.K=K:=by rfl):PI X tg o (alC K to):=z▸akH q
def nO{es:List Expr}{k:Nat}{t:TGs}{n:Nat}(q:X.calm=true)(h:PGs X es t)(hn:(assignEach es X.env).length=n:=by rfl)(hst:(assignEach es X.env).findIdx? (·.1)=none:=by rfl)(hK:X.K=K:=by rfl):PG X (.Tuple es k pos) (alx K n t):=hK▸akx q h hn hst
def aiS{f:Str}(q:PE X e ta)(z:attributeBase e f X.env (eval e X.env)=eval e X.env)(hK:X.K=K:=by rfl):PE X (.Attribute e f pos) (akz K ta f):=hK▸akh q z
def qx{T:String}{name:Str}{id:String}{r:V->List V->Hp->VK->Prop}{es:List Expr}{t:TA}{apos cpos:Pos}(pa:PlainAttrs T)(slot:Slot T name id)(z:typeOf (.builtin id)=pure (.type "method_descriptor")) (hm:MtR X id r) (ho:PE X o to) (ha:PA X (e::es) t)
  (q:attributeBase o name X.env (eval o X.env)=eval o X.env:=by rfl)
  (hfew:((backTo cpos (starEach (e::es) X.env)).all (λx=>!x.1) && (backToKw cpos (keywordEach [] X.env)).all (λx=>x.1.isSome)
   && decide ((e::es).length+([]:List Keyword).length+(if([]:List Keyword).isEmpty then 0 else 1)<30))=true:=by rfl)
  (hline:(apos.endLine==cpos.line)=true:=by rfl) (hs:starEach (e::es) X.env=(false,eval e X.env)::starEach es X.env:=by rfl) (hplain:(backTo cpos (starEach es X.env)).any (·.1)=false:=by rfl) (hK:X.K=K:=by rfl):
  PE X (.Call (.Attribute o name apos) (e::es) [] cpos) (tBM K T r to t):=hK▸alL pa slot z hm ho ha q hfew hline hs hplain
def Ib{T:String}{name:Str}{id:String}{r:V->List V->Hp->VK->Prop}{apos cpos:Pos}(pa:PlainAttrs T)(slot:Slot T name id)(z:typeOf (.builtin id)=pure (.type "method_descriptor")) (hm:MtR X id r) (ho:PE X o to)
  (q:attributeBase o name X.env (eval o X.env)=eval o X.env:=by rfl) (hline:(apos.endLine==cpos.line)=true:=by rfl) (hK:X.K=K:=by rfl):PE X (.Call (.Attribute o name apos) [] [] cpos) (alA K T r to):=hK▸akc pa slot z hm ho q hline
end
section
variable{K:Fg_}{H:Hp}{Q:VK}{p:Addr}{x y:V}
def ap_noIf{σ:St}{QB:Bool->Hp->Prop}:Kr σ H QB=QB true H:=rfl
def ap_rLen:alK K [.ref p] H Q=∃ys,(SqL K H p ys\/SqT K H p ys)/\Q (.int (ys.length:Int)) H:=by simp[alK]
def ap_rSum:alH K [.ref p] H Q=∃ns:List Int,SqL K H p (ns.map V.int)/\Q (.int ns.sum) H:=by simp[alH]
def ap_rAny:aly K [.ref p] H Q=∃bs:List Bool,SqL K H p (bs.map V.bl)/\Q (.bl (bs.any id)) H:=by simp[aly]
def ap_rAll:alB K [.ref p] H Q=∃bs:List Bool,SqL K H p (bs.map V.bl)/\Q (.bl (bs.all id)) H:=by simp[alB]
def ap_rListOf:HX K [.ref p] H Q=∃ys,(SqL K H p ys\/SqT K H p ys)/\∀l,H l=none->Q (.ref l) (upd H l (.lst ys)):=by simp[HX]
def ap_rIsT{n:String}:alW K [x,.ty n] H Q=∃t k,Kd K H x t/\PySem.W.kitOne K t (.type n)=some k/\Q (.bl k) H:=propext ⟨fun⟨q,z,t,k,e,h⟩=>by
  injection e with e1 e2
  injection e2 with e2 _
  injection e2 with e2
  subst e1 e2;exact⟨t,k,h⟩,fun⟨t,k,h⟩=>⟨x,n,t,k,rfl,h⟩⟩
def ap_append:Hq (.ref p) [y] H Q=∃xs,H p=some (.lst xs)/\xs.length<sizeLine/\Q .non (upd H p (.lst (xs++[y]))):=by simp[Hq]
def ap_rCat{l b:Addr}:alz (.ref l) (.ref b) H Q=∃xs zs,H l=some (.lst xs)/\H b=some (.lst zs)/\xs.length+zs.length<=sizeLine/\∀p,H p=none->Q (.ref p) (upd H p (.lst (xs++zs))):=by simp[alz]
def ap_rMin{i j:Int}:aml [.int i,.int j] H Q=Q (.int (if j<i then j else i)) H:=propext ⟨fun⟨q,z,e,h⟩=>by cases e;exact h,λh=>⟨i,j,rfl,h⟩⟩
end
end L2
namespace L2
open PySem PySem.Spec PyProof.Rows
section
variable{K:Fg_}{a:Addr}{xs:List V}{g:TG}{tb:TS}{D:Ends}{σ:St}{H:Hp}{wi:TI}{cap:List (Option Nat)}{tt:TT}{te tl:TE}{Q:VK}{ta:TA}{R:It->Hp->Prop}
noncomputable def Gg(J:It)(g:TG)(tb:TS)(D:Ends)(σ:St)(H1:Hp):Prop:=∃W:Nat->Nat->St->Hp->Prop,(∃m,W 0 m σ H1)/\∀i m σ H,W i m σ H->
 (J.stop i H/\D.nx σ H)\/(J.go i H/\∃N:St->Hp->Prop,(∀σ' H',N σ' H'->∃m',m'<m/\W (i+1) m' σ' H')/\∀x H',J.yld i H x H'->g x σ H' λσ2 H2=>tb {D with nx:=N,ct:=N,bk:=D.nx} σ2 H2)
def ap_for:alp wi g tb D σ H=wi σ H λJ H1=>Gg J g tb D σ H1:=rfl
def tY(q:Nat->St->Hp->Prop)(z:q 0 σ H)(hl:∀i σ H,i<=xs.length->q i σ H->SqL K H a xs)
  (hs:∀i x σ H,xs[i]? =some x->q i σ H->g x σ H λσ2 H2=>tb {D with nx:=q (i+1),ct:=q (i+1),bk:=D.nx} σ2 H2) (hd:∀σ H,q xs.length σ H->D.nx σ H):Gg (Itl K a) g tb D σ H:=aaf q z hl hs hd
def Gg.range{lo:Int}{n:Nat}(q:Nat->St->Hp->Prop)(z:q 0 σ H)
  (hs:∀i σ H,i<n->q i σ H->g (.int (lo+i)) σ H λσ2 H2=>tb {D with nx:=q (i+1),ct:=q (i+1),bk:=D.nx} σ2 H2) (hd:∀σ H,q n σ H->D.nx σ H):Gg (Itr lo n) g tb D σ H:=WY q z hs hd
def ap_iList:Yk K tl σ H R=tl σ H λx H1=>∃a,x=.ref a/\(∃xs,SqL K H1 a xs)/\R (Itl K a) H1:=rfl
def ap_iTup:alC K tl σ H R=tl σ H λx H1=>∃a,x=.ref a/\(∃xs,SqT K H1 a xs)/\R (Itt K a) H1:=rfl
def ap_iRng1:akJ ta σ H R=ta σ H λvs H1=>∃j:Int,vs=[.int j]/\ -(2^62)<=j/\j<2^62/\R (Itr 0 j.toNat) H1:=rfl
noncomputable def lu(cap:List (Option Nat))(J:It)(g:TG)(tt:TT)(te:TE)(σ:St)(H1:Hp)(Q:VK):Prop:=∀D,H1 D=Option.none->
 ∃W:Nat->Nat->List V->St->Hp->Prop,(∃m,W 0 m [] (pD σ cap) (upd H1 D (.lst [])))/\∀i m acc σ1 H2,W i m acc σ1 H2->H2 D=some (.lst acc)->
  (J.stop i H2/\Q (.ref D) H2)\/(J.go i H2/\∀x H3,J.yld i H2 x H3->g x σ1 H3 λσ4 H4=>tt σ4 H4 λb H5=>
   if b=true then te σ4 H5 λv H6=>∃acc',H6 D=some (.lst acc')/\acc'.length<sizeLine/\∃m',m'<m/\W (i+1) m' (acc'++[v]) σ4 (upd H6 D (.lst (acc'++[v])))
   else∃m',m'<m/\∃acc',H5 D=some (.lst acc')/\W (i+1) m' acc' σ4 H5)
def ap_comp:aiI cap wi g tt te σ H Q=wi σ H λJ H1=>lu cap J g tt te σ H1 Q:=rfl
def lu.list(Sσ:St->Prop)(p:V->Bool)(F:V->V)(hS:SqL K H a xs)(h0:Sσ (pD σ cap))(hz:xs.length<=sizeLine)
  (hs:∀x∈xs,∀(σ:St)(z:Hp)(R1:St->VK)(R2:St->Hp->Prop),Sσ σ->Same H z->(p x=true->∀q H6,Sσ q->Same z H6->R1 q (F x) H6)->(p x=false->∀q H6,Sσ q->Same z H6->R2 q H6)->
   g x σ z λq H4=>tt q H4 λb z=>if b=true then te q z (R1 q)else R2 q z)
  (k:∀D H',H D=Option.none->Same H H'->H' D=some (.lst ((xs.filter p).map F))->Q (.ref D) H'):lu cap (Itl K a) g tt te σ H Q:=
 λD hD=>YB Sσ p F hS hD h0 hz hs λH' s e=>k D H' hD s e
theorem lu.range{lo:Int}{n:Nat}(Sσ:St->Prop)(p:V->Bool)(F:V->V)(h0:Sσ (pD σ cap))(hz:n<=sizeLine)
  (hs:∀i:Nat,i<n->∀(σ:St)(z:Hp)(R1:St->VK)(R2:St->Hp->Prop),Sσ σ->Same H z->(p (.int (lo+i))=true->∀q H6,Sσ q->Same z H6->R1 q (F (.int (lo+i))) H6)->(p (.int (lo+i))=false->∀q H6,Sσ q->Same z H6->R2 q H6)->
   g (.int (lo+i)) σ z λq H4=>tt q H4 λb z=>if b=true then te q z (R1 q)else R2 q z)
  (k:∀D H',H D=Option.none->Same H H'->H' D=some (.lst ((((List.range n).map fun(i:Nat)=>V.int (lo+i)).filter p).map F))->Q (.ref D) H'):lu cap (Itr lo n) g tt te σ H Q:=
 λD hD=>VD Sσ p F hD h0 hz hs λH' s e=>k D H' hD s e
def ZC(xs:List V)(n:Nat):Ox xs none (some (n:Int))=xs.take n:=by
 unfold Ox;rw[HT.sIx_none,HT.sIx_nat,List.drop_zero,Nat.sub_zero];rcases Nat.le_total n xs.length with h|h
 ·rw[Nat.min_eq_left h]
 ·rw[Nat.min_eq_right h,zT h,zT (zg _)]
end
end L2
namespace L2
open PySem PySem.Spec PyProof.Rows
structure LeE(D D':Ends):Prop where
 nx:∀σ H,D.nx σ H->D'.nx σ H
 rt:∀v H,D.rt v H->D'.rt v H
 bk:∀σ H,D.bk σ H->D'.bk σ H
 ct:∀σ H,D.ct σ H->D'.ct σ H
end L2
namespace L2
open PySem PySem.Spec PyProof.Rows
section
variable{X:Cx}{pins:List (Addr×Obj)}{σ:St}{H:Hp}{s:Shared}{h':Heap}
def Inv.turnedN{t':Nat}{fp:List Addr}(I:Inv X pins σ H s)(hf:∀b∈fp,QW X pins H b)(k:∀b o,b∉fp->s.heap.get? b=some o->h'.get? b=some o):Inv X pins σ H {s with heap:=h',toks:=t'}:=by
 have aa:∀b u,H b=some u->b∉fp:=λb u e z=>by rw[(hf b z).1]at e;cases e
 refine I.step (g':=s.gens) (d':=s.drawn) (ch:=fp) (λb hb=>⟨(hf b hb).2.2.2.1,(hf b hb).2.1,(hf b hb).2.2.2.2.1,(hf b hb).2.2.2.2.2⟩) (λb o _ _ hc e _=>k b o hc e) (λb o _ _ hc e _=>⟨o.slots,k b o hc e⟩) (λ_ _ _ _ n=>n)
  (λb o hc e=>⟨o,k b o hc e⟩) (λ_ _ e=>e) (λ_ _ _ e=>e) (λb ps e=>⟨#[],by rw[e];simp⟩) (λm hm=>?_) (λb u e=>?_) I.bare
 ·obtain⟨o,es,ep,ho,r⟩:=hm
  exact⟨o,es,ep,k _ o (λz=>(hf _ z).2.1 rfl) ho,r⟩
 ·refine(I.hok b u e).stay (λc v hc q=>k c v ?_ q) (λ_ q=>q) λ_ _ q=>q
  rcases hc with z|z
  ·rw[z];exact aa b u e
  ·exact aa c _ z
def Inv.turnedT{t':Nat}{fp:List Addr}{T:Addr}{o:HO}(I:Inv X pins σ H s)(hf:∀b∈fp,QW X pins H b)(hT:s.heap.objs.size<=T)(k:∀b o,b∉fp->s.heap.get? b=some o->h'.get? b=some o)
  (ab:mq X.prog X.w (upd H T o) h' T o):Inv X pins σ (upd H T o) {s with heap:=h',toks:=t'}:=by
 have aa:∀b u,H b=some u->b∉fp:=λb u e z=>by rw[(hf b z).1]at e;cases e
 have hn:H T=none:=I.hok.fresh hT
 refine I.step (g':=s.gens) (d':=s.drawn) (ch:=fp) (λb hb=>⟨(hf b hb).2.2.2.1,(hf b hb).2.1,(hf b hb).2.2.2.2.1,(hf b hb).2.2.2.2.2⟩) (λb o _ _ hc e _=>k b o hc e) (λb o _ _ hc e _=>⟨o.slots,k b o hc e⟩)
  (λb o _ e n=>by rw[iU (zD (zG (zr e) hT))];exact n)
  (λb o hc e=>⟨o,k b o hc e⟩) (λb xs e=>by rw[iU (jN e hn)];exact e) (λb o xs e=>by rw[iU (jN e hn)];exact e) (λb ps e=>⟨#[],by rw[iU (jN e hn),e];simp⟩) (λm hm=>?_) (λb u e=>?_) I.bare
 ·obtain⟨o,es,ep,ho,r⟩:=hm
  exact⟨o,es,ep,k _ o (λz=>(hf _ z).2.1 rfl) ho,r⟩
 ·by_cases hb:b=T
  ·subst hb;rw[iH]at e;cases e;exact ab
  ·rw[iU hb]at e
   refine(I.hok b u e).stay (λc v hc q=>k c v ?_ q) (λc q=>by rw[iU (jN q hn)];exact q) λc xs q=>by rw[iU (jN q hn)];exact q
   rcases hc with z|z
   ·rw[z];exact aa b u e
   ·exact aa c _ z
end
def pW{h:Heap}{a b:Addr}{q ob:Obj}{ca z:Value}(ha:h.get? a=some q)(hb:h.get? b=some ob)(ea:q.cls=ca)(eb:ob.cls=z)(hc:ca≠z):a≠b:=by
 intro e;subst e;rw[ha]at hb;cases hb;exact hc (ea.symm.trans eb)
noncomputable def Itz(K:Fg_)(a b:Addr):It:=
 ⟨λi H=>∃xs ys x y,SqL K H a xs/\SqL K H b ys/\xs[i]? =some x/\ys[i]? =some y,
   λi H v H'=>∃p x y,H p=none/\v=.ref p/\H'=upd H p (.tup [x,y])/\(∀xs,SqL K H a xs->xs[i]? =some x)/\∀ys,SqL K H b ys->ys[i]? =some y,
   λi H=>∃xs ys,SqL K H a xs/\SqL K H b ys/\(xs.length<=i\/ys.length<=i)⟩
def Hv{h:Heap}{z TI TO i1 i2 a b:Addr}{f0 u v:Value}{xs ys:Array Value}{j1 j2:Nat}(ac:TI≠TO)(ab:i1≠i2)(hz:IsZip h z TI TO f0)(aa:IsPair h TI (.ref i1) (.ref i2))(q:IsPair h TO u v)
  (h1:h.IsListIter i1 a j1) (h2:h.IsListIter i2 b j2) (p1:h.IsList a xs) (p2:h.IsList b ys):ZipApart z TI TO i1 i2 a b:=by
 obtain⟨o1,e1,c1,_⟩:=h1;obtain⟨o2,e2,c2,_⟩:=h2;obtain⟨l1,f1,d1,_⟩:=p1;obtain⟨l2,f2,d2,_⟩:=p2
 exact ⟨pW aa hz rfl rfl (by simp),pW q hz rfl rfl (by simp),pW e1 hz c1 rfl (by simp),pW e2 hz c2 rfl (by simp),ac,pW aa e1 rfl c1 (by simp),pW aa e2 rfl c2 (by simp),pW q e1 rfl c1 (by simp),pW q e2 rfl c2 (by simp),ab,
  pW f1 hz d1 rfl (by simp),pW f1 q d1 rfl (by simp),pW f1 e1 d1 c1 (by simp),pW f1 e2 d1 c2 (by simp),pW f2 hz d2 rfl (by simp),pW f2 q d2 rfl (by simp),pW f2 e1 d2 c1 (by simp),pW f2 e2 d2 c2 (by simp)⟩
def ZS{P:Program}{w:World}{K:Fg_}{elts:List Expr}{x1:Nat}{pos:Pos}(a b z TI TO i1 i2:Addr)(al:TI≠TO)(ag:i1≠i2):
  Turn P w K (.Tuple elts x1 pos) (Itz K a b) [z,TI,TO,i1,i2] z (λi h=>IsZip h z TI TO .none/\IsPair h TI (.ref i1) (.ref i2)/\(∃u v,IsPair h TO u v)/\h.IsListIter i1 a i/\h.IsListIter i2 b i) where
 mem:=by simp
 obj:=λi h st c hb=>by
  obtain⟨hz,aa,⟨u,v,ab⟩,⟨o1,e1,c1,d1⟩,⟨o2,e2,c2,d2⟩⟩:=st;simp only[zu,zn,or_false]at hb;rcases hb with rfl|rfl|rfl|rfl|rfl
  ·exact⟨_,hz,λv z=>by cases z⟩
  ·exact⟨_,aa,λv z=>by cases z⟩
  ·exact⟨_,ab,λv z=>by cases z⟩
  ·exact⟨_,e1,λv z=>by rw[d1]at z;cases z⟩
  ·exact⟨_,e2,λv z=>by rw[d2]at z;cases z⟩
 keep:=λi h h' st k=>by
  obtain⟨hz,aa,⟨u,v,ab⟩,h1,h2⟩:=st;exact⟨k _ (by simp) _ hz,k _ (by simp) _ aa,⟨u,v,k _ (by simp) _ ab⟩,h1.at λo e=>k _ (by simp) o e,h2.at λo e=>k _ (by simp) o e⟩
 item:=by
  intro X hP hw hK hc i pins s σ H E I hf st hg;subst hP hw hK;obtain⟨xs,ys,x,y,ac,ad,hx,hy⟩:=hg;obtain⟨ai,af,p1,_⟩:=I.list ac;obtain⟨aj,ae,p2,_⟩:=I.list ad;obtain⟨u1,ap,an⟩:=af.get hx;obtain⟨u2,am,ao⟩:=ae.get hy;obtain⟨hz,aa,⟨ua,ub,ab⟩,h1,h2⟩:=st;have D:=Hv al ag hz aa ab h1 h2 p1.isList p2.isList;refine wpAny_pyNext_zip_item D hz aa ab h1 h2 p1.isList p2.isList (x:=u1) (y:=u2) (by simpa using ap) (by simpa using am) λh' a1 a2 a3 a4 a5 a6 a7=>?_;refine⟨_,rfl,wpAny_letOwnedTupleGo_zip (s:={s with heap:=h'}) a1 λah b1 b2=>?_⟩;have nz:s.heap.objs.size≠z:=yC (zr hz)
  have k:∀c o,c∉[z,TI,TO,i1,i2]->s.heap.get? c=some o->ah.get? c=some o:=λc o hc e=>by
   simp only[zu,zn,or_false,not_or]at hc;exact(b2.2 c hc.1).trans (a7 c o hc.1 hc.2.2.1 hc.2.2.2.1 hc.2.2.2.2 e)
  have ak:ah.get? s.heap.objs.size=some {cls:=.type "tuple",data:=.seq #[u1,u2]}:=(b2.2 _ nz).trans a5
  refine ⟨.ref s.heap.objs.size,upd H s.heap.objs.size (.tup [x,y]),I.turnedT (t':=s.toks) hf (zg _) k ⟨by rw[zq];simp,[u1,u2],.cons an (.cons ao .nil),_,ak,rfl,_,rfl⟩,rfl,
   ⟨_,x,y,I.hok.fresh (zg _),rfl,rfl,λar q=>by rw[I.list_inj q ac];exact hx,λaq q=>by rw[I.list_inj q ad];exact hy⟩,?_,λc hb=>?_⟩
  ·exact⟨b1,(b2.2 _ D.TIz).trans (a7 _ _ D.TIz D.TITO D.TIi1 D.TIi2 aa),⟨_,_,(b2.2 _ D.TOz).trans a2⟩,a3.at λo e=>(b2.2 _ D.i1z).trans e,a4.at λo e=>(b2.2 _ D.i2z).trans e⟩
  ·obtain ⟨o,e⟩:∃o,s.heap.get? c=some o:=by
    simp only[zu,zn,or_false]at hb;rcases hb with rfl|rfl|rfl|rfl|rfl
    ·exact⟨_,hz⟩
    ·exact⟨_,aa⟩
    ·exact⟨_,ab⟩
    ·obtain⟨o,e,_⟩:=h1;exact⟨o,e⟩
    ·obtain⟨o,e,_⟩:=h2;exact⟨o,e⟩
   rw[iU (zD (zr e))];exact(hf c hb).1
 done:=by
  intro X hP hw hK hc i pins s σ H E I hf st hg;subst hP hw hK;obtain⟨xs,ys,ac,ad,hx⟩:=hg;obtain⟨ai,af,p1,_⟩:=I.list ac;obtain⟨aj,ae,p2,_⟩:=I.list ad;obtain⟨hz,aa,⟨ua,ub,ab⟩,h1,h2⟩:=st;have D:=Hv al ag hz aa ab h1 h2 p1.isList p2.isList;have l1:=af.length;have l2:=ae.length;refine wpAny_pyNext_zip_end (I.ok.hd hc) D hz aa ab h1 h2 p1.isList p2.isList (hx.elim (λh=> .inl (by simp;omega)) λh=> .inr (by simp;omega)) λh' k=>⟨rfl,I.turnedN (t':=s.toks) hf λc o hc e=>?_⟩;simp only[zu,zn,or_false,not_or]at hc;exact k c o hc.1 hc.2.2.1 hc.2.2.2.1 hc.2.2.2.2 e
 self:=λ_ _ _ _ _ st h=>wpAny_pyIter_zip st.1 h
noncomputable def Ite(K:Fg_)(a:Addr):It:=
 ⟨λi H=>∃xs x,SqL K H a xs/\xs[i]? =some x,
   λi H v H'=>∃p x,H p=none/\v=.ref p/\H'=upd H p (.tup [.int i,x])/\∀xs,SqL K H a xs->xs[i]? =some x,
   λi H=>∃xs,SqL K H a xs/\xs.length<=i⟩
def YF{P:Program}{w:World}{K:Fg_}{elts:List Expr}{x1:Nat}{pos:Pos}(a e it:Addr)(ag:e≠it):
  Turn P w K (.Tuple elts x1 pos) (Ite K a) [e,it] e (λi h=>(∃aa,IsEnum h e it i aa)/\h.IsListIter it a i) where
 mem:=by simp
 obj:=λi h st c hb=>by
  obtain⟨⟨aa,he⟩,⟨o1,e1,c1,d1⟩⟩:=st;simp only[zu,zn,or_false]at hb;rcases hb with rfl|rfl
  ·exact⟨_,he,λv z=>by cases z⟩
  ·exact⟨_,e1,λv z=>by rw[d1]at z;cases z⟩
 keep:=λi h h' st k=>by
  obtain⟨⟨aa,he⟩,h1⟩:=st;exact⟨⟨aa,k _ (by simp) _ he⟩,h1.at λo e=>k _ (by simp) o e⟩
 item:=by
  intro X hP hw hK hc i pins s σ H E I hf st hg;subst hP hw hK;obtain⟨xs,x,ab,hx⟩:=hg;obtain⟨ae,ac,p1,_⟩:=I.list ab;obtain⟨u1,ai,ah⟩:=ac.get hx;obtain⟨⟨aa,he⟩,h1⟩:=st;refine wpAny_pyNext_enum_item he h1 p1.isList (x:=u1) (by simpa using ai) ag λh' a1 a2 a3 a4 a5=>?_;refine⟨_,rfl,wpAny_letOwnedTupleGo_enum (s:={s with heap:=h',toks:=s.toks+1}) a1 λad b1 b2=>?_⟩;have ne:s.heap.objs.size≠e:=yC (zr he)
  have k:∀c o,c∉[e,it]->s.heap.get? c=some o->ad.get? c=some o:=λc o hc q=>by
   simp only[zu,zn,or_false,not_or]at hc;exact(b2.2 c hc.1).trans (a5 c o hc.1 hc.2 q)
  have af:ad.get? s.heap.objs.size=some {cls:=.type "tuple",data:=.seq #[.int i s.toks,u1]}:=(b2.2 _ ne).trans a3
  refine ⟨.ref s.heap.objs.size,upd H s.heap.objs.size (.tup [.int i,x]),I.turnedT (t':=s.toks+1) hf (zg _) k ⟨by rw[zq];simp,[.int i s.toks,u1],.cons ⟨_,rfl⟩ (.cons ah .nil),_,af,rfl,_,rfl⟩,rfl,
   ⟨_,x,I.hok.fresh (zg _),rfl,rfl,λaj q=>by rw[I.list_inj q ab];exact hx⟩,⟨⟨u1,by simpa using b1⟩,a2.at λo q=>(b2.2 _ (Ne.symm ag)).trans q⟩,λc hb=>?_⟩
  obtain ⟨o,q⟩:∃o,s.heap.get? c=some o:=by
   simp only[zu,zn,or_false]at hb;rcases hb with rfl|rfl
   ·exact⟨_,he⟩
   ·obtain⟨o,q,_⟩:=h1;exact⟨o,q⟩
  rw[iU (zD (zr q))];exact(hf c hb).1
 done:=by
  intro X hP hw hK hc i pins s σ H E I hf st hg;subst hP hw hK;obtain⟨xs,ab,hx⟩:=hg;obtain⟨ae,ac,p1,_⟩:=I.list ab;obtain⟨⟨aa,he⟩,h1⟩:=st;have l1:=ac.length;refine wpAny_pyNext_enum_end (I.ok.hd hc) he h1 p1.isList (by simp;omega) λh' k=>⟨rfl,I.turnedN (t':=s.toks) hf λc o hc q=>?_⟩;simp only[zu,zn,or_false,not_or]at hc;exact k c o hc.2 q
 self:=λ_ _ _ _ _ st h=>by
  obtain⟨⟨aa,he⟩,_⟩:=st;exact wpAny_pyIter_enum he h
section
variable{X:Cx}{K:Fg_}{ta:TA}{elts:List Expr}{x1:Nat}{tpos:Pos}
noncomputable def amb(K:Fg_)(ta:TA):TI:=λσ H R=>ta σ H λvs H1=>∃a b,vs=[.ref a,.ref b]/\(∃xs,SqL K H1 a xs)/\(∃ys,SqL K H1 b ys)/\R (Itz K a b) H1
noncomputable def akP(K:Fg_)(ta:TA):TI:=λσ H R=>ta σ H λvs H1=>∃a,vs=[.ref a]/\(∃xs,SqL K H1 a xs)/\R (Ite K a) H1
def Lf{a b:Expr}{p pos:Pos}(hg:Gl X "zip") (hm:X.mg "zip" =none) (ha:PA X [a,b] ta) (hs:starEach [a,b] X.env=[(false,eval a X.env),(false,eval b X.env)]:=by rfl) (hs2:starEach [b] X.env=[(false,eval b X.env)]:=by rfl) (hK:X.K=K:=by rfl):
  PI X (.Tuple elts x1 tpos) (.Call (.Name "zip" p) [a,b] [] pos) (amb K ta):=by
 subst hK;intro pins s σ H R I h;refine Call_ (Al I hg hm (by decide+kernel) (PyProof.Rows.callWith_type1 (T:= "zip") (thn (ha pos pins s σ H _ I h) λus z ⟨vs,H1,I1,r1,q1⟩=>?_) (by rw[hs,hs2]) (by rw[hs2];rfl)));obtain⟨l1,l2,e,⟨xs,hx⟩,⟨ys,hy⟩,q⟩:=q1;subst e;obtain⟨u,v,rfl,ru,rv⟩:=vals2 r1;cases ru;cases rv;obtain⟨ab,_,p1,_⟩:=I1.list hx;obtain⟨ac,_,p2,_⟩:=I1.list hy;refine call_zip_2 p1.isList p2.isList λh' g1 g2 g3 g4 g5 g6 k=>?_;have I2:Inv X pins σ H1 {z with heap:=h'}:=I1.kept (t':=z.toks) k;refine wpAny_pyIter_zip (s:={z with heap:=h'}) g1 ⟨_,[z.heap.objs.size+4,z.heap.objs.size+2,z.heap.objs.size+3,z.heap.objs.size,z.heap.objs.size+1],_,_,H1,rfl,I2,ZS l1 l2 _ _ _ _ _ (show((z.heap.objs.size:Nat)+2≠z.heap.objs.size+3) by omega) (show((z.heap.objs.size:Nat)≠z.heap.objs.size+1) by omega),⟨g1,g2,⟨_,_,g3⟩,g4,g5⟩,λc hc=>?_,q⟩
 have hc':z.heap.objs.size<=c:=by
  simp only[zu,zn,or_false]at hc
  have aa:∃k:Nat,c=z.heap.objs.size+k:=by
   rcases hc with rfl|rfl|rfl|rfl|rfl
   ·exact⟨4,rfl⟩
   ·exact⟨2,rfl⟩
   ·exact⟨3,rfl⟩
   ·exact⟨0,rfl⟩
   ·exact⟨1,rfl⟩
  obtain⟨k,rfl⟩:=aa;exact yy _ k
 exact I1.fpOk hc' (I1.hok.fresh hc')
def aiL{a:Expr}{p pos:Pos}(hg:Gl X "enumerate") (hm:X.mg "enumerate" =none) (ha:PA X [a] ta) (hs:starEach [a] X.env=[(false,eval a X.env)]:=by rfl) (hK:X.K=K:=by rfl):
  PI X (.Tuple elts x1 tpos) (.Call (.Name "enumerate" p) [a] [] pos) (akP K ta):=by
 subst hK;intro pins s σ H R I h;refine Call_ (Al I hg hm (by decide+kernel) (PyProof.Rows.callWith_type1 (T:= "enumerate") (thn (ha pos pins s σ H _ I h) λus z ⟨vs,H1,I1,r1,q1⟩=>?_) (by rw[hs];rfl) rfl));obtain⟨l1,e,⟨xs,hx⟩,q⟩:=q1;subst e;obtain⟨u,rfl,ru⟩:=vals1 r1;cases ru;obtain⟨ab,_,p1,_⟩:=I1.list hx;refine call_enumerate_list p1.isList λh' g1 g2 g3 k=>?_;have I2:Inv X pins σ H1 {z with heap:=h'}:=I1.kept (t':=z.toks) k;refine wpAny_pyIter_enum (s:={z with heap:=h'}) g1 ⟨_,[z.heap.objs.size+1,z.heap.objs.size],_,_,H1,rfl,I2,YF l1 _ _ (show((z.heap.objs.size:Nat)+1≠z.heap.objs.size) by omega),⟨⟨_,g1⟩,g2⟩,λc hc=>?_,q⟩
 have hc':z.heap.objs.size<=c:=by
  simp only[zu,zn,or_false]at hc
  have aa:∃k:Nat,c=z.heap.objs.size+k:=by
   rcases hc with rfl|rfl
   ·exact⟨1,rfl⟩
   ·exact⟨0,rfl⟩
  obtain⟨k,rfl⟩:=aa;exact yy _ k
 exact I1.fpOk hc' (I1.hok.fresh hc')
variable{σ:St}{H:Hp}{R:It->Hp->Prop}{g:TG}{tb:TS}{D:Ends}{a b:Addr}{xs ys:List V}
def ap_iZip:amb K ta σ H R=ta σ H λvs H1=>∃a b,vs=[.ref a,.ref b]/\(∃xs,SqL K H1 a xs)/\(∃ys,SqL K H1 b ys)/\R (Itz K a b) H1:=rfl
def ap_iEnum:akP K ta σ H R=ta σ H λvs H1=>∃a,vs=[.ref a]/\(∃xs,SqL K H1 a xs)/\R (Ite K a) H1:=rfl
def Gg.zip(q:Nat->St->Hp->Prop)(aa:xs.length=ys.length)(h0:q 0 σ H)(hl:∀i σ H,i<=xs.length->q i σ H->SqL K H a xs/\SqL K H b ys)
  (hs:∀i x y σ H p,xs[i]? =some x->ys[i]? =some y->q i σ H->H p=none->g (.ref p) σ (upd H p (.tup [x,y])) λσ2 H2=>tb {D with nx:=q (i+1),ct:=q (i+1),bk:=D.nx} σ2 H2) (hd:∀σ H,q xs.length σ H->D.nx σ H):Gg (Itz K a b) g tb D σ H:=by
 refine⟨λi m σ H=>m=xs.length - i/\i<=xs.length/\q i σ H,⟨xs.length,by simp,zJ _,h0⟩,?_⟩;rintro i m σ H ⟨rfl,hi,p⟩;obtain⟨q1,q2⟩:=hl i σ H hi p;by_cases z:i<xs.length
 ·refine .inr ⟨⟨xs,ys,xs[i],ys[i],q1,q2,by simp[z],by simp[aa▸z]⟩,q (i+1),λσ' H' p'=>⟨xs.length - (i+1),by omega,rfl,z,p'⟩,λv H' y=>?_⟩
  obtain⟨pp,x,y,hp,rfl,rfl,e1,e2⟩:=y;exact hs i x y σ _ pp (e1 xs q1) (e2 ys q2) p hp
 ·have e:i=xs.length:=by omega
  subst e;exact .inl ⟨⟨xs,ys,q1,q2,.inl (zg _)⟩,hd σ H p⟩
end
end L2
namespace L2
open PySem PySem.Spec PyProof.Rows
noncomputable def DK(h h':Heap):Prop:=∀b o,h.get? b=some o->∃o',h'.get? b=some o'/\o'.dict=o.dict
theorem DK.trans{h h1 h2:Heap}(a:DK h h1)(b:DK h1 h2):DK h h2:=λc o e=>by
 obtain⟨o1,z,d1⟩:=a c o e;obtain⟨o2,q,d2⟩:=b c o1 z;exact⟨o2,q,d2.trans d1⟩
structure KD{α:Type}(t:Sem α):Prop where
 out:∀(M:Model)(Γ:PySem.Ctx)(P:α->Pos->Shared->Prop)(E:Value->Pos->Shared->Prop)(p:Pos)(s:Shared),Sem.wp M Γ t P E p s->Sem.wp M Γ t (λa p' s'=>P a p' s'/\DK s.heap s'.heap) E p s
end L2
namespace L2
open PySem PySem.Spec PyProof.Rows
structure amy(K:Fg_)(C:Addr):Prop where
 ex:PySem.W.excIn K C [.type "ValueError",.type "Exception",.type "BaseException",.type "object"] "ValueError.__new__" =true
end L2
namespace L2
open PySem PySem.Spec PyProof.Rows
section
variable{prog:Program}{w:World}{A:Around}{E:Value->Shared->Prop}{h:Heap}{g:Array GenState}{d:Drawn}{t:Nat}{os:OsState}{a:Addr}{o:Obj}
 {nm q:Str} {C N:Addr} {bs bm:List Value} {hdct:Bool} {sn:List Str} {sub:List Value} {ab:Bool} {col:Option Bool} {dd:Option Addr} {k0 k1 k2 k3 k5:Option Value} {newId:String} {K:Fg_}
structure amz(K:Fg_)(C:Addr):Prop where
 cl:PySem.W.findIn K (.ref C) "__class__" =some (some (.builtin "object.__class__"))
 ga:PySem.W.findIn K (.ref C) "__getattribute__" =some (some (.builtin "BaseException.__getattribute__"))
 gh:PySem.W.findIn K (.ref C) "__getattr__" =some none
end
end L2
namespace L2
open PySem PySem.Spec PyProof.Rows
abbrev TX:=St->Hp->VK->XK->Prop
end L2
namespace L2
open PySem PySem.Spec PyProof.Rows
section
variable{κ:Type} [DecidableEq κ]
noncomputable def pG(kvs:List (κ×V))(k:κ):Option V:=(kvs.find? λkv=>decide (kv.1=k)).map (·.2)
noncomputable def putK(kvs:List (κ×V))(k:κ)(v:V):List (κ×V):=
 if(kvs.any λkv=>decide (kv.1=k))=true then kvs.map (λkv=>if kv.1=k then(kv.1,v)else kv)else kvs++[(k,v)]
noncomputable def Rh(kvs:List (κ×V))(k:κ):List (κ×V):=kvs.filter λkv=>decide (kv.1≠k)
def lN{p:κ×V}{r:List (κ×V)}{k:κ}(e:p.1=k):pG (p::r) k=some p.2:=by simp[pG,yR,e]
def lE{p:κ×V}{r:List (κ×V)}{k:κ}(e:¬p.1=k):pG (p::r) k=pG r k:=by simp[pG,yR,e]
theorem oY(k:κ):∀kvs:List (κ×V),(kvs.any λq=>decide (q.1=k))=(pG kvs k).isSome
 |[]=>rfl
 |p::r=>by
  rw[List.any_cons];by_cases e:p.1=k
  ·simp only[lN e,zE e,Bool.true_or,Option.isSome_some]
  ·rw[lE e,zI e,Bool.false_or];exact oY k r
theorem Uv(k j:κ)(y:V):∀kvs:List (κ×V),pG (kvs.map λq=>if q.1=k then(q.1,y)else q) j=(pG kvs j).map λx=>if j=k then y else x
 |[]=>rfl
 |p::r=>by
  have ih:=Uv k j y r;rw[zl];by_cases h:p.1=k
  ·rw[zo h]
   by_cases e:p.1=j
   ·rw[lN (p:=(p.1,y)) e,lN e,zzG,zo (e.symm.trans h)]
   ·rw[lE (p:=(p.1,y)) e,lE e,ih]
  ·rw[ze h]
   by_cases e:p.1=j
   ·rw[lN (p:=p) e,lN e,zzG,ze (λz=>h (e.trans z))]
   ·rw[lE (p:=p) e,lE e,ih]
theorem Qm(k j:κ)(y:V):∀kvs:List (κ×V),pG kvs k=none->pG (kvs++[(k,y)]) j=if j=k then some y else pG kvs j
 |[],_=>by
  by_cases e:k=j
  ·rw[zo e.symm];exact lN (p:=(k,y)) e
  ·rw[ze (λz=>e z.symm)];exact lE (p:=(k,y)) e
 |p::r,hn=>by
  rw[zzB];have q:¬p.1=k:=λz=>by rw[lN z]at hn;cases hn
  rw[lE q]at hn;have ih:=Qm k j y r hn;by_cases e:p.1=j
  ·rw[lN e,lN e,ze (λz=>q (e.trans z))]
  ·rw[lE e,lE e,ih]
def aac(kvs:List (κ×V))(k j:κ)(y:V):pG (putK kvs k y) j=if j=k then some y else pG kvs j:=by
 unfold putK;by_cases a:(kvs.any λkv=>decide (kv.1=k))=true
 ·rw[zo a,Uv]
  rw[oY]at a;by_cases e:j=k
  ·obtain⟨x,z⟩:=yK.mp a
   rw[zo e,e,z,zzG,zo rfl]
  ·rw[ze e]
   cases pG kvs j with
   |none=>rfl
   |some x=>rw[zzG,ze e]
 ·rw[ze a]
  refine Qm k j y kvs ?_;rw[oY]at a
  cases q:pG kvs k with
  |none=>rfl
  |some x=>rw[q]at a;exact(a rfl).elim
def uH(kvs:List (κ×V))(k:κ)(v:V):(putK kvs k v).length<=kvs.length+1:=by
 unfold putK;split
 ·rw[za];omega
 ·rw[zA,zL,yS];omega
def aax{kvs:List (κ×V)}{k:κ}(v:V)(h:pG kvs k=none):putK kvs k v=kvs++[(k,v)]:=by
 unfold putK;rw[oY,h];exact ze (by decide)
def KQ.isSome_eq{o:Option V}{u:Option Value}(r:KQ o u):o.isSome=u.isSome:=by
 cases o with
 |none=>cases u with
  |none=>rfl
  |some _=>exact(show False from r).elim
 |some _=>cases u with
  |none=>exact(show False from r).elim
  |some _=>rfl
theorem KQ.getD{o:Option V}{u:Option Value}{d:V}{d':Value}(r:KQ o u)(rd:RelV d d'):RelV (o.getD d) (u.getD d'):=by
 cases o with
 |none=>cases u with
  |none=>exact rd
  |some _=>exact(show False from r).elim
 |some _=>cases u with
  |none=>exact(show False from r).elim
  |some _=>exact r
def KV.val{kvs:List (κ×V)}{vs:List (κ×Value)}(r:KV kvs vs)(k:κ):KQ (pG kvs k) (valueAt vs k):=by
 unfold KV at r
 induction r with
 |nil=>exact True.intro
 | @cons p q ps qs h t ih=>
  obtain⟨h1,h2⟩:=h;by_cases e:p.1=k
  ·have e':q.1=k:=h1.symm.trans e
   have b:valueAt (q::qs) k=some q.2:=by simp[valueAt,yR,e']
   rw[lN e,b];exact h2
  ·have e':¬q.1=k:=λz=>e (h1.trans z)
   have b:valueAt (q::qs) k=valueAt qs k:=by simp[valueAt,yR,e']
   rw[lE e,b];exact ih
theorem KV.any{kvs:List (κ×V)}{vs:List (κ×Value)}(r:KV kvs vs)(k:κ):(kvs.any λq=>decide (q.1=k))=vs.any λq=>decide (q.1=k):=by
 unfold KV at r
 induction r with
 |nil=>rfl
 |cons h t ih=>rw[List.any_cons,List.any_cons,ih,h.1]
def KV.repl{kvs:List (κ×V)}{vs:List (κ×Value)}(r:KV kvs vs)(k:κ){y:V}{u:Value}(ry:RelV y u):
  KV (kvs.map λkv=>if kv.1=k then(kv.1,y)else kv) (vs.map λkv=>if kv.1=k then(kv.1,u)else kv):=by
 unfold KV at r⊢
 induction r with
 |nil=>exact .nil
 | @cons p q ps qs h t ih=>
  rw[zl,zl];refine .cons ?_ ih;obtain⟨h1,h2⟩:=h;by_cases e:p.1=k
  ·rw[zo e,zo (h1.symm.trans e)];exact⟨h1,ry⟩
  ·rw[ze e,ze (λz=>e (h1.trans z))];exact⟨h1,h2⟩
def KV.put{kvs:List (κ×V)}{vs:List (κ×Value)}(r:KV kvs vs)(k:κ){y:V}{u:Value}(q:RelV y u):KV (putK kvs k y) (stored vs k u):=by
 unfold putK stored;rw[r.any k];by_cases e:(vs.any λz=>decide (z.1=k))=true
 ·rw[zo e,zo e];exact r.repl k q
 ·rw[ze e,ze e];exact Paired.snoc r ⟨rfl,q⟩
def KV.drop{kvs:List (κ×V)}{vs:List (κ×Value)}(r:KV kvs vs)(k:κ):KV (Rh kvs k) (without vs k):=by
 unfold KV at r⊢;unfold Rh without
 induction r with
 |nil=>exact .nil
 | @cons p q ps qs h t ih=>
  obtain⟨h1,h2⟩:=h;rw[zz2,zz2];by_cases e:p.1=k
  ·have a:¬decide (p.1≠k)=true:=by simp[e]
   have b:¬decide (q.1≠k)=true:=by simp[h1.symm.trans e]
   rw[ze a,ze b];exact ih
  ·have e':¬q.1=k:=λz=>e (h1.trans z)
   have a:decide (p.1≠k)=true:=by simp[e]
   have b:decide (q.1≠k)=true:=by simp[e']
   rw[zo a,zo b];exact .cons ⟨h1,h2⟩ ih
theorem KV.length{kvs:List (κ×V)}{vs:List (κ×Value)}(r:KV kvs vs):kvs.length=vs.length:=z3 r
def aaw(kvs:List (κ×V))(k:κ):(Rh kvs k).length<=kvs.length:=yk _ _
end
def MJ{P:Program}{w:World}{k:Key}{u:Value}(r:RelV (kV k) u):(jM P w).is k u=true:=by
 cases k with
 |inl i=>obtain⟨t,e⟩:=(show∃t,u=Value.int i t from r);subst e;exact RK P w i t
 |inr x=>obtain⟨t,e⟩:=(show∃t,u=Value.str x t from r);subst e;exact Sq P w x t
theorem QM{P:Program}{w:World}:∀{ks:List Key}{us:List Value},Vals (ks.map kV) us->ItemsAre (jM P w) ks us
 |[],_,r=>by rw[zza]at r;cases r;exact .nil
 |k::ks,_,r=>by
  rw[zl]at r
  cases r with
  |cons h t=>exact .cons (MJ h) (QM t)
abbrev KT(H:Hp):List (List Key×V)->List (List Key×Addr×Value)->Prop:=Paired λp q=>p.1=q.1/\H q.2.1=some (.tup (p.1.map kV))/\RelV p.2 q.2.2
def KT.val{H:Hp}{kvs:List (List Key×V)}{xs:List (List Key×Addr×Value)}(r:KT H kvs xs)(k:List Key):KQ (pG kvs k) ((atKey xs k).map (·.2)):=by
 induction r with
 |nil=>exact True.intro
 | @cons p q ps qs h t ih=>
  obtain⟨h1,_,h2⟩:=h;by_cases e:p.1=k
  ·have e':q.1=k:=h1.symm.trans e
   have b:atKey (q::qs) k=some q.2:=by simp[atKey,yR,e']
   rw[lN e,b];exact h2
  ·have e':¬q.1=k:=λz=>e (h1.trans z)
   have b:atKey (q::qs) k=atKey qs k:=by simp[atKey,yR,e']
   rw[lE e,b];exact ih
def KT.repl{H:Hp}{kvs:List (List Key×V)}{xs:List (List Key×Addr×Value)}(r:KT H kvs xs)(k:List Key){y:V}{u:Value}(ry:RelV y u):
  KT H (kvs.map λkv=>if kv.1=k then(kv.1,y)else kv) (xs.map (putAt k u)):=by
 induction r with
 |nil=>exact .nil
 | @cons p q ps qs h t ih=>
  rw[zl,zl];refine .cons ?_ ih;obtain⟨h1,h2,h3⟩:=h;unfold putAt;by_cases e:p.1=k
  ·rw[zo e,zo (h1.symm.trans e)];exact⟨h1,h2,ry⟩
  ·rw[ze e,ze (λz=>e (h1.trans z))];exact⟨h1,h2,h3⟩
def KT.put{H:Hp}{kvs:List (List Key×V)}{xs:List (List Key×Addr×Value)}(r:KT H kvs xs)(k:List Key){b:Addr}{y:V}{u:Value}(hb:H b=some (.tup (k.map kV)))(z:RelV y u):
  KT H (putK kvs k y) (storedH xs k b u):=by
 have e:(kvs.any λkv=>decide (kv.1=k))=(atKey xs k).isSome:=by
  rw[oY,(r.val k).isSome_eq,Option.isSome_map]
 unfold putK storedH;rw[e];by_cases q:(atKey xs k).isSome=true
 ·rw[zo q,zo q];exact r.repl k z
 ·rw[ze q,ze q];exact Paired.snoc r ⟨rfl,hb,z⟩
def KT.keeps{H H':Hp}{kvs:List (List Key×V)}{xs:List (List Key×Addr×Value)}(r:KT H kvs xs)(q:∀b ys,H b=some (.tup ys)->H' b=some (.tup ys)):KT H' kvs xs:=
 Paired.mapP r λ_ _ z=>⟨z.1,q _ _ z.2.1,z.2.2⟩
section
variable{P:Program}{w:World}{H:Hp}{h:Heap}{a:Addr}
def ajJ{u:HO}(ok:HOk P w H h)(e:Rd H a u):mq P w H h a u:=e.ok ok
def MK{kvs:List (Key×V)}(ok:HOk P w H h)(e:Rd H a (.dK kvs)):kvs.length<=sizeLine/\(a==sysModules)=false/\∃vs,KV kvs vs/\h.DictOf (jM P w) a vs:=
 show mq P w H h a (.dK kvs)from ajJ ok e
def Vs{kvs:List (Key×V)}(ok:HOk P w H h)(e:H a=some (.dK kvs)):kvs.length<=sizeLine/\(a==sysModules)=false/\∃vs,KV kvs vs/\h.DictOf (jM P w) a vs:=MK ok (.inl e)
def Ph{ks:List Key}(ok:HOk P w H h)(e:H a=some (.tup (ks.map kV))):(tupleKind (jM P w)).is h ks a:=by
 obtain⟨_,its,r,o,h1,h2,n,q⟩:=(show mq P w H h a (.tup (ks.map kV))from ok a _ e);exact⟨o,its.toArray,n,h1,h2,q,by simpa using QM r⟩
def Vt{kvs:List (List Key×V)}(ok:HOk P w H h)(e:Rd H a (.dT kvs)):kvs.length<=sizeLine/\(a==sysModules)=false/\
  ∃xs,KT H kvs xs/\h.DictOfH (tupleKind (jM P w)) a xs:=by
 obtain⟨z,y,xs,r,o,es,ep,h1,h2,h3,h4,h5⟩:=(show mq P w H h a (.dT kvs)from ajJ ok e);refine⟨z,y,xs,r,o,es,ep,h1,h2,h3,h4,λx hx=>?_,h5⟩
 have aa:∀{l:List (List Key×V)}{m:List (List Key×Addr×Value)},KT H l m->∀x∈m,(tupleKind (jM P w)).is h x.1 x.2.1:=by
  intro l m q
  induction q with
  |nil=>intro x hx;exact nomatch hx
  | @cons p q ps qs hq t ih=>
   intro x hx;rcases zu.mp hx with e|hx
   ·subst e
    exact Ph ok (by rw[<-hq.1];exact hq.2.1)
   ·exact ih x hx
 exact aa r x hx
def alI{kvs:List (List Key×V)}(ok:HOk P w H h)(e:H a=some (.dT kvs)):kvs.length<=sizeLine/\(a==sysModules)=false/\
  ∃xs,KT H kvs xs/\h.DictOfH (tupleKind (jM P w)) a xs:=Vt ok (.inl e)
end
noncomputable def XD(H:Hp)(a:Addr)(y:V)(r:Option V):Prop:=
 (∃kvs k,Rd H a (.dK kvs)/\y=kV k/\r=pG kvs k)\/∃kvs k b,Rd H a (.dT kvs)/\y=.ref b/\H b=some (.tup (k.map kV))/\r=pG kvs k
noncomputable def alh(H:Hp)(a:Addr)(y v:V)(H':Hp):Prop:=
 (∃kvs k,H a=some (.dK kvs)/\y=kV k/\kvs.length<sizeLine/\H'=upd H a (.dK (putK kvs k v)))\/
 ∃kvs k b,H a=some (.dT kvs)/\y=.ref b/\H b=some (.tup (k.map kV))/\kvs.length<sizeLine/\H'=upd H a (.dT (putK kvs k v))
def Ln{H:Hp}{a:Addr}{kvs:List (Key×V)}{k:Key}(e:H a=some (.dK kvs)):XD H a (kV k) (pG kvs k):=.inl ⟨kvs,k,.inl e,rfl,rfl⟩
def FN{H:Hp}{a:Addr}{kvs:List (Key×V)}{k:Key}{v:V}(e:H a=some (.dK kvs))(q:kvs.length<sizeLine):alh H a (kV k) v (upd H a (.dK (putK kvs k v))):=.inl ⟨kvs,k,e,rfl,q,rfl⟩
section
variable{X:Cx}{pins:List (Addr×Obj)}{σ:St}{H:Hp}{s:Shared}{a:Addr}{y v:V}{u r:Value}{o:Option V}{A:Around}{E:Value->Shared->Prop}
def Inv.big(I:Inv X pins σ H s):sysModules<s.heap.objs.size:=by
 have h:mainGlobals<s.heap.objs.size:=(I.mod.glob.keeps I.bk).lt;exact zzK (by decide) h
def Yr{Q:Value->Shared->Prop}(hu:A.units+1<cLine)(I:Inv X pins σ H s)(g:XD H a y (some v))(ry:RelV y u)(h:∀w' s',Inv X pins σ H s'->RelV v w'->Q w' s'):
  wpAny (model X.prog X.w) A (getItem (.ref a) u) Q E s:=by
 rcases g with⟨kvs,k,e,ey,l⟩|⟨kvs,k,b,e,ey,eb,l⟩
 ·subst ey
  obtain⟨z,hd,vs,rel,dd⟩:=MK I.hok e;obtain⟨w',hw,q⟩:=KQ.some_of (v:=v) (o:=valueAt vs k) (by rw[l];exact rel.val k);exact wpAny_getItem_of (MJ ry) dd.mapOf hw (h w' _ (I.tok _) q)
 ·subst ey
  cases (show u=Value.ref b from ry);obtain⟨z,hd,xs,rel,dd⟩:=Vt I.hok e;obtain⟨w',hw,q⟩:=KQ.some_of (v:=v) (o:=(atKey xs k).map (·.2)) (by rw[l];exact rel.val k);obtain⟨p,hp,aa⟩:=zzr.mp hw;refine wpAny_getItem_heap (tupleKind_room_in1 hu) (Ph I.hok eb) dd hp ?_;rw[aa];exact h w' _ (I.tok _) q
def Mi{h':Heap}{t':Nat}{ob:HO}(I:Inv X pins σ H s)(mu:Mut (H a))(hs:Heap.SameBut a s.heap h')(he:∃q,h'.get? a=some q)(aa:mq X.prog X.w (upd H a ob) h' a ob):
  Inv X pins σ (upd H a ob) {s with heap:=h',toks:=t'}:=
 I.write (x:=a) (e:=a) mu (.inl rfl) (λb q hb z=>(hs.2 b hb).trans z) he aa
def Om{P:Program}{w:World}{H':Hp}{h':Heap}{kvs:List (Key×V)}{vs:List (Key×Value)}(z:kvs.length<=sizeLine)(hd:(a==sysModules)=false)(rel:KV kvs vs)(q:h'.DictOf (jM P w) a vs):
  mq P w H' h' a (.dK kvs):=⟨z,hd,vs,rel,q⟩
def WD{H':Hp}{Q:Unit->Shared->Prop}(hu:A.units+1<cLine)(I:Inv X pins σ H s)(g:alh H a y v H')(ry:RelV y u)(rv:RelV v r)(h:∀s',Inv X pins σ H' s'->Q () s'):
  wpAny (model X.prog X.w) A (setItem (.ref a) u r) Q E s:=by
 rcases g with⟨kvs,k,e,ey,l,eH⟩|⟨kvs,k,b,e,ey,eb,l,eH⟩
 ·subst ey eH
  obtain⟨z,hd,vs,rel,dd⟩:=Vs I.hok e;have hz:vs.length<=sizeLine:=by rw[<-rel.length];exact z
  have hl:(putK kvs k v).length<=sizeLine:=by have:=uH kvs k v;omega
  refine wpAny_setItem_pairs (hsz:=hz) (MJ ry) dd λh' aa hs=>h _ ?_;have he:∃q,h'.get? a=some q:=let⟨q,_,_,hq,_⟩:=aa;⟨q,hq⟩
  exact Mi I (by rw[e];exact True.intro) hs he (Om hl hd (rel.put k rv) aa)
 ·subst ey eH
  cases (show u=Value.ref b from ry);obtain⟨z,hd,xs,rel,dd⟩:=alI I.hok e;have hz:xs.length<=sizeLine:=by rw[<-z3 rel];exact z
  have hl:(putK kvs k v).length<=sizeLine:=by have:=uH kvs k v;omega
  refine wpAny_setItem_heap (hsz:=hz) (tupleKind_room_in1 hu) (Ph I.hok eb) dd λh' aa hs=>h _ ?_;obtain⟨q,es,ep,hq,h2,h3,h4,_,h5⟩:=aa;refine Mi I (by rw[e];exact True.intro) hs ⟨q,hq⟩ ⟨hl,hd,_,(rel.put k eb rv).keeps λc ys ec=>?_,q,es,ep,hq,h2,h3,h4,h5⟩;rw[iU (alM ec e (λz=>nomatch z))];exact ec
end
section
variable{X:Cx}{pins:List (Addr×Obj)}{σ:St}{H:Hp}{s:Shared}{a:Addr}{kvs:List (Key×V)}{k:Key}{u:Value}{A:Around}{E:Value->Shared->Prop}
def alD{v:V}{aa:List Value}{Q:Value->Shared->Prop}(I:Inv X pins σ H s)(e:H a=some (.dK kvs))(ry:RelV (kV k) u)(l:pG kvs k=some v)(hm:aa=[]\/∃x,aa=[x])
  (h:∀w' s',Inv X pins σ (upd H a (.dK (Rh kvs k))) s'->RelV v w'->Q w' s'):wpAny (model X.prog X.w) A (call (.builtin "dict.pop") (.ref a::u::aa)) Q E s:=by
 obtain⟨z,hd,vs,rel,dd⟩:=Vs I.hok e;obtain⟨w',hw,ac⟩:=KQ.some_of (v:=v) (o:=valueAt vs k) (by rw[<-l];exact rel.val k)
 have hp:(keyPart u).isSome=true:=by
  cases k with
  |inl i=>obtain⟨t,q⟩:=(show∃t,u=Value.int i t from ry);subst q;rfl
  |inr x=>obtain⟨t,q⟩:=(show∃t,u=Value.str x t from ry);subst q;rfl
 have ha:argsOk "dict.pop" ⟨.ref a::u::aa,[]⟩:=by
  rcases hm with q|⟨x,q⟩
  ·subst q;exact PySem.F.args_dict_pop_2 _ _
  ·subst q;exact PySem.F.args_dict_pop_3 _ _ _
 refine yP zzw dd.typeIs PySem.F.entry_dict_pop ha (meets_dict_pop_there (jM X.prog X.w) a (MJ ry) aa hm hp)
  ⟨vs,w',dd,by rw[<-rel.length];exact z,hw,λh' ab hs=>h w' _ ?_ ac⟩
 have he:∃q,h'.get? a=some q:=let⟨q,_,_,hq,_⟩:=ab;⟨q,hq⟩
 exact Mi I (by rw[e];exact True.intro) hs he (Om (zV (aaw kvs k) z) hd (rel.drop k) ab)
def akF{r:Value}{Q:Value->Shared->Prop}(I:Inv X pins σ H s)(e:H a=some (.dK kvs))(ry:RelV (kV k) u)(l:pG kvs k=none)(h:∀s',Inv X pins σ H s'->Q r s'):
  wpAny (model X.prog X.w) A (call (.builtin "dict.pop") [.ref a,u,r]) Q E s:=by
 obtain⟨z,hd,vs,rel,dd⟩:=Vs I.hok e;have hn:valueAt vs k=none:=KQ.none_of (by rw[<-l];exact rel.val k)
 have hp:(keyPart u).isSome=true:=by
  cases k with
  |inl i=>obtain⟨t,q⟩:=(show∃t,u=Value.int i t from ry);subst q;rfl
  |inr x=>obtain⟨t,q⟩:=(show∃t,u=Value.str x t from ry);subst q;rfl
 exact yP zzw dd.typeIs PySem.F.entry_dict_pop (PySem.F.args_dict_pop_3 _ _ _) (meets_dict_pop_default (jM X.prog X.w) a (MJ ry) hd hp r) ⟨vs,dd,hn,h _ (I.tok _)⟩
end
noncomputable def amc(i:Expr):Prop:=∀ov iv,subscripted i false ov iv=operate [ov,iv] (getItem ov iv)
def ajo{prog:Program}{w:World}{A:Around}{E:Value->Shared->Prop}{s:Shared}{env:Env}{value q:Expr}{pos:Pos}{T id:String}{Q:Value->Shared->Prop}
  (hl:typeLookup (.type T) "__getitem__" =pure (some (.builtin id))) (hs:amc q)
  (h:wpAny (model prog w) A (eval value env) (λo s₁=>wpAny (model prog w) A (eval q env) (λi s₂=>s₂.TypeIs o T/\wpAny (model prog w) A (getItem o i) Q E s₂) E s₁) E s):
  wpAny (model prog w) A (eval (.Subscript value q pos) env) Q E s:=by
 refine Subscript_ (yc h (λo s₁ h₁=>yc h₁ (λi s₂ h₂=>?_) λ_ _ x=>x) λ_ _ x=>x);obtain⟨hT,h₂⟩:=h₂;unfold subscriptTail;refine zc ?_;rw[getitemInPython_of_ne hT.not_modules];refine zc (yyg hT hl ?_)
 have z:wpAny (model prog w) A (subscripted q false o i) (λr s₃=>wpAny (model prog w) A (letTemporaryGo value o r>>=λ_=>pure r) Q E s₃) E s₂:=by
  rw[hs o i];exact wpAny_operating (yc h₂ (λr s₃ h₃=>zc (wpAny_letTemporaryGo (zy h₃))) λ_ _ x=>x)
 first
  |exact zy (zc z)
  |exact zc (zy (zc z))
  |exact zc z
def Rc{X:Cx}{pins:List (Addr×Obj)}{σ:St}{H:Hp}{s:Shared}{a:Addr}{y:V}{o:Option V}(I:Inv X pins σ H s)(g:XD H a y o):s.TypeIs (.ref a) "dict" :=by
 rcases g with⟨kvs,k,e,_,_⟩|⟨kvs,k,b,e,_,_,_⟩
 ·obtain⟨_,_,vs,_,q⟩:=MK I.hok e
  exact q.typeIs
 ·obtain⟨_,_,xs,_,q⟩:=Vt I.hok e
  exact q.typeIs
noncomputable def ale(td ty:TE):TE:=λσ H Q=>td σ H λx H1=>ty σ H1 λy H2=>∃a v,x=.ref a/\XD H2 a y (some v)/\Q v H2
noncomputable def alb(td ty tv:TE):TS:=λD σ H=>tv σ H λv H1=>td σ H1 λx H2=>ty σ H2 λy H3=>∃a H4,x=.ref a/\alh H3 a y v H4/\D.nx σ H4
section
variable{X:Cx}{o i e value:Expr}{pos pos' tpos:Pos}{td ty tv:TE}
def ajc(hu:X.A.units+1<cLine)(ho:PE X o td)(hi:PE X i ty)(hs:amc i):PE X (.Subscript o i pos) (ale td ty):=by
 intro pins s σ H Q I h;refine ajo PySem.F.slot_dict_getitem.lookup hs (thn (ho pins s σ H _ I h) λu s1 ⟨x,H1,I1,rx,q1⟩=>thn (hi pins s1 σ H1 _ I1 q1) λiv s2 ⟨y,H2,z,ry,a,v,ex,g,q2⟩=>?_);subst ex;obtain rfl:u=Value.ref a:=rx;exact⟨Rc z g,Yr hu z g ry λw' s3 I3 q=>⟨v,H2,I3,q,q2⟩⟩
def Be(z:X.A.units+1<cLine)(ho:PE X o td)(hi:PE X i ty)(hv:PE X value tv)(hs:swapsWith value (some (.Subscript o i pos')) pos.line X.env=pure false):
  PS X (.Assign [.Subscript o i pos'] value pos) (alb td ty tv):=by
 intro pins s σ H D I h;refine wpAny_Assign_Subscript (thn (hv pins s σ H _ I h) λr q ⟨v,H1,I1,rv,q1⟩=>thn (ho pins q σ H1 _ I1 q1) λu s2 ⟨x,H2,I2,rx,q2⟩=>thn (hi pins s2 σ H2 _ I2 q2) λiv s3 ⟨y,H3,I3,ry,a,H4,ex,g,q3⟩=>?_) hs;subst ex;obtain rfl:u=Value.ref a:=rx;exact WD z I3 g ry rv λs4 I4=>⟨σ,H4,I4,q3⟩
end
def Sw{P:Program}{w:World}{H:Hp}(h:Heap)(q:sysModules<h.objs.size):mq P w H (h.push {cls:=.type "dict",data:=.dict #[]}) h.objs.size (.dK []):=
 ⟨zJ _,beq_eq_false_iff_ne.mpr (Ne.symm (zD q)),[],.nil,Heap.DictOf.new h⟩
noncomputable def aaW:TE:=λ_ H Q=>∀p,H p=none->Q (.ref p) (upd H p (.dK []))
section
variable{X:Cx}{pos:Pos}
def Sy:PE X (.Dict [] [] pos) aaW:=λpins s σ H Q I h=>
 wpAny_Dict_empty ⟨.ref s.heap.objs.size,_,I.laid (a:=s.heap.objs.size) (o:=.dK []) (t':=s.toks) (λ_ _ q=>zb _ q) (zg _) (Sw s.heap I.big),rfl,h _ (I.hok.fresh (zg _))⟩
end
noncomputable def TF:List (TE×TE)->St->Hp->(List (V×V)->Hp->Prop)->Prop
 |[],_,H,Q=>Q [] H
 |(tk,tv)::r,σ,H,Q=>tk σ H λx H1=>tv σ H1 λy H2=>TF r σ H2 λps H3=>Q ((x,y)::ps) H3
abbrev VV:List (V×V)->List (Value×Value)->Prop:=Paired λp q=>RelV p.1 q.1/\RelV p.2 q.2
noncomputable def PPs(X:Cx)(pos:Pos)(keys:List (Option Expr))(values:List Expr)(trs:List (TE×TE)):Prop:=
 ∀(pins:List (Addr×Obj)) (s:Shared) (σ:St) (H:Hp) (Q:List (V×V)->Hp->Prop),Inv X pins σ H s->TF trs σ H Q->
  wpAny (model X.prog X.w) X.A (evalPairs (pairTrees keys values X.env pos)) (λvs s'=>∃ps H',Inv X pins σ H' s'/\VV ps vs/\Q ps H') X.xe s
def aiN{X:Cx}{pos:Pos}:PPs X pos [] [] []:=λpins s σ H Q I h=>pairTrees_nil_walk ⟨[],H,I,.nil,h⟩
def uQ{X:Cx}{pos:Pos}{k v:Expr}{ks:List (Option Expr)}{vs:List Expr}{tk tv:TE}{q:List (TE×TE)}(hk:PE X k tk)(hv:PE X v tv)(hr:PPs X pos ks vs q):
  PPs X pos (some k::ks) (v::vs) ((tk,tv)::q):=λpins s σ H Q I h=>
 pairTrees_cons_walk (thn (hk pins s σ H _ I h) λu s1 ⟨x,H1,I1,rx,q1⟩=>thn (hv pins s1 σ H1 _ I1 q1) λw2 s2 ⟨y,H2,I2,ry,q2⟩=>
  thn (hr pins s2 σ H2 _ I2 q2) λws s3 ⟨ps,H3,I3,rel,z⟩=>⟨(x,y)::ps,H3,I3,.cons ⟨rx,ry⟩ rel,z⟩)
noncomputable def Lq(kvs more:List (Key×V)):List (Key×V):=more.foldl (λacc kv=>putK acc kv.1 kv.2) kvs
def KV.merge:∀{z:List (Key×V)}{rs:List (Key×Value)}{kvs:List (Key×V)}{vs:List (Key×Value)},KV z rs->KV kvs vs->KV (Lq kvs z) (merged vs rs):=by
 intro z rs kvs vs r;unfold KV at r
 induction r generalizing kvs vs with
 |nil=>intro q;exact q
 | @cons p q ps qs h t ih=>
  intro r0
  have e:KV (putK kvs p.1 p.2) (stored vs q.1 q.2):=by
   have:=r0.put p.1 h.2;rw[<-h.1];exact this
  exact ih e
theorem CK:∀(more kvs:List (Key×V)),(Lq kvs more).length<=kvs.length+more.length
 |[],kvs=>by show kvs.length<=kvs.length+0;omega
 |p::r,kvs=>by
  have h1:=CK r (putK kvs p.1 p.2);have h2:=uH kvs p.1 p.2;show(Lq (putK kvs p.1 p.2) r).length<=_;rw[zL];omega
theorem Li{P:Program}{w:World}:∀{kvs:List (Key×V)}{ws:List (Value×Value)},VV (kvs.map λz=>(kV z.1,z.2)) ws->∃rs,Carries (jM P w) ws rs/\KV kvs rs
 |[],_,r=>by rw[zza]at r;cases r;exact⟨[],True.intro,.nil⟩
 |p::kvs,_,r=>by
  rw[zl]at r
  cases r with
  | @cons a b as bs h t=>
   obtain⟨rs,c,q⟩:=Li (P:=P) (w:=w) t;obtain⟨b1,b2⟩:=b;exact⟨(p.1,b2)::rs,⟨MJ h.1,rfl,c⟩,.cons ⟨rfl,h.2⟩ q⟩
noncomputable def ajO(trs:List (TE×TE)):TE:=λσ H Q=>∀p,H p=none->TF trs σ (upd H p (.dK [])) λps H2=>H2 p=some (.dK [])/\∃kvs:List (Key×V),ps=kvs.map (λkv=>(kV kv.1,kv.2))/\kvs.length<=15/\Q (.ref p) (upd H2 p (.dK (Lq [] kvs)))
def aiz{X:Cx}{pos:Pos}{aa:List (Option Expr)}{ab:List Expr}{ad:List (TE×TE)}(h:PPs X pos aa ab ad)(ac:aa.all (·.isSome)=true)(hl:aa.length=ab.length)(h0:aa≠[])
  (af:aa.length<=15):PE X (.Dict aa ab pos) (ajO ad):=by
 intro pins s σ H Q I q;have hn:=I.hok.fresh (zg s.heap.objs.size);have I1:=I.laid (a:=s.heap.objs.size) (o:=.dK []) (h':=s.heap.push {cls:=.type "dict",data:=.dict #[]}) (t':=s.toks) (λ_ _ q=>zb _ q) (zg _) (Sw s.heap I.big);refine wpAny_Dict_walk (knd:=jM X.prog X.w) ac hl h0 af (thn (h pins _ σ _ _ I1 (q _ hn)) λws s2 ⟨ps,H2,I2,rel,e,kvs,ep,lk,q2⟩=>?_);subst ep;obtain⟨rs,c,rk⟩:=Li (P:=X.prog) (w:=X.w) rel;obtain⟨z,hd,ag,r0,dd⟩:=Vs I2.hok e;cases r0;refine⟨rs,c,dd,λh' ae hs=>⟨.ref s.heap.objs.size,_,?_,rfl,q2⟩⟩
 have hz:(Lq [] kvs).length<=sizeLine:=by
  have h1:=CK kvs [];rw[yS]at h1;rw[zq];omega
 have he:∃q,h'.get? s.heap.objs.size=some q:=let⟨q,_,_,hq,_⟩:=ae;⟨q,hq⟩
 exact Mi I2 (by rw[e];exact True.intro) hs he (Om hz hd (rk.merge .nil) ae)
structure M1(X:Cx)(o:Expr)(m:Str)(apos:Pos)(e:Expr)(cpos:Pos):Prop where
 base:attributeBase o m X.env (eval o X.env)=eval o X.env
 few:((backTo cpos (starEach [e] X.env)).all (λx=>!x.1) && (backToKw cpos (keywordEach [] X.env)).all (λx=>x.1.isSome)
  && decide (([e]:List Expr).length+([]:List Keyword).length+(if([]:List Keyword).isEmpty then 0 else 1)<30))=true
 line:(apos.endLine==cpos.line)=true
 trees:backTo cpos (starEach [e] X.env)=[(false,eval e X.env)]
structure M2(X:Cx)(o:Expr)(m:Str)(apos:Pos)(e f:Expr)(cpos:Pos):Prop where
 base:attributeBase o m X.env (eval o X.env)=eval o X.env
 few:((backTo cpos (starEach [e,f] X.env)).all (λx=>!x.1) && (backToKw cpos (keywordEach [] X.env)).all (λx=>x.1.isSome)
  && decide (([e,f]:List Expr).length+([]:List Keyword).length+(if([]:List Keyword).isEmpty then 0 else 1)<30))=true
 line:(apos.endLine==cpos.line)=true
 trees:backTo cpos (starEach [e,f] X.env)=[(false,eval e X.env),(false,eval f X.env)]
noncomputable def IsD(H:Hp)(a:Addr):Prop:=(∃kvs,Rd H a (.dK kvs))\/∃kvs,Rd H a (.dT kvs)
def Xh{X:Cx}{pins:List (Addr×Obj)}{σ:St}{H:Hp}{s:Shared}{a:Addr}(I:Inv X pins σ H s)(d:IsD H a):
  s.TypeIs (.ref a) "dict" /\(∀b,Value.ref a=.ref b->∃z,s.heap.get? b=some z/\z.dict=none)/\(a==sysModules)=false:=by
 rcases d with⟨kvs,e⟩|⟨kvs,e⟩
 ·obtain⟨_,hd,vs,_,dd⟩:=MK I.hok e
  refine⟨dd.typeIs,λb q=>?_,hd⟩;cases q;obtain⟨z,_,_,h1,h2,_⟩:=dd;exact⟨z,h1,h2.2.1⟩
 ·obtain⟨_,hd,xs,_,dd⟩:=Vt I.hok e
  refine⟨dd.typeIs,λb q=>?_,hd⟩;cases q;obtain⟨z,_,_,h1,h2,_⟩:=dd;exact⟨z,h1,h2.2.1⟩
section
variable{X:Cx}{pins:List (Addr×Obj)}{σ:St}{H:Hp}{s:Shared}{a:Addr}{y d:V}{u r:Value}{o:Option V}{A:Around}{E:Value->Shared->Prop}
def ajT{Q:Value->Shared->Prop}(hu:A.units+1<cLine)(I:Inv X pins σ H s)(g:XD H a y o)(ry:RelV y u)(h:∀w' s',Inv X pins σ H s'->RelV (o.getD .non) w'->Q w' s'):
  wpAny (model X.prog X.w) A (call (.builtin "dict.get") [.ref a,u]) Q E s:=by
 rcases g with⟨kvs,k,e,ey,l⟩|⟨kvs,k,b,e,ey,eb,l⟩
 ·subst ey
  obtain⟨z,hd,vs,rel,q⟩:=MK I.hok e;refine yP yv q.typeIs yO (PySem.F.args_dict_get_2 _ _) (meets_dict_get (jM X.prog X.w) a (MJ ry) hd) ⟨_,q.mapOf,h _ _ (I.tok _) ?_⟩;rw[l];exact(rel.val k).getD rfl
 ·subst ey
  cases (show u=Value.ref b from ry);obtain⟨z,hd,xs,rel,q⟩:=Vt I.hok e;refine yP yv q.typeIs yO (PySem.F.args_dict_get_2 _ _) (meetsH_dict_get (tupleKind (jM X.prog X.w)) a b hd) ⟨tupleKind_room_in1 hu,k,xs,Ph I.hok eb,q,h _ _ (I.tok _) ?_⟩;rw[l];exact(rel.val k).getD rfl
def akm{Q:Value->Shared->Prop}(hu:A.units+1<cLine)(I:Inv X pins σ H s)(g:XD H a y o)(ry:RelV y u)(rd:RelV d r)(h:∀w' s',Inv X pins σ H s'->RelV (o.getD d) w'->Q w' s'):
  wpAny (model X.prog X.w) A (call (.builtin "dict.get") [.ref a,u,r]) Q E s:=by
 rcases g with⟨kvs,k,e,ey,l⟩|⟨kvs,k,b,e,ey,eb,l⟩
 ·subst ey
  obtain⟨z,hd,vs,rel,q⟩:=MK I.hok e;refine yP yv q.typeIs yO (PySem.F.args_dict_get_3 _ _ _) (meets_dict_get_default (jM X.prog X.w) a (MJ ry) hd r) ⟨_,q.mapOf,h _ _ (I.tok _) ?_⟩;rw[l];exact(rel.val k).getD rd
 ·subst ey
  cases (show u=Value.ref b from ry);obtain⟨z,hd,xs,rel,q⟩:=Vt I.hok e;refine yP yv q.typeIs yO (PySem.F.args_dict_get_3 _ _ _) (meetsH_dict_get_default (tupleKind (jM X.prog X.w)) a b hd r) ⟨tupleKind_room_in1 hu,k,xs,Ph I.hok eb,q,h _ _ (I.tok _) ?_⟩;rw[l];exact(rel.val k).getD rd
end
noncomputable def aaP(td ty:TE):TE:=λσ H Q=>td σ H λx H1=>∃a,x=.ref a/\IsD H1 a/\ty σ H1 λy H2=>∃o,XD H2 a y o/\Q (o.getD .non) H2
noncomputable def aio(td ty tx:TE):TE:=λσ H Q=>td σ H λx H1=>∃a,x=.ref a/\IsD H1 a/\ty σ H1 λy H2=>tx σ H2 λz H3=>∃o,XD H3 a y o/\Q (o.getD z) H3
noncomputable def aij(td ty tx:TE):TE:=λσ H Q=>td σ H λx H1=>∃a,x=.ref a/\IsD H1 a/\ty σ H1 λy H2=>tx σ H2 λz H3=>∃kvs k,H3 a=some (.dK kvs)/\y=kV k/\
 (∀v,pG kvs k=some v->Q v (upd H3 a (.dK (Rh kvs k))))/\(pG kvs k=none->Q z H3)
section
variable{X:Cx}{o e f:Expr}{apos cpos:Pos}{td ty tx:TE}
def ZW(hu:X.A.units+1<cLine)(ho:PE X o td)(he:PE X e ty)(m:M1 X o "get" apos e cpos):PE X (.Call (.Attribute o "get" apos) [e] [] cpos) (aaP td ty):=by
 intro pins s σ H Q I h;refine zzV m.base m.few m.line yd yv PySem.F.type_dict_get (thn (ho pins s σ H _ I h) λu s1 ⟨x,H1,z,rx,a,ex,d,q1⟩=>?_);subst ex;obtain rfl:u=Value.ref a:=rx;obtain⟨t1,t2,_⟩:=Xh z d;refine⟨t1,t2,?_⟩;rw[m.trees];refine Calls.callWith_builtin rfl (Calls.evalArgs_plain (Calls.spliced_cons (thn (he pins s1 σ H1 _ z q1) λiv s2 ⟨y,H2,I2,ry,ov,g,q2⟩=>Calls.spliced_nil ?_)));exact ajT hu I2 g ry λw' s3 I3 q=>⟨_,H2,I3,q,q2⟩
def pq(hu:X.A.units+1<cLine)(ho:PE X o td)(he:PE X e ty)(hf:PE X f tx)(m:M2 X o "get" apos e f cpos):PE X (.Call (.Attribute o "get" apos) [e,f] [] cpos) (aio td ty tx):=by
 intro pins s σ H Q I h;refine zzV m.base m.few m.line yd yv PySem.F.type_dict_get (thn (ho pins s σ H _ I h) λu s1 ⟨x,H1,I1,rx,a,ex,d,q1⟩=>?_);subst ex;obtain rfl:u=Value.ref a:=rx;obtain⟨t1,t2,_⟩:=Xh I1 d;refine⟨t1,t2,?_⟩;rw[m.trees]
 refine Calls.callWith_builtin rfl (Calls.evalArgs_plain (Calls.spliced_cons (thn (he pins s1 σ H1 _ I1 q1) λiv s2 ⟨y,H2,I2,ry,q2⟩=>
  Calls.spliced_cons (thn (hf pins s2 σ H2 _ I2 q2) λfv s3 ⟨z,H3,I3,rz,ov,g,q3⟩=>Calls.spliced_nil ?_))))
 exact akm hu I3 g ry rz λw' s4 I4 q=>⟨_,H3,I4,q,q3⟩
def aaj(ho:PE X o td)(he:PE X e ty)(hf:PE X f tx)(m:M2 X o "pop" apos e f cpos):PE X (.Call (.Attribute o "pop" apos) [e,f] [] cpos) (aij td ty tx):=by
 intro pins s σ H Q I h;refine zzV m.base m.few m.line yd zzw PySem.F.type_dict_pop (thn (ho pins s σ H _ I h) λu s1 ⟨x,H1,I1,rx,a,ex,d,q1⟩=>?_);subst ex;obtain rfl:u=Value.ref a:=rx;obtain⟨t1,t2,_⟩:=Xh I1 d;refine⟨t1,t2,?_⟩;rw[m.trees]
 refine Calls.callWith_builtin rfl (Calls.evalArgs_plain (Calls.spliced_cons (thn (he pins s1 σ H1 _ I1 q1) λiv s2 ⟨y,H2,I2,ry,q2⟩=>
  Calls.spliced_cons (thn (hf pins s2 σ H2 _ I2 q2) λfv s3 ⟨z,H3,I3,rz,kvs,k,ea,ey,q3,q4⟩=>Calls.spliced_nil ?_))))
 subst ey
 cases l:pG kvs k with
 |some v=>exact alD I3 ea ry l (.inr ⟨fv,rfl⟩) λw' s4 I4 q=>⟨v,_,I4,q,q3 v l⟩
 |none=>exact akF I3 ea ry l λs4 I4=>⟨z,H3,I4,rz,q4 l⟩
end
section
variable{X:Cx}{pins:List (Addr×Obj)}{σ:St}{H:Hp}{s:Shared}{a:Addr}{kvs:List (Key×V)}{A:Around}{E:Value->Shared->Prop}
def Zq{Q:Value->Shared->Prop}(I:Inv X pins σ H s)(e:Rd H a (.dK kvs))(h:∀p s',H p=none->Inv X pins σ (upd H p (.dK kvs)) s'->Q (.ref p) s'):wpAny (model X.prog X.w) A (call (.type "dict") [.ref a]) Q E s:=by
 obtain⟨z,hd,vs,rel,dd⟩:=MK I.hok e;refine kt_call_dict hd dd (by rw[<-rel.length];exact z) λh' aa hs=>?_;refine h _ _ (I.hok.fresh (zg _)) (I.laid (a:=s.heap.objs.size) (o:=.dK kvs) (t':=s.toks) (λb q hq=>?_) (zg _) (Om z (beq_eq_false_iff_ne.mpr (Ne.symm (zD I.big))) rel aa));exact(hs.2 b (zD (zr hq))).trans (zb _ hq)
end
end L2
namespace L2
open PySem PySem.Spec PyProof.Rows
section
variable{κ:Type} [DecidableEq κ]
def Zv{kvs:List (κ×V)}{k:κ}(h:pG kvs k=none):¬k∈kvs.map (·.1):=by
 intro m;obtain⟨p,hp,e⟩:=zi.mp m;have q:(kvs.any λz=>decide (z.1=k))=true:=yz.mpr ⟨p,hp,zE e⟩;rw[oY,h]at q;exact absurd q (by simp)
theorem WR:∀{l:List κ}{k:κ},l.Nodup->¬k∈l->(l++[k]).Nodup
 |[],k,_,_=>by simp
 |a::r,k,h,hk=>by
  obtain⟨h1,h2⟩:=zP.mp h;show(a::(r++[k])).Nodup;refine zP.mpr ⟨λm=>?_,WR h2 λm=>hk (zu.mpr (Or.inr m))⟩;rcases zK.mp m with q|q
  ·exact h1 q
  ·exact hk (zu.mpr (Or.inl (zC.mp q).symm))
def aiE{kvs:List (κ×V)}{k:κ}(v:V)(hn:(kvs.map (·.1)).Nodup)(h:pG kvs k=none):((putK kvs k v).map (·.1)).Nodup:=by
 rw[aax v h,zv];exact WR hn (Zv h)
end
end L2
namespace L2
open PySem PySem.Spec PyProof.Rows
structure Zi(K:Fg_)(x qual:Str)(st:Stmt)(f:Addr)(fd:FuncData)(dvs:List V):Prop where
 ex:∃(oc:Value)(od:Option Addr)(Td:Addr)(kV doc pm:Value)(an:Option Addr)(cdv ct:Value)(osl:Array (Option Value))(ot:Obj)(its:List Value)(nt:Nat),
  fd=PySem.W.fnOf x qual (nP st) (mz st) (iK st) (.ref Td) kV doc pm an cdv ct/\K.lookup f=some ⟨oc,od,.func fd,osl⟩/\PySem.W.codeIn K cdv qual=true/\K.lookup Td=some ot/\ot.data=.seq its.toArray nt/\Vals dvs its
 kp:PySem.W.keepIn K (.ref f)=true
section
variable{P:Program}{w:World}{K:Fg_}{mg:Str->Option Value}{base:Heap}
def Zi.ok{x z:Str}{st:Stmt}{f:Addr}{fd:FuncData}{N ps:List Str}{k:Nat}{sp:Sp}{dvs:List V}(F:Zi K x z st f fd dvs)(S:iT N ps (iK st))(len:∀vs H Q E,sp vs H Q E->vs.length=ps.length)
  (ab:∀(aa:Value)(A:Around)(outer:List Env)(s:Shared)(H:Hp)(vs:List V)(Q:VK)(E:XK),qW k (A.deeper (envOfC z (iK st) s.heap.objs.size f aa))->sp vs H Q E->
   ∃t,PSs (Zw CX0 P w K mg base N z (iK st) f aa A outer s H E).nox (mz st) t/\t {nx:=λ_ H'=>Q .non H',rt:=Q} (start N vs) H):jQ P w K mg base CX0 (k+1) f fd ps sp:=by
 obtain⟨oc,od,Td,kV,ae,pm,an,aa,ct,af,ot,its,nt,rfl,lk,ac,_⟩:=F.ex;refine akk lk ac S len λA outer s H vs Q E hr ad=>?_;obtain⟨t,h,q⟩:=ab aa A outer s H vs Q E hr ad;exact⟨t,h.nox,q⟩
def Fun.okv{x q:Str}{st:Stmt}{f:Addr}{fd:FuncData}{N ps:List Str}{k:Nat}{sp:Sp}(F:Fun K x q st f fd)(S:iT N ps (iK st))
  (z:∀(cdv:Value)(A:Around)(outer:List Env)(s:Shared)(H:Hp)(vs:List V)(Q:VK)(E:XK),qW k (A.deeper (envOfC q (iK st) s.heap.objs.size f cdv))->sp vs H Q E->
   ∃t,PSs (Zw CX0 P w K mg base N q (iK st) f cdv A outer s H E).nox (mz st) t/\t {nx:=λ_ H'=>Q .non H',rt:=Q} (start N vs) H) (len:∀vs H Q E,sp vs H Q E->vs.length=ps.length:=by walk_at "v"):jQ P w K mg base CX0 (k+1) f fd ps sp:=F.ok S len z
def Zi.okv{x q:Str}{st:Stmt}{f:Addr}{fd:FuncData}{N ps:List Str}{k:Nat}{sp:Sp}{dvs:List V}(F:Zi K x q st f fd dvs)(S:iT N ps (iK st))
  (z:∀(cdv:Value)(A:Around)(outer:List Env)(s:Shared)(H:Hp)(vs:List V)(Q:VK)(E:XK),qW k (A.deeper (envOfC q (iK st) s.heap.objs.size f cdv))->sp vs H Q E->
   ∃t,PSs (Zw CX0 P w K mg base N q (iK st) f cdv A outer s H E).nox (mz st) t/\t {nx:=λ_ H'=>Q .non H',rt:=Q} (start N vs) H) (len:∀vs H Q E,sp vs H Q E->vs.length=ps.length:=by walk_at "v"):jQ P w K mg base CX0 (k+1) f fd ps sp:=F.ok S len z
def Zi.binds{x q:Str}{st:Stmt}{f:Addr}{fd:FuncData}{ps:List Str}{dvs:List V}(F:Zi K x q st f fd dvs)(n:Nat)
  (h:∀(Td:Addr)(kV z pm:Value)(an:Option Addr)(aa ct:Value)(its us:List Value),its.length=dvs.length->(us++its.drop n).length=ps.length->
   ∃k,bindArgs (PySem.W.fnOf x q (nP st) (mz st) (iK st) (.ref Td) kV z pm an aa ct) ⟨us,[]⟩=(seqItems? (.ref Td)>>=k)/\k (some its.toArray)=pure (ps.zip (us++its.drop n))):∃ds,Binds K fd ps ds/\Vals (dvs.drop n) ds:=by
 obtain⟨oc,od,Td,kV,z,pm,an,aa,ct,ad,ot,its,nt,rfl,lk,ac,lt,ab,hv⟩:=F.ex;refine⟨its.drop n,λs us X hl=>?_,hv.drop n⟩;obtain⟨k,e1,e2⟩:=h Td kV z pm an aa ct its us hv.length.symm hl;exact PySem.W.binds_K X rfl lt ab e1 e2
def RQ{x q:Str}{st:Stmt}{f Td:Addr}{oc:Value}{od an:Option Addr}{ab:Array (Option Value)}{kV aa pm z ct:Value}{dvs:List V}{ot:Obj}{its:List Value}{nt:Nat}(l:K.lookup f=some ⟨oc,od,.func (PySem.W.fnOf x q (nP st) (mz st) (iK st) (.ref Td) kV aa pm an z ct),ab⟩)
  (c:PySem.W.codeIn K z q=true) (k:PySem.W.keepIn K (.ref f)=true) (lt:K.lookup Td=some ot) (hd:ot.data=.seq its.toArray nt) (hv:Vals dvs its):Zi K x q st f (PySem.W.fnOf x q (nP st) (mz st) (iK st) (.ref Td) kV aa pm an z ct) dvs:=
 ⟨⟨oc,od,Td,kV,aa,pm,an,z,ct,ab,ot,its,nt,rfl,l,c,lt,hd,hv⟩,k⟩
end
structure aiu(K:Fg_)(C:Addr)(m:Str)(f:Addr):Prop where
 ga:PySem.W.specialIn K (.ref C) "__getattribute__" =some (some (.builtin "type.__getattribute__"))
 rd:PySem.W.readsIn K C (.type "type")=true
 fi:PySem.W.findCls K (.ref C) (.type "type") m=some (.val (.ref f))
section
variable{X:Cx}{CX:CXT}{k:Nat}{f C:Addr}{fd:FuncData}{ps ks:List Str}{sp:Sp}{dvs:List V}{ds:List Value}{E:XK}{x m:Str}{p pos apos:Pos}{e o:Expr}{es:List Expr}{ta:TE}{t tk:TA}{kws:List Keyword}
def oX{pl:Sem Bool}(Z:aiu X.K C m f)(F:jQ X.prog X.w X.K X.mg X.base CX k f fd ps sp)(hr:qW k X.A)(hg:Gl X x)(hm:X.mg x=some (.ref C))(hk:PySem.W.keepIn X.K (.ref f)=true)(hb:Binds X.K fd ps ds)(hd:Vals dvs ds)(hx:Av CX X E)
  (ha:PA X (e::es) t) (z:(x==("__debug__" :Str))=false:=by decide) (he:starEach (e::es) X.env=(false,eval e X.env)::starEach es X.env:=by rfl) (hpl:(backTo pos (starEach es X.env)).any (·.1)=false:=by rfl)
  (ht:eval (.Call (.Attribute (.Name x p) m apos) (e::es) [] pos) X.env=(do
   let ov<-eval (.Name x p) X.env
   standAt apos.atName
   let(f,first)<-holding [ov] (getMethod ov m pl)
   callWith pos f first (backTo pos (starEach (e::es) X.env)) (backToKw pos (keywordEach [] X.env))):=by rfl):
  PE X (.Call (.Attribute (.Name x p) m apos) (e::es) [] pos) (aae sp dvs E t):=by
 intro pins s σ H Q I h;refine zzx (pl:=pl) (Ju I hg hm ?_ z) ht;refine PySem.W.method_cls I.kIn Z.ga (PySem.W.cls_value I.kIn Z.rd Z.fi rfl ?_);have I':Inv X pins σ H {s with toks:=s.toks+1}:=I.tok _;refine zzl (first:=[]) (h₀:=X.base) I.ok.mod.kin hk (thn (ha pos pins _ σ H _ I' h) λus s1 ⟨vs,H1,I1,r,q⟩=>⟨I1.kIn,?_⟩) he hpl;exact Us F hr hb hd hx I1 r q
inductive Yb(X:Cx)(CX:CXT)(m:Str):List (Addr×Sp)->Prop
 |nil:Yb X CX m []
 |cons {C f:Addr} {fd:FuncData} {ps:List Str} {sp:Sp} {k:Nat} {r:List (Addr×Sp)} (c:Cls X.K C) (hm:Meth X.K C m f) (F:jQ X.prog X.w X.K X.mg X.base CX k f fd ps sp) (hr:qW k X.A) (hb:Binds X.K fd ps []) (t:Yb X CX m r):Yb X CX m ((C,sp)::r)
def Yb.get{tab:List (Addr×Sp)}(T:Yb X CX m tab){C:Addr}{sp:Sp}(h:(C,sp)∈tab):∃f fd ps k,Cls X.K C/\Meth X.K C m f/\jQ X.prog X.w X.K X.mg X.base CX k f fd ps sp/\qW k X.A/\Binds X.K fd ps []:=by
 induction T with
 |nil=>cases h
 |cons c hm F hr hb t ih=>
  rcases zu.mp h with z|z
  ·cases z
   exact⟨_,_,_,_,c,hm,F,hr,hb⟩
  ·exact ih z
noncomputable def Py(tab:List (Addr×Sp))(m:Str)(E:XK)(ta:TE)(t:TA):TE:=λσ H Q=>ta σ H λx H1=>∃a C dx fs sp,x=.ref a/\H1 a=some (.ins C dx fs)/\(C,sp)∈tab/\fs.lookup m=none/\t σ H1 λvs H2=>sp (x::vs) H2 Q E
def Zo{pl:Sem Bool}{tab:List (Addr×Sp)}(he:PE X o ta)(T:Yb X CX m tab)(hx:Av CX X E)(ha:PA X (e::es) t)
  (aa:starEach (e::es) X.env=(false,eval e X.env)::starEach es X.env:=by rfl) (hpl:(backTo pos (starEach es X.env)).any (·.1)=false:=by rfl)
  (ht:eval (.Call (.Attribute o m apos) (e::es) [] pos) X.env=(do
   let ov<-eval o X.env
   standAt apos.atName
   let(f,first)<-holding [ov] (getMethod ov m pl)
   callWith pos f first (backTo pos (starEach (e::es) X.env)) (backToKw pos (keywordEach [] X.env))):=by rfl):
  PE X (.Call (.Attribute o m apos) (e::es) [] pos) (Py tab m E ta t):=by
 intro pins s σ H Q I h;refine zzx (pl:=pl) (thn (he pins s σ H _ I h) λu s1 ⟨y,H1,I1,rx,a,C,dx,fs,sp,ex,ea,z,l,q⟩=>?_) ht;subst ex;obtain rfl:u=Value.ref a:=rx;obtain⟨f,fd,ps,k,c,hm,F,hr,hb⟩:=T.get z;refine LQ I1 ea c hm l ?_;refine zzl (first:=[.ref a]) (h₀:=X.base) I.ok.mod.kin hm.kp (thn (ha pos pins s1 σ H1 _ I1 q) λus s2 ⟨vs,H2,I2,r,q2⟩=>⟨I2.kIn,?_⟩) aa hpl;exact Us (us:=.ref a::us) (vs:=.ref a::vs) (dvs:=[]) (ds:=[]) F hr hb .nil hx I2 (.cons rfl r) (by rw[z5];exact q2)
def Wm{pl:Sem Bool}{tab:List (Addr×Sp)}(he:PE X o ta)(T:Yb X CX m tab)(hx:Av CX X E)
  (ht:eval (.Call (.Attribute o m apos) [] [] pos) X.env=(do
   let ov<-eval o X.env
   standAt apos.atName
   let(f,first)<-holding [ov] (getMethod ov m pl)
   callWith pos f first (backTo pos (starEach [] X.env)) (backToKw pos (keywordEach [] X.env))):=by rfl):
  PE X (.Call (.Attribute o m apos) [] [] pos) (Py tab m E ta Xo):=by
 intro pins s σ H Q I h;refine zzx (pl:=pl) (thn (he pins s σ H _ I h) λu s1 ⟨y,H1,I1,rx,a,C,dx,fs,sp,ex,ea,z,l,q⟩=>?_) ht;subst ex;obtain rfl:u=Value.ref a:=rx;obtain⟨f,fd,ps,k,c,hm,F,hr,hb⟩:=T.get z;refine LQ I1 ea c hm l ?_;exact PySem.W.callWith_K0 (first:=[.ref a]) I1.kIn hm.kp (Us (us:=[.ref a]) (vs:=[.ref a]) (dvs:=[]) (ds:=[]) F hr hb .nil hx I1 (.cons rfl .nil) q)
variable{g:List Value->List Value->List Value}{gV:List V->List V->List V}
end
theorem xR(f:Str)(v:V):∀{fs:List (Str×V)},(fs.map (·.1)).contains f=false->DP f v fs=fs++[(f,v)]
 |[],_=>rfl
 |(g,x)::r,h=>by
  rw[zl,List.contains_cons]at h;have h1:¬g=f:=λe=>by rw[e]at h;simp at h
  have h2:(r.map (·.1)).contains f=false:=(Bool.or_eq_false_iff.mp h).2;show(if g=f then(g,v)::r else(g,x)::DP f v r)=_;rw[ze h1,xR f v h2];rfl
structure Pg(K:Fg_)(C:Addr):Prop where
 cl:Cls K C
 ha:PySem.W.findIn K (.ref C) "__class__" =some (some (.builtin "object.__class__"))
 hn:PySem.W.specialIn K (.builtin "object.__class__") "__get__" =some (some (.builtin "getset_descriptor.__get__"))
 htk:PySem.W.takesIn K (.builtin "object.__class__")=some true
 hm:PySem.W.mroIn K C (.type "object")=some true
def Pg.of{K:Fg_}{C a dx:Addr}{H:Hp}{fs:List (Str×V)}(z:Pg K C)(h:H a=some (.ins C dx fs)):Kd K H (.ref a) (.ref C):=.ins h z.cl z.ha z.hn z.htk z.hm
end L2
namespace L2
open PySem PySem.Spec PyProof.Rows
noncomputable def signs(x:Str):List V:=x.cps.toList.map λc=>V.str ⟨#[c]⟩
noncomputable def akE(x:Str):It:=⟨λi _=>i<x.cps.size,λi H v H'=>H'=H/\(signs x)[i]? =some v,λi _=>x.cps.size<=i⟩
def aan{P:Program}{w:World}{K:Fg_}{tg:Expr}{ty:String}(ab:ty= "str_ascii_iterator" \/ty= "str_iterator") (it:Addr) (x:Str) (t:Tok):Turn P w K tg (akE x) [it] it (λi h=>h.IsStrIter it ty x t i) where
 mem:=by simp
 obj:=λi h st b hb=>by
  have e:b=it:=by simpa using hb
  subst e;obtain⟨o,e,c,d⟩:=st;exact⟨o,e,λv z=>by rw[d]at z;cases z⟩
 keep:=λi h h' st k=>by
  obtain⟨o,e,r⟩:=st;exact⟨o,k it (by simp) o e,r⟩
 item:=by
  intro X hP hw hK hc i pins s σ H E I hf st hg;subst hP hw hK;have hi:i<x.cps.size:=hg;have hx:x.cps[i]? =some x.cps[i]:=zzc hi
  have hs:(signs x)[i]? =some (.str ⟨#[x.cps[i]]⟩):=by
   unfold signs;rw[zd,yF,hx];rfl
  rcases ab with rfl|rfl
  ·refine wpAny_pyNext_ascii_item st hx λh' aa sb=>?_
   obtain⟨o,e,c,d⟩:=id aa;exact⟨_,rfl,Ro (s:={s with heap:=h',toks:=s.toks+1}) e c d (by decide) ⟨.str ⟨#[x.cps[i]]⟩,H,I.turnedN hf λb o hb q=>(sb.2 b (by simpa using hb)).trans q,⟨_,rfl⟩,⟨rfl,hs⟩,aa,λb hb=>(hf b hb).1⟩⟩
  ·refine wpAny_pyNext_wide_item st hx λh' aa sb=>?_
   obtain⟨o,e,c,d⟩:=id aa;exact⟨_,rfl,Ro (s:={s with heap:=h',toks:=s.toks+1}) e c d (by decide) ⟨.str ⟨#[x.cps[i]]⟩,H,I.turnedN hf λb o hb q=>(sb.2 b (by simpa using hb)).trans q,⟨_,rfl⟩,⟨rfl,hs⟩,aa,λb hb=>(hf b hb).1⟩⟩
 done:=by
  intro X hP hw hK hc i pins s σ H E I hf st hg;subst hP hw hK;have hx:x.cps[i]? =none:=Array.getElem?_eq_none hg;rcases ab with rfl|rfl
  ·exact wpAny_pyNext_ascii_end (I.ok.hd hc) st hx λh' eb=>⟨rfl,I.turnedN (t':=s.toks) hf λb o hb q=>eb b o (by simpa using hb) q⟩
  ·exact wpAny_pyNext_wide_end (I.ok.hd hc) st hx λh' eb=>⟨rfl,I.turnedN (t':=s.toks) hf λb o hb q=>eb b o (by simpa using hb) q⟩
 self:=λ_ _ _ _ _ st h=>by
  rcases ab with rfl|rfl
  ·exact wpAny_pyIter_striter_ascii st h
  ·exact wpAny_pyIter_striter_wide st h
section
variable{X:Cx}{K:Fg_}{tg:Expr}
noncomputable def amg(tl:TE):TI:=λσ H R=>tl σ H λx H1=>∃z,x=.str z/\R (akE z) H1
def ajX{l:Expr}{tl:TE}(hl:PE X l tl):PI X tg l (amg tl):=by
 intro pins s σ H R I h;refine thn (hl pins s σ H _ I h) λv s1 ⟨x,H1,I1,r1,q1⟩=>?_;obtain⟨z,e,q⟩:=q1;subst e;obtain⟨t,rfl⟩:=r1
 have ab:∀(ty:String)(aa:ty= "str_ascii_iterator" \/ty= "str_iterator"),PIE X pins σ tg R (.ref s1.heap.objs.size) {s1 with heap:=s1.heap.push {cls:=.type ty,data:=.fields #[.str z t,.int 0 0]}}:=λty aa=>by
  refine⟨s1.heap.objs.size,[s1.heap.objs.size],_,_,H1,rfl,I1.kept (t':=s1.toks) λb o e=>zb _ e,aan aa _ z t,⟨_,zB _ rfl,rfl,rfl⟩,λb hb=>?_,q⟩;have e:b=s1.heap.objs.size:=by simpa using hb
  subst e;exact I1.fpOk (zg _) (I1.hok.fresh (zg _))
 cases ha:z.cps.all (·<128)
 ·exact wpAny_pyIter_wide ha (ab _ (.inr rfl))
 ·exact wpAny_pyIter_ascii ha (ab _ (.inl rfl))
variable{σ:St}{H:Hp}{R:It->Hp->Prop}{tl:TE}{cap:List (Option Nat)}{g:TG}{tt:TT}{te:TE}{Q:VK}{x:Str}
def ap_iStr:amg tl σ H R=tl σ H λx H1=>∃z,x=.str z/\R (akE z) H1:=rfl
def lu.str(Sσ:St->Prop)(p:V->Bool)(F:V->V)(h0:Sσ (pD σ cap))(hz:x.cps.size<=sizeLine)
  (hs:∀y∈signs x,∀(σ:St)(H5:Hp)(R1:St->VK)(R2:St->Hp->Prop),Sσ σ->Same H H5->(p y=true->∀q H6,Sσ q->Same H5 H6->R1 q (F y) H6)->(p y=false->∀q H6,Sσ q->Same H5 H6->R2 q H6)->
   g y σ H5 λq H4=>tt q H4 λb H5=>if b=true then te q H5 (R1 q)else R2 q H5)
  (k:∀D H',H D=Option.none->Same H H'->H' D=some (.lst (((signs x).filter p).map F))->Q (.ref D) H'):lu cap (akE x) g tt te σ H Q:=λD hD=>by
 have hl:(signs x).length=x.cps.size:=by simp[signs]
 refine xg (xs:=signs x) (akE x) Sσ p F hD h0 (by omega) (λi y H' hy sm=>?_) (λH' sm=>?_) hs λH' s e=>k D H' hD s e
 ·have hi:i<(signs x).length:=(zk.mp hy).1
  exact⟨by show i<x.cps.size;omega,λz H2 hz=>⟨zw (hz.2.symm.trans hy),hz.1⟩⟩
 ·show x.cps.size<=_
  omega
noncomputable def amf:R2:=λx y H Q=>∃i j,x=.str i/\y=.str j/\Q (.bl (!decide (j.cps.toList<i.cps.toList))) H
def Od:OpR X (compareOp .LtE) amf:=by
 intro pins s σ H x y v u Q I z ry h;obtain⟨i,j,rfl,rfl,q⟩:=h;obtain⟨t,rfl⟩:=z;obtain⟨t',rfl⟩:=ry;exact PySem.P.le_str ⟨.bl _,H,I,rfl,q⟩
noncomputable def QZ:List V->Hp->VK->Prop:=λxs H Q=>∃a kvs,xs=[.ref a]/\Rd H a (.dK kvs)/\∀p,H p=none->Q (.ref p) (upd H p (.dK kvs))
def Ih:nT X (.type "dict") QZ:=by
 intro pins s σ H xs us Q I r h;obtain⟨a,kvs,rfl,e,q⟩:=h;obtain⟨u,rfl,z⟩:=vals1 r;cases z;exact Zq I e λp s' hp I'=>⟨.ref p,_,I',rfl,q p hp⟩
def aiV{o value:Expr}{f:Str}{ta tv:TE}{pos pos':Pos}(ha:PE X o ta)(q:PE X value tv)(z:swapsWith value (some (.Attribute o f pos')) pos.line X.env=pure false)(hK:X.K=K:=by rfl):PS X (.Assign [.Attribute o f pos'] value pos) (akv K ta tv f):=hK▸ala ha q z
variable{ta tv ty td tx:TE}{f:Str}{D:Ends}{C:Addr}{tab:List (Addr×Sp)}{m:Str}{E:XK}{t tk:TA}{sp:Sp}{dvs:List V}{gV:List V->List V->List V}
def ap_fldK:akz K ta f σ H Q=ta σ H λx H1=>∃a C dx fs v,x=.ref a/\H1 a=some (.ins C dx fs)/\Cls K C/\jg K C f/\fs.lookup f=some v/\Q v H1:=rfl
def ap_sFld:akv K ta tv f D σ H=tv σ H λy H1=>ta σ H1 λx H2=>∃a C dx fs,x=.ref a/\H2 a=some (.ins C dx fs)/\Cls K C/\jg K C f/\fs.length<1000/\D.nx σ (upd H2 a (.ins C dx (DP f y fs))):=rfl
def ap_methD:Py tab m E ta t σ H Q=ta σ H λx H1=>∃a C dx fs sp,x=.ref a/\H1 a=some (.ins C dx fs)/\(C,sp)∈tab/\fs.lookup m=none/\t σ H1 λvs H2=>sp (x::vs) H2 Q E:=rfl
def ap_make:akR C sp dvs E t σ H Q=t σ H λvs H1=>∀x dx,H1 x=none->H1 dx=none->dx≠x->sp (.ref x::(vs++dvs)) (upd (upd H1 dx (.own x)) x (.ins C dx [])) (λv H2=>v=.non/\Q (.ref x) H2) E:=rfl
def ap_dget2:aio td ty tx σ H Q=td σ H λx H1=>∃a,x=.ref a/\IsD H1 a/\ty σ H1 λy H2=>tx σ H2 λz q=>∃o,XD q a y o/\Q (o.getD z) q:=rfl
def ap_dget:ale td ty σ H Q=td σ H λx H1=>ty σ H1 λy H2=>∃a v,x=.ref a/\XD H2 a y (some v)/\Q v H2:=rfl
def ap_dput:alb td ty tv D σ H=tv σ H λv H1=>td σ H1 λx H2=>ty σ H2 λy z=>∃a q,x=.ref a/\alh z a y v q/\D.nx σ q:=rfl
def ap_dnewK:aaW σ H Q=∀p,H p=none->Q (.ref p) (upd H p (.dK [])):=rfl
def ap_dictOf{p:Addr}:QZ [.ref p] H Q=∃kvs,Rd H p (.dK kvs)/\∀q,H q=none->Q (.ref q) (upd H q (.dK kvs)):=by simp[QZ]
def ap_leS{i j:Str}:amf (.str i) (.str j) H Q=Q (.bl (!decide (j.cps.toList<i.cps.toList))) H:=propext ⟨fun⟨i',j',e1,z,q⟩=>by cases e1;cases z;exact q,λq=>⟨i,j,rfl,rfl,q⟩⟩
def ap_rIsC{y:V}:ajH K [y,.ref C] H Q=∃t k,Kd K H y t/\PySem.W.kitOne K t (.ref C)=some k/\Q (.bl k) H:=propext ⟨fun⟨q,C',t,k,e,r⟩=>by cases e;exact⟨t,k,r⟩,fun⟨t,k,r⟩=>⟨y,C,t,k,rfl,r⟩⟩
def ap_ixT{x y:V}:aik K x y H Q=∃p xs i v,x=.ref p/\y=.int i/\SqT K H p xs/\atI xs i=some v/\Q v H:=rfl
def ap_slT{x:V}{lo hi:Option Int}:alu K x lo hi H Q=∃a xs,x=.ref a/\SqT K H a xs/\¬(HT.sIx xs.length 0 lo=0/\HT.sIx xs.length xs.length hi=xs.length)/\∀p,H p=none->Q (.ref p) (upd H p (.tup (Ox xs lo hi))):=rfl
def ap_lenS{z:Str}:(fun(xs:List V)(H:Hp)(Q:VK)=>∃z,xs=[V.str z]/\z.length<=sizeLine/\Q (.int z.length) H) [.str z] H Q=(z.length<=sizeLine/\Q (.int z.length) H):=propext ⟨fun⟨q,e,r⟩=>by cases e;exact r,λr=>⟨z,rfl,r⟩⟩
end
end L2
namespace L2
open PySem PySem.W PySem.Spec PyProof.Rows
section
variable{α β:Type}{lt:Nat->Nat->Bool}{n:Nat}
noncomputable def Kok(lt:Nat->Nat->Bool)(n:Nat)(R:α->Prop):KasT α->Prop
 |.ret a=>R a
 |.ask i j k=>i<n/\j<n/\Kok lt n R (k (lt i j))
theorem Kok.bind{R:α->Prop}{S:β->Prop}{f:α->KasT β}:∀{t:KasT α},Kok lt n R t->(∀a,R a->Kok lt n S (f a))->Kok lt n S (t.bind f)
 |.ret a,h,k=>k a h
 |.ask i j q,h,k=>⟨h.1,h.2.1,Kok.bind (t:=q (lt i j)) h.2.2 k⟩
theorem Kok.wp{R:α->Prop}{z:Nat->Nat->(Bool->Shared->Prop)->Shared->Prop}{s:Shared}{Q:α->Shared->Prop}(hc:∀i j (C:Bool->Shared->Prop),i<n->j<n->C (lt i j) s->z i j C s):
  ∀{t:KasT α},Kok lt n R t->(∀a,R a->Q a s)->t.kasWp z Q s
 |.ret a,h,k=>k a h
 |.ask i j q,h,k=>hc i j _ h.1 h.2.1 (Kok.wp hc (t:=q (lt i j)) h.2.2 k)
noncomputable def Prm(n:Nat)(p:Array Nat):Prop:=p.toList.Perm (List.range n)
def Prm.ltn{p:Array Nat}(h:Prm n p)(hn:0<n)(i:Nat):p.getD i 0<n:=by
 by_cases hi:i<p.size
 ·have hm:p.getD i 0∈p.toList:=by simp[Array.getD,hi]
  exact yq.mp (h.mem_iff.mp hm)
 ·simp[Array.getD,hi,hn]
def Prm.rev{p:Array Nat}(h:Prm n p)(i j:Nat):Prm n (kas_rev p i j):=(zzM.mp (mirror_perm p i j _)).trans h
def Prm.bub{p:Array Nat}(h:Prm n p)(k d:Nat):Prm n (bubble p k d):=(zzM.mp (bubble_perm p k d)).trans h
theorem Ss{p:Array Nat}(h:Prm n p)(hn:0<n):∀f m,Kok lt n (λ_=>True) (kas_asc p f m)
 |0,_=>trivial
 |f+1,m=>⟨Prm.ltn h hn _,Prm.ltn h hn _,by
  dsimp only;by_cases q:lt (p.getD m 0) (p.getD (m - 1) 0)=true
  ·rw[zo q];trivial
  ·rw[ze q];exact Ss h hn f (m+1)⟩
theorem GR(hn:0<n):∀f {p:Array Nat} m q,Prm n p->Kok lt n (λr:Array Nat×Nat×Nat=>Prm n r.1) (kas_desc f p m q)
 |0,_,_,_,h=>h
 |f+1,p,m,q,h=>⟨Prm.ltn h hn _,Prm.ltn h hn _,by
  dsimp only;by_cases z:lt (p.getD m 0) (p.getD (m - 1) 0)=true
  ·rw[zo z]
   by_cases hq:q>0
   ·rw[zo hq];exact GR hn f _ _ (h.rev _ _)
   ·rw[ze hq];exact GR hn f _ _ h
  ·rw[ze z]
   refine⟨Prm.ltn h hn _,Prm.ltn h hn _,?_⟩;dsimp only;by_cases hd:lt (p.getD (m - 1) 0) (p.getD m 0)=true
   ·rw[zo hd];exact h
   ·rw[ze hd];exact GR hn f _ _ h⟩
def Th{p:Array Nat}(h:Prm n p)(hn:0<n)(m r:Nat):Kok lt n (λr:Nat×Array Nat=>Prm n r.2) (kas_tail3 m r p):=
 Kok.bind (Ss (h.rev _ _) hn _ _) λ_ _=>h.rev 0 m
def TV{p:Array Nat}(h:Prm n p)(hn:0<n)(m r:Nat):Kok lt n (λr:Nat×Array Nat=>Prm n r.2) (kas_descPart m r p):=
 Kok.bind (GR hn _ _ _ h) λa ha=>by
  by_cases q:a.2.2>0
  ·rw[zo q];exact Th (ha.rev _ _) hn _ _
  ·rw[ze q];exact Th ha hn _ _
def Xv{p:Array Nat}(h:Prm n p)(hn:0<n)(r:Nat):Kok lt n (λr:Nat×Array Nat=>Prm n r.2) (kas_count r p):=
 Kok.bind (Ss h hn _ _) λm _=>by
  by_cases h1:(m==r)=true
  ·rw[zo h1];exact h
  ·rw[ze h1]
   by_cases h2:m>1
   ·rw[zo h2]
    refine⟨Prm.ltn h hn _,Prm.ltn h hn _,?_⟩;dsimp only;by_cases q:lt (p.getD 0 0) (p.getD (m - 1) 0)=true
    ·rw[zo q];exact h
    ·rw[ze q];exact TV (h.rev _ _) hn _ _
   ·rw[ze h2];exact TV h hn _ _
theorem Hw{p:Array Nat}(h:Prm n p)(hn:0<n)(k:Nat):∀f l r,Kok lt n (λ_=>True) (kas_place p k f l r)
 |0,_,_=>trivial
 |f+1,l,r=>by
  show Kok lt n _ (if l>=r then _ else _);by_cases h1:l>=r
  ·rw[zo h1];trivial
  ·rw[ze h1]
   refine⟨Prm.ltn h hn _,Prm.ltn h hn _,?_⟩;dsimp only;by_cases q:lt (p.getD k 0) (p.getD ((l+r)/2) 0)=true
   ·rw[zo q];exact Hw h hn k f _ _
   ·rw[ze q];exact Hw h hn k f _ _
theorem Zd(hn:0<n):∀f {p:Array Nat} k,Prm n p->Kok lt n (Prm n) (kas_bin f p k)
 |0,_,_,h=>h
 |f+1,p,k,h=>Kok.bind (Hw h hn k k 0 k) λl _=>Zd hn f _ (h.bub _ _)
def ZL(hn:0<n):Kok lt n (Prm n) (kas_sort n):=
 Kok.bind (Xv (p:=(List.range n).toArray) (by unfold Prm;simp) hn n) λa ha=>by
  by_cases h1:a.1<n
  ·rw[zo h1];exact Zd hn _ _ ha
  ·rw[ze h1];exact ha
end
section
variable{key:Nat->Int}{n:Nat}
noncomputable def Up(key:Nat->Int)(p:Array Nat)(m:Nat):Prop:=∀a b,a<b->b<m->key (p.getD a 0)<key (p.getD b 0)
noncomputable def Dn(key:Nat->Int)(p:Array Nat)(m:Nat):Prop:=∀a b,a<b->b<m->key (p.getD b 0)<key (p.getD a 0)
def uK(p:Array Nat)(k:Nat):p.getD k 0=(p[k]?).getD 0:=by
 by_cases h:k<p.size
 ·simp[Array.getD,h]
 ·simp[Array.getD,h]
theorem Prm.size{p:Array Nat}(h:Prm n p):p.size=n:=by
 have:=h.length_eq
 simpa using this
def Prm.unlike{p:Array Nat}(h:Prm n p)(hk:∀i j,i<n->j<n->key i=key j->i=j){a b:Nat}(ha:a<n)(hb:b<n)(aa:a≠b):key (p.getD a 0)≠key (p.getD b 0):=λe=>by
 have q:=h.size;have hn:0<n:=by omega
 have e1:=hk _ _ (h.ltn hn a) (h.ltn hn b) e;have z:p.toList.Nodup:=h.nodup_iff.mpr List.nodup_range
 have e2:p.toList[a]'(by simpa [q] using ha)=p.toList[b]'(by simpa [q] using hb):=by
  have q1:p.getD a 0=p[a]'(by omega):=by simp[Array.getD,q,ha]
  have q2:p.getD b 0=p[b]'(by omega):=by simp[Array.getD,q,hb]
  rw[q1,q2]at e1
  simpa using e1
 exact aa ((zzZ z).mp e2)
def Xl{p:Array Nat}{i j:Nat}(q:j<=p.size)(k:Nat):(kas_rev p i j).getD k 0=if i<=k/\k<j then p.getD (i+j - 1 - k) 0 else p.getD k 0:=by
 unfold kas_rev;rw[uK,getElem?_mirror_all q];by_cases c:i<=k/\k<j
 ·rw[zo c,zo c,uK]
 ·rw[ze c,ze c,uK]
def YZ{p:Array Nat}{k l:Nat}(hk:k<p.size)(hl:l<=k)(a:Nat):(bubble p k (k - l)).getD a 0=if a=l then p.getD k 0 else if l<a/\a<=k then p.getD (a - 1) 0 else p.getD a 0:=by
 rw[uK,getElem?_bubble hk (k - l) (by omega),show k - (k - l)=l by omega];by_cases q:a=l
 ·rw[zo q,zo q,uK]
 ·rw[ze q,ze q]
  by_cases z:l<a/\a<=k
  ·rw[zo z,zo z,uK]
  ·rw[ze z,ze z,uK]
theorem Kok.mono{α:Type}{lt:Nat->Nat->Bool}{R S:α->Prop}(h:∀a,R a->S a):∀{t:KasT α},Kok lt n R t->Kok lt n S t
 |.ret a,q=>h a q
 |.ask i j k,q=>⟨q.1,q.2.1,Kok.mono h q.2.2⟩
def Up.snoc{p:Array Nat}{m:Nat}(h:Up key p m)(h1:1<=m)(z:key (p.getD (m - 1) 0)<key (p.getD m 0)):Up key p (m+1):=λa b q hb=>by
 by_cases e:b=m
 ·subst e
  by_cases e2:a=b - 1
  ·subst e2;exact z
  ·exact zz8 (h a (b - 1) (by omega) (by omega)) z
 ·exact h a b q (by omega)
def Dn.snoc{p:Array Nat}{m:Nat}(h:Dn key p m)(h1:1<=m)(z:key (p.getD m 0)<key (p.getD (m - 1) 0)):Dn key p (m+1):=λa b q hb=>by
 by_cases e:b=m
 ·subst e
  by_cases e2:a=b - 1
  ·subst e2;exact z
  ·exact zz8 z (h a (b - 1) (by omega) (by omega))
 ·exact h a b q (by omega)
theorem aiT(hk:∀i j,i<n->j<n->key i=key j->i=j){p:Array Nat}(h:Prm n p):∀f m,1<=m->m+f<=n->Up key p m->
  Kok (λi j=>decide (key i<key j)) n (λr=>m<=r/\r<=m+f/\Up key p r/\(r<m+f->key (p.getD r 0)<key (p.getD (r - 1) 0))) (kas_asc p f m)
 |0,m,h1,h2,hu=>⟨zg _,zg _,hu,λz=>absurd z (by omega)⟩
 |f+1,m,h1,h2,hu=>⟨Prm.ltn h (by omega) _,Prm.ltn h (by omega) _,by
  dsimp only;by_cases q:key (p.getD m 0)<key (p.getD (m - 1) 0)
  ·rw[zo (by simpa using q)]
   exact⟨zg _,by omega,hu,λ_=>q⟩
  ·rw[ze (by simpa using q)]
   have aa:=h.unlike hk (show m - 1<n by omega) (show m<n by omega) (by omega);refine Kok.mono (λr hr=>?_) (aiT hk h f (m+1) (by omega) (by omega) (hu.snoc h1 (by omega)));exact⟨by omega,by omega,hr.2.2.1,λz=>hr.2.2.2 (by omega)⟩⟩
theorem aaK(hk:∀i j,i<n->j<n->key i=key j->i=j){p:Array Nat}(h:Prm n p):∀f m,1<=m->m+f<=n->Dn key p m->
  Kok (λi j=>decide (key i<key j)) n (λr:Array Nat×Nat×Nat=>r.1=p/\r.2.2=0/\m<=r.2.1/\r.2.1<=m+f/\Dn key p r.2.1) (kas_desc f p m 0)
 |0,m,h1,h2,hu=>⟨rfl,rfl,zg _,zg _,hu⟩
 |f+1,m,h1,h2,hu=>⟨Prm.ltn h (by omega) _,Prm.ltn h (by omega) _,by
  dsimp only;by_cases z:key (p.getD m 0)<key (p.getD (m - 1) 0)
  ·rw[zo (by simpa using z),ze (by omega)]
   refine Kok.mono (λr q=>?_) (aaK hk h f (m+1) (by omega) (by omega) (hu.snoc h1 z));exact⟨q.1,q.2.1,by omega,by omega,q.2.2.2.2⟩
  ·rw[ze (by simpa using z)]
   have aa:=h.unlike hk (show m - 1<n by omega) (show m<n by omega) (by omega);refine⟨Prm.ltn h (by omega) _,Prm.ltn h (by omega) _,?_⟩;dsimp only;rw[zo (zE (by omega))];exact⟨rfl,rfl,zg _,by show m<=_;omega,hu⟩⟩
def ajL(hk:∀i j,i<n->j<n->key i=key j->i=j){p:Array Nat}(h:Prm n p){m:Nat}(h1:1<=m)(h2:m<=n)(hd:Dn key p m):
  Kok (λi j=>decide (key i<key j)) n (λr:Nat×Array Nat=>Prm n r.2/\1<=r.1/\r.1<=n/\Up key r.2 r.1) (kas_tail3 m n p):=by
 have hs:=h.size
 have q:Up key (kas_rev p 0 m) m:=λa b aa hb=>by
  rw[Xl (by omega),Xl (by omega),zo (by omega),zo (by omega)];exact hd _ _ (by omega) (by omega)
 refine Kok.bind (aiT hk (h.rev 0 m) (n - m) m h1 (by omega) q) λr z=>?_;exact⟨h.rev 0 m,by show 1<=r;omega,by show r<=n;omega,z.2.2.1⟩
def akS(hk:∀i j,i<n->j<n->key i=key j->i=j){p:Array Nat}(h:Prm n p){m:Nat}(h2:m+1<=n)(hd:Dn key p (m+1)):
  Kok (λi j=>decide (key i<key j)) n (λr:Nat×Array Nat=>Prm n r.2/\1<=r.1/\r.1<=n/\Up key r.2 r.1) (kas_descPart m n p):=by
 refine Kok.bind (aaK hk h (n - (m+1)) (m+1) (by omega) (by omega) hd) λr hr=>?_;obtain⟨r1,r2,r3⟩:=r;obtain⟨e1,z,e3,e4,q⟩:=hr;dsimp only at e1 z e3 e4 q⊢;subst e1 z;rw[ze (by omega)];exact ajL hk h (by omega) (by omega) q
def aje(hk:∀i j,i<n->j<n->key i=key j->i=j){p:Array Nat}(h:Prm n p)(hn:1<=n):
  Kok (λi j=>decide (key i<key j)) n (λr:Nat×Array Nat=>Prm n r.2/\1<=r.1/\r.1<=n/\Up key r.2 r.1) (kas_count n p):=by
 refine Kok.bind (aiT hk h (n - 1) 1 (by omega) (by omega) λa b h1 h2=>absurd h1 (by omega)) λm hm=>?_;obtain⟨z,m2,q,m4⟩:=hm;by_cases h1:(m==n)=true
 ·rw[zo h1]
  exact⟨h,z,by show m<=n;omega,q⟩
 ·rw[ze h1]
  have h1:m≠n:=by simpa using h1
  by_cases h2:m>1
  ·rw[zo h2]
   refine⟨Prm.ltn h (by omega) _,Prm.ltn h (by omega) _,?_⟩;dsimp only;have:=q 0 (m - 1) (by omega) (by omega);rw[zo (by simpa using this)];exact⟨h,z,by show m<=n;omega,q⟩
  ·rw[ze h2]
   have e:m=1:=by omega
   subst e
   exact akS hk h (by omega) λa b aa hb=>by
    have:a=0:=by omega
    have:b=1:=by omega
    subst a b;exact m4 (by omega)
theorem Sg{p:Array Nat}(h:Prm n p){k:Nat}(z:k<n)(hu:Up key p k):∀f l r,l<=r->r<=k->r - l<=f->(∀a,a<l->key (p.getD a 0)<=key (p.getD k 0))->(∀a,r<=a->a<k->key (p.getD k 0)<key (p.getD a 0))->
  Kok (λi j=>decide (key i<key j)) n (λl'=>l'<=k/\(∀a,a<l'->key (p.getD a 0)<=key (p.getD k 0))/\(∀a,l'<=a->a<k->key (p.getD k 0)<key (p.getD a 0))) (kas_place p k f l r)
 |0,l,r,h1,h2,h3,ha,hb=>⟨by omega,ha,λa q1 q=>hb a (by omega) q⟩
 |f+1,l,r,h1,h2,h3,ha,hb=>by
  show Kok _ n _ (if l>=r then _ else _);by_cases hc:l>=r
  ·rw[zo hc]
   exact⟨by omega,ha,λa q1 q=>hb a (by omega) q⟩
  ·rw[ze hc]
   refine⟨Prm.ltn h (by omega) _,Prm.ltn h (by omega) _,?_⟩;dsimp only;by_cases hd:key (p.getD k 0)<key (p.getD ((l+r)/2) 0)
   ·rw[zo (by simpa using hd)]
    refine Sg h z hu f _ _ (by omega) (by omega) (by omega) ha λa q1 q=>?_;by_cases e:a=(l+r)/2
    ·rw[e];exact hd
    ·exact zz8 hd (hu _ _ (by omega) q)
   ·rw[ze (by simpa using hd)]
    refine Sg h z hu f _ _ (by omega) (by omega) (by omega) (λa q1=>?_) hb;by_cases e:a=(l+r)/2
    ·rw[e];omega
    ·have:=hu a ((l+r)/2) (by omega) (by omega)
     omega
theorem aku(hk:∀i j,i<n->j<n->key i=key j->i=j):∀f {p:Array Nat} k,Prm n p->k+f=n->Up key p k->Kok (λi j=>decide (key i<key j)) n (λp'=>Prm n p'/\Up key p' n) (kas_bin f p k)
 |0,p,k,h,e,hu=>⟨h,by rwa [<-e]⟩
 |f+1,p,k,h,e,hu=>by
  refine Kok.bind (Sg h (by omega) hu k 0 k (by omega) (by omega) (by omega) (λa q=>absurd q (by omega)) (λa q1 q2=>absurd q2 (by omega))) λl hl=>?_;obtain⟨l1,l2,l3⟩:=hl;have hs:=h.size;refine aku hk f (k+1) (h.bub _ _) (by omega) λa b aa hb=>?_
  have z:∀x,x<l->key (p.getD x 0)<key (p.getD k 0):=λx hx=>by
   have:=l2 x hx;have:=h.unlike hk (show x<n by omega) (show k<n by omega) (by omega);omega
  rw[YZ (by omega) l1,YZ (by omega) l1];by_cases c1:a=l
  ·rw[zo c1,ze (by omega),zo (by omega)]
   exact l3 _ (by omega) (by omega)
  ·rw[ze c1]
   by_cases c2:b=l
   ·rw[ze (by omega),zo c2]
    exact z _ (by omega)
   ·rw[ze c2]
    by_cases c3:l<a
    ·rw[zo (by omega),zo (by omega)]
     exact hu _ _ (by omega) (by omega)
    ·rw[ze (by omega)]
     by_cases c4:l<b
     ·rw[zo (by omega)]
      by_cases c5:b - 1=a
      ·omega
      ·exact hu _ _ (by omega) (by omega)
     ·rw[ze (by omega)]
      exact hu _ _ aa (by omega)
def akK(q:∀i j,i<n->j<n->key i=key j->i=j)(hn:1<=n):Kok (λi j=>decide (key i<key j)) n (λp=>Prm n p/\Up key p n) (kas_sort n):=
 Kok.bind (aje q (p:=(List.range n).toArray) (by unfold Prm;simp) hn) λa ha=>by
  obtain⟨a1,a2,a3,a4⟩:=ha;by_cases h1:a.1<n
  ·rw[zo h1,show max a.1 1=a.1 by omega]
   exact aku q _ _ a1 (by omega) a4
  ·rw[ze h1]
   have e:a.1=n:=by omega
   exact⟨a1,by rwa [e]at a4⟩
end
section
variable{n:Nat}{lt:Nat->Nat->Bool}
theorem Uc{p q:Nat->Bool}:∀{l:List Nat}{i:Nat},i∈l->(∀x∈l,p x=true->q x=true)->p i=false->q i=true->l.countP p<l.countP q
 |[],_,h,_,_,_=>by cases h
 |a::l,i,h,hpq,hp,hq=>by
  rw[List.countP_cons,List.countP_cons];have hm:l.countP p<=l.countP q:=List.countP_mono_left λx z=>hpq x (zp _ z);rcases zu.mp h with rfl|h
  ·rw[hp,hq]
   simp;omega
  ·have ih:=Uc h (λx z=>hpq x (zp _ z)) hp hq
   have:=hpq a zj
   cases aa:p a with
   |true=>rw[this aa];simp;exact ih
   |false=>simp;split<;>omega
theorem Kok.congr{α:Type}{z:Nat->Nat->Bool}{R:α->Prop}(h:∀i j,i<n->j<n->lt i j=z i j):∀{t:KasT α},Kok lt n R t->Kok z n R t
 |.ret a,q=>q
 |.ask i j k,q=>⟨q.1,q.2.1,h i j q.1 q.2.1▸Kok.congr h q.2.2⟩
def ajv(ac:∀i,i<n->lt i i=false)(tr:∀i j k,i<n->j<n->k<n->lt i j=true->lt j k=true->lt i k=true)(ab:∀i j,i<n->j<n->i≠j->lt i j=true\/lt j i=true)(hn:1<=n):
  Kok lt n (λp=>Prm n p/\∀a b,a<b->b<n->lt (p.getD a 0) (p.getD b 0)=true) (kas_sort n):=by
 obtain⟨key,aa⟩:∃key:Nat->Int,∀i,key i=(((List.range n).countP λx=>lt x i:Nat):Int):=⟨_,λ_=>rfl⟩
 have up:∀i j,i<n->j<n->lt i j=true->key i<key j:=λi j hi hj h=>by
  rw[aa,aa];have:=Uc (p:=λx=>lt x i) (q:=λx=>lt x j) (l:=List.range n) (i:=i) (yq.mpr hi) (λx hx ae=>tr x i j (yq.mp hx) hi hj ae h) (ac i hi) h;omega
 have eq:∀i j,i<n->j<n->lt i j=decide (key i<key j):=λi j hi hj=>by
  cases h:lt i j with
  |true=>exact(zE (up i j hi hj h)).symm
  |false=>
   refine(zI λz=>?_).symm;by_cases e:i=j
   ·rw[e]at z;omega
   ·rcases ab i j hi hj e with t|t
    ·rw[h]at t;cases t
    ·have:=up j i hj hi t
     omega
 have hk:∀i j,i<n->j<n->key i=key j->i=j:=λi j hi hj e=>by
  by_cases h:i=j
  ·exact h
  ·rcases ab i j hi hj h with t|t
   ·have:=up i j hi hj t;omega
   ·have:=up j i hj hi t;omega
 refine Kok.congr (lt:=λi j=>decide (key i<key j)) (λi j hi hj=>(eq i j hi hj).symm) (Kok.mono (λp hp=>⟨hp.1,λa b ad hb=>?_⟩) (akK hk hn));rw[eq _ _ (hp.1.ltn (by omega) _) (hp.1.ltn (by omega) _)];exact zE (hp.2 a b ad hb)
end
noncomputable def vP:List Int->List Int->Bool->Bool
 |x::xs,y::ys,f=>if x=y then vP xs ys f else decide (x<y)
 |[],_,f=>f
 |_::_,[],f=>f
theorem RJ:∀a:List Int,vP a a false=false
 |[]=>rfl
 |x::a=>by rw[vP,zo rfl,RJ a]
theorem ain:∀{a b c:List Int},a.length=b.length->b.length=c.length->vP a b false=true->vP b c false=true->vP a c false=true
 |[],_,_,_,_,h,_=>by simp[vP]at h
 |x::a,[],_,h,_,_,_=>by simp at h
 |x::a,y::b,[],_,h,_,_=>by simp at h
 |x::a,y::b,z::c,h1,h2,h,h'=>by
  rw[vP]at h h'⊢;by_cases e1:x=y
  ·subst e1
   rw[zo rfl]at h;by_cases q:x=z
   ·subst q
    rw[zo rfl]at h'⊢;exact ain (by simpa using h1) (by simpa using h2) h h'
   ·rw[ze q]at h'⊢
    exact h'
  ·rw[ze e1]at h
   have h:=z8 h;by_cases q:y=z
   ·subst q
    rw[ze e1];exact zE h
   ·rw[ze q]at h'
    have h':=z8 h';rw[ze (by omega)];exact zE (by omega)
theorem Yi:∀{a b:List Int},a.length=b.length->a≠b->vP a b false=true\/vP b a false=true
 |[],[],_,h=>(h rfl).elim
 |[],y::b,h,_=>by simp at h
 |x::a,[],h,_=>by simp at h
 |x::a,y::b,h,hne=>by
  rw[vP,vP];by_cases e:x=y
  ·subst e
   rw[zo rfl,zo rfl];exact Yi (by simpa using h) λz=>hne (by rw[z])
  ·rw[ze e,ze (Ne.symm e)]
   rcases Int.lt_or_gt_of_ne e with q|q
   ·exact .inl (zE q)
   ·exact .inr (zE q)
section
variable{P:Program}{w:World}{A:Around}{E:Value->Shared->Prop}{s:Shared}
theorem Ti{b f:Bool}{Q:Bool->Shared->Prop}:∀{ms ns:List Int}{xs ys:List Value},Vals (ms.map V.int) xs->Vals (ns.map V.int) ys->∀i,Q (vP ms ns f) s->KatLex P w A b f Q (xs.zip ys) i s
 |[],_,_,_,r,_,i,h=>by
  cases r;exact h
 |m::ms,[],_,_,r,r',i,h=>by
  cases r';rw[List.zip_nil_right];exact h
 |m::ms,n::ns,_,_,r,r',i,h=>by
  rw[zl]at r r'
  cases r with
  |cons a1 a2=>
  cases r' with
  |cons b1 b2=>
  obtain⟨t,rfl⟩:=a1;obtain⟨t',rfl⟩:=b1;rw[zzm];refine kat_cons (zz5 ?_);by_cases e:m=n
  ·rw[show(m==n)=true by simp[e]]
   refine kat_yes (Ti a2 b2 (i+1) ?_)
   rwa [vP,zo e]at h
  ·rw[show(m==n)=false by simp[e]]
   refine kat_no ?_;rw[vP,ze e]at h
   cases q:(b && i==0)with
   |true=>exact oneLt_int h
   |false=>exact kat_one _ _ (lt_int h)
theorem Dz{h:Heap}:∀{us:List Value},(∀v∈us,∃b o xs m i t,v=.ref b/\h.get? b=some o/\o.cls=.type "tuple" /\o.data=.seq xs m/\xs[0]? =some (Value.int i t))->
  ∃fs,KatTups h us fs/\fs.length=us.length/\∀f∈fs,∃i t,f=Value.int i t
 |[],_=>⟨[],trivial,rfl,λ_ h=>by cases h⟩
 |v::us,hv=>by
  obtain⟨b,o,xs,m,i,t,rfl,h1,h2,h3,h4⟩:=hv v (.head _);obtain⟨fs,q,k2,z⟩:=Dz (us:=us) λv hm=>hv v (.tail _ hm);exact⟨_::fs,KatTups.cons h1 h2 h3 h4 q,by rw[zL,zL,k2],λf hf=>(zu.mp hf).elim (λe=>⟨i,t,e⟩) (z f)⟩
end
section
variable{X:Cx}
theorem Dy:∀{ys:List V}{us:List Value}{i:Nat},Vals ys us->i<ys.length->RelV (ys.getD i .non) (us.getD i Value.none)
 |_,_,_,.nil,h=>by simp at h
 |_,_,0,.cons r _,_=>r
 |_,_,i+1,.cons _ t,h=>by
  simp only[List.getD_cons_succ];exact Dy t (by simpa using h)
theorem IK{ys:List V}{us:List Value}(r:Vals ys us):∀{l:List Nat},(∀i∈l,i<ys.length)->Vals (l.map λi=>ys.getD i .non) (l.map λi=>us.getD i Value.none)
 |[],_=> .nil
 |i::l,h=> .cons (Dy r (h i (.head _))) (IK r λj q=>h j (.tail _ q))
def JL(ys:List V):((List.range ys.length).map λi=>ys.getD i V.non)=ys:=by
 refine zzC (by simp) λi h1 h2=>?_;simp[h2]
noncomputable def Tc(ys:List V)(ts:V->List Int)(p:Array Nat):Prop:=∀m,(∀y∈ys,(ts y).length=m)->(ys.map ts).Nodup->∀a b,a<b->b<ys.length->vP (ts (ys.getD (p.getD a 0) .non)) (ts (ys.getD (p.getD b 0) .non)) false=true
def Ym{ys:List V}{ts:V->List Int}(hn:1<=ys.length):Kok (λi j=>vP (ts (ys.getD i .non)) (ts (ys.getD j .non)) (decide ((ts (ys.getD i .non)).length<(ts (ys.getD j .non)).length))) ys.length (λp=>Prm ys.length p/\Tc ys ts p) (kas_sort ys.length):=by
 by_cases h:∃m,(∀y∈ys,(ts y).length=m)/\(ys.map ts).Nodup
 ·obtain⟨m,h1,h2⟩:=h
  have hm:∀i,i<ys.length->(ts (ys.getD i .non)).length=m:=λi hi=>h1 _ (by simp[hi])
  have z:∀i j,i<ys.length->j<ys.length->decide ((ts (ys.getD i .non)).length<(ts (ys.getD j .non)).length)=false:=λi j hi q=>by
   rw[hm i hi,hm j q];simp
  refine Kok.mono (λp hp=>⟨hp.1,λ_ _ _ a b ab hb=>?_⟩) (ajv (n:=ys.length) (lt:=λi j=>vP (ts (ys.getD i .non)) (ts (ys.getD j .non)) (decide ((ts (ys.getD i .non)).length<(ts (ys.getD j .non)).length))) (λi hi=>?_) (λi j k hi q hk h h'=>?_) (λi j hi q aa=>?_) hn)
  ·rw[z i i hi hi];exact RJ _
  ·rw[z i j hi q]at h
   rw[z j k q hk]at h';rw[z i k hi hk];exact ain ((hm i hi).trans (hm j q).symm) ((hm j q).trans (hm k hk).symm) h h'
  ·rw[z i j hi q,z j i q hi]
   refine Yi ((hm i hi).trans (hm j q).symm) λe=>aa ?_;refine(zzs (by rw[za];exact hi) h2).mp ?_;rw[zd,zd,zh hi,zh q];have q1:ys.getD i .non=ys[i]:=by simp[hi]
   have q2:ys.getD j .non=ys[j]:=by simp[q]
   rw[q1,q2]at e;exact congrArg some e
  ·have:=hp.2 a b ab hb
   rwa [z _ _ (hp.1.ltn (by omega) _) (hp.1.ltn (by omega) _)]at this
 ·exact Kok.mono (λp hp=>⟨hp,λm h1 h2=>absurd ⟨m,h1,h2⟩ h⟩) (ZL hn)
end
noncomputable def But(D:Addr)(H H':Hp):Prop:=∀b u,b≠D->H b=some u->H' b=some u
def Same.seqT{K:Fg_}{H H':Hp}{a:Addr}{xs:List V}(e:Same H H')(h:SqT K H a xs):SqT K H' a xs:=h.elim (λh=>h.elim (λh=> .inl (.inl (e _ _ h))) fun⟨o,h⟩=> .inl (.inr ⟨o,e _ _ h⟩)) .inr
section
variable{K:Fg_}{a:Addr}{xs:List V}{g:TG}{te:TE}{σ:St}{H:Hp}{Q:VK}{cap:List (Option Nat)}
def lu.listE(Sσ:St->Prop)(F:Nat->V->Hp->Prop)(hS:SqL K H a xs)(h0:Sσ (pD σ cap))(hz:xs.length<=sizeLine)
  (hs:∀D i x,xs[i]? =some x->∀(σ:St)(H5:Hp)(R:St->VK),Sσ σ->Same H H5->H D=Option.none->(∃acc,H5 D=some (.lst acc))->(∀v σ4 H6,Sσ σ4->Same H5 H6->(∀H',But D H6 H'->F i v H')->R σ4 v H6)->
   g x σ H5 λσ4 H4=>te σ4 H4 (R σ4))
  (k:∀D H' acc,H D=Option.none->Same H H'->H' D=some (.lst acc)->acc.length=xs.length->(∀i v,acc[i]? =some v->F i v H')->Q (.ref D) H'):lu cap (Itl K a) g Kr te σ H Q:=by
 intro D hD;refine⟨λi m acc σ H2=>m=xs.length - i/\i<=xs.length/\Sσ σ/\Same H H2/\acc.length=i/\∀j v,acc[j]? =some v->∀H',But D H2 H'->F j v H',⟨xs.length,rfl,zJ _,h0,iM hD,rfl,λj v e=>by simp at e⟩,?_⟩;rintro i m acc σ1 H2 ⟨rfl,hi,hσ,z,aa,hF⟩ hA;by_cases ab:i<xs.length
 ·have hx:xs[i]? =some xs[i]:=by simp[ab]
  refine .inr ⟨⟨xs,xs[i],z.seq hS,hx⟩,λy H3 hy=>?_⟩;obtain rfl:H3=H2:=hy.1;obtain rfl:y=xs[i]:=zw ((hy.2 xs (z.seq hS)).symm.trans hx);simp only[ap_noIf,if_true];refine hs D i _ hx σ1 H3 _ hσ z hD ⟨_,hA⟩ λv σ4 H6 ag s6 af=>?_;have ah:=s6 _ _ hA;refine⟨acc,ah,by omega,xs.length - (i+1),by omega,rfl,ab,ag,(z.trans s6).upd hD,by rw[zA,aa];rfl,λj u hj H' hb=>?_⟩;have ac:But D H6 H':=λb o q e=>hb b o q ((iU q).trans e);by_cases ad:j<acc.length
  ·rw[z9 ad]at hj
   exact hF j u hj H' λb o q e=>ac b o q (s6 _ _ e)
  ·rw[z7 (by omega)]at hj
   have ae:j - acc.length=0:=by
    have:=(zk.mp hj).1;simp at this;omega
   rw[ae]at hj;cases hj;obtain rfl:j=i:=by omega
   exact af H' ac
 ·obtain rfl:i=xs.length:=by omega
  exact .inl ⟨⟨xs,z.seq hS,zg _⟩,k D H2 acc hD z hA aa λj v e=>hF j v e H2 λb o _ e=>e⟩
end
end L2
namespace L2
open PySem PySem.Spec PyProof.Rows
structure Mk0(K:Fg_)(C:Addr):Prop where
 makes:PySem.W.makesIn K C=true
 init:PySem.W.findIn K (.ref C) "__init__" =some (some (.builtin "object.__init__"))
 kp:PySem.W.keepIn K (.ref C)=true
noncomputable def ajY(C:Addr):TE:=λ_ H Q=>∀x dx,H x=none->H dx=none->dx≠x->Q (.ref x) (upd (upd H dx (.own x)) x (.ins C dx []))
def ap_new0{C:Addr}{σ:St}{H:Hp}{Q:VK}:ajY C σ H Q=∀x dx,H x=none->H dx=none->dx≠x->Q (.ref x) (upd (upd H dx (.own x)) x (.ins C dx [])):=rfl
def Nv{X:Cx}{C:Addr}{x:Str}{p pos:Pos}(M:Mk0 X.K C)(hg:Gl X x)(hm:X.mg x=some (.ref C))(z:(x==("__debug__" :Str))=false:=by decide):PE X (.Call (.Name x p) [] [] pos) (ajY C):=by
 intro pins s σ H Q I h;refine yf (Ju I hg hm ?_ z);have q:=h (s.heap.objs.size+1) s.heap.objs.size (I.hok.fresh (ym _)) (I.hok.fresh (zg _)) (zD (zzz _));have I2:=Inv.made (C:=C) I;have Y:=zz0 (M:=model X.prog X.w) I.kIn M.makes;refine PySem.W.callWith_K0 I.kIn M.kp (yyb (Ww I.kIn M.makes M.init (λself=>PySem.W.Looks.of_pure (PySem.W.oi_bind self)) ?_))
 have g1:((s.heap.push PySem.W.emptyDict).push (PySem.W.instObj C s.heap.objs.size)).get? (s.heap.objs.size+1)=some (PySem.W.instObj C s.heap.objs.size):=by
  have e:=zB (s.heap.push PySem.W.emptyDict) (o:=PySem.W.instObj C s.heap.objs.size) rfl;rw[size_push']at e;exact e
 have t1:PySem.W.Looks (model X.prog X.w) ((s.heap.push PySem.W.emptyDict).push (PySem.W.instObj C s.heap.objs.size)) (typeOf (.ref (s.heap.objs.size+1))) (.ref C):=(PySem.W.Looks.ld g1).andThen .now;have t2:PySem.W.Looks (model X.prog X.w) ((s.heap.push PySem.W.emptyDict).push (PySem.W.instObj C s.heap.objs.size)) (isInstance (.ref (s.heap.objs.size+1)) (.type "object")) true:=t1.andThen (Y.top.keeps λb o e=>zb _ (zb _ e));refine codeAny_call_builtin PySem.W.oi_plain PySem.W.entry_oi (@PySem.W.check_slot (model X.prog X.w) _ _ _ "object.__init__" "object" "__init__" (.ref (s.heap.objs.size+1)) [] [] _ PySem.W.oi_kind PySem.W.oi_split t2 (PySem.W.oi_args _) ?_);rw[PySem.W.oi_run];exact zy ⟨rfl,.ref (s.heap.objs.size+1),_,I2,rfl,q⟩
section
variable{K:Fg_}{a b:Addr}{xs ys:List V}{g:TG}{te:TE}{σ:St}{H:Hp}{Q:VK}{cap:List (Option Nat)}
def lu.zipE(Sσ:St->Prop)(F:Nat->V->Hp->Prop)(hS:SqL K H a xs)(ac:SqL K H b ys)(ab:xs.length=ys.length)(h0:Sσ (pD σ cap))(hz:xs.length<=sizeLine)
  (hs:∀D i x y,xs[i]? =some x->ys[i]? =some y->∀(σ:St)(H5:Hp)(p:Addr)(R:St->VK),Sσ σ->Same H H5->H D=Option.none->(∃acc,H5 D=some (.lst acc))->H5 p=Option.none->
   (∀v σ4 H6,Sσ σ4->Same (upd H5 p (.tup [x,y])) H6->(∀H',But D H6 H'->F i v H')->R σ4 v H6)->g (.ref p) σ (upd H5 p (.tup [x,y])) λσ4 H4=>te σ4 H4 (R σ4))
  (k:∀D H' acc,H D=Option.none->Same H H'->H' D=some (.lst acc)->acc.length=xs.length->(∀i v,acc[i]? =some v->F i v H')->Q (.ref D) H'):lu cap (Itz K a b) g Kr te σ H Q:=by
 intro D hD;refine⟨λi m acc σ H2=>m=xs.length - i/\i<=xs.length/\Sσ σ/\Same H H2/\acc.length=i/\∀j v,acc[j]? =some v->∀H',But D H2 H'->F j v H',⟨xs.length,rfl,zJ _,h0,iM hD,rfl,λj v e=>by simp at e⟩,?_⟩;rintro i m acc σ1 H2 ⟨rfl,hi,hσ,q,ae,hF⟩ hA;by_cases z:i<xs.length
 ·have hx:xs[i]? =some xs[i]:=by simp[z]
  have hy:ys[i]? =some (ys[i]'(ab▸z)):=by simp[ab▸z]
  refine .inr ⟨⟨xs,ys,_,_,q.seq hS,q.seq ac,hx,hy⟩,λv H3 hv=>?_⟩;obtain⟨p,x,y,hp,rfl,rfl,e1,e2⟩:=hv;have e1:=e1 xs (q.seq hS);have e2:=e2 ys (q.seq ac);simp only[ap_noIf,if_true];refine hs D i x y e1 e2 σ1 H2 p _ hσ q hD ⟨_,hA⟩ hp λv σ4 H6 aj s6 ai=>?_;have ad:=(iM (o:=.tup [x,y]) hp).trans s6;have ak:=ad _ _ hA;refine⟨acc,ak,by omega,xs.length - (i+1),by omega,rfl,z,aj,(q.trans ad).upd hD,by rw[zA,ae];rfl,λj u hj H' hb=>?_⟩;have af:But D H6 H':=λb o aa e=>hb b o aa ((iU aa).trans e);by_cases ag:j<acc.length
  ·rw[z9 ag]at hj
   exact hF j u hj H' λb o aa e=>af b o aa (ad _ _ e)
  ·rw[z7 (by omega)]at hj
   have ah:j - acc.length=0:=by
    have:=(zk.mp hj).1;simp at this;omega
   rw[ah]at hj;cases hj;obtain rfl:j=i:=by omega
   exact ai H' af
 ·obtain rfl:i=xs.length:=by omega
  exact .inl ⟨⟨xs,ys,q.seq hS,q.seq ac,.inl (zg _)⟩,k D H2 acc hD q hA ae λj v e=>hF j v e H2 λb o _ e=>e⟩
end
end L2
namespace PySem
open PySem.Spec PyProof.Rows
def Pb:typeLookup (.type "list") "keys" =pure none:=by rw[typeLookup_type,builtinLookup_eq_fast];kernel_rfl
section
variable{prog:Program}{w:World}{A:Around}{E:Value->Shared->Prop}{a:Addr}{xs:Array Value}{k:Nat}{s:Shared}
def ajp{Q:Option Value->Shared->Prop}{sl:Array (Option Value)}(hx:s.heap.get? a=some {cls:=.type "list",dict:=none,data:=.seq xs k,slots:=sl}) (hA:A.handled=none)
  (hq:∀h' tk,(∀b u,s.heap.get? b=some u->h'.get? b=some u)->Q none {s with heap:=h',toks:=tk}):wpAny (model prog w) A (getAttr? (.ref a) "keys") Q E s:=by
 obtain⟨hp,g,d,tk,os⟩:=s;have hT:∀q,(⟨hp,g,d,q,os⟩:Shared).TypeIs (.ref a) "list" :=λ_=>⟨_,hx,rfl⟩;have f1:=sub_AttributeError;have f3:=F.slot_list_getattribute.lookup;have f4:=F.slot_list_getattribute.bind (.ref a);have f5:=am_list_getattr_none;unfold getAttr? getAttrBy? getAttrBy
 repeat (any_goals (first|assumption|exact hT _|((with_reducible show wpAny _ _ (call (Value.builtin "list.__getattribute__") _ _) _ _ _);refine yyd F.slot_list_getattribute (hT _) am_entry_list_getattribute (F.args_list_getattribute_2 _ _) (meets_getattribute_miss_list a xs k sl "keys" _ Pb (by decide+kernel) (by rw[zq];decide+kernel)) ⟨hx,hA,λh' q e z=>?_⟩)|wp_step))
 obtain⟨t1,u1,hE⟩:=z.there;show wpAny _ _ (getattributeRaised _ _ _ _ _ _ _) _ _ _;unfold getattributeRaised
 repeat (any_goals (first|assumption|wp_step))
 exact hq _ _ z.keeps
end
end PySem
namespace L2
open PySem PySem.Spec PyProof.Rows
def Qn:entryFor table "dict.update.loop" =some Builtin.«dict.update.loop»:=entryFor_of_tree (by kernel_rfl)
section
variable{P:Program}{w:World}{A:Around}{E:Value->Shared->Prop}
abbrev air(ps:List (Key×Value×Value)):List (Key×Value):=ps.foldl (λa p=>stored a p.1 p.2.2) []
def Wk(kvs:List (Key×Value))(k:Key)(v:Value):(stored kvs k v).length<=kvs.length+1:=by
 unfold stored;split
 ·simp
 ·simp
def Tf(ps:List (Key×Value×Value)):(air ps).length<=ps.length:=by
 have:∀(ps:List (Key×Value×Value))(a:List (Key×Value)),(ps.foldl (λa p=>stored a p.1 p.2.2) a).length<=a.length+ps.length:=by
  intro ps
  induction ps with
  |nil=>intro a;exact zg _
  |cons p ps ih=>
   intro a;have h1:=ih (stored a p.1 p.2.2);have h2:=Wk a p.1 p.2.2;rw[zzi,zL];omega
 simpa using this ps []
def UL{d it l:Addr}{its:List Value}{ps:List (Key×Value×Value)}{R:Result->Shared->Prop}{s₀:Shared}(hA:A.handled=none)(ah:ps.length=its.length)(hz:its.length<=1000)(aa:d≠it)(ae:d≠l)(ac:it≠l)
  (hl:s₀.heap.IsList l its.toArray) (hp:∀(i:Nat) p,ps[i]? =some p->∃b,its[i]? =some (.ref b)/\b≠d/\b≠it/\IsTup s₀.heap b #[p.2.1,p.2.2]/\(jM P w).is p.1 p.2.1=true)
  (hR:∀h' tk,(∀b u,b≠d->b≠it->s₀.heap.get? b=some u->h'.get? b=some u)->h'.DictOf (jM P w) d (air ps)->R (.ok (.ret .none)) {s₀ with heap:=h',toks:=tk}):
  ∀(m j:Nat) (h:Heap) (tk:Nat) (t:Tok),j+m=its.length->(∀b u,b≠d->b≠it->s₀.heap.get? b=some u->h.get? b=some u)->h.IsListIter it l j->h.DictOf (jM P w) d (air (ps.take j))->
   codeAny (model P w) A (.builtin "dict.update.loop" ⟨[.ref d,.ref it,.int j t,.none],[]⟩) R {s₀ with heap:=h,toks:=tk}:=by
 intro m
 induction m with
 |zero=>
  intro j h tk t hj hk hi hd;refine codeAny_builtin Qn ?_;unfold Builtin.«dict.update.loop»;dsimp only
  have z:h.IsList l its.toArray:=by
   obtain⟨ol,e1,e2⟩:=hl;exact⟨ol,hk l ol ae.symm ac.symm e1,e2⟩
  refine zc (wpAny_pyNext_list_end (by exact hA) hi z (by simp;omega) λh' eb=>?_);refine zc (m:=Builtin.Dict.addKeywords d []) ?_;unfold Builtin.Dict.addKeywords;refine zy (zy (hR h' tk (λb u n1 n2 e=>eb b u n2 (hk b u n1 n2 e)) ?_));obtain⟨od,es,ep,h1,h2⟩:=hd;rw[zT (by omega)]at h2;exact⟨od,es,ep,eb d od aa h1,h2⟩
 |succ m ih=>
  intro j h tk t hj hk hi hd;refine codeAny_builtin Qn ?_;unfold Builtin.«dict.update.loop»;dsimp only
  have z:h.IsList l its.toArray:=by
   obtain⟨ol,e1,e2⟩:=hl;exact⟨ol,hk l ol ae.symm ac.symm e1,e2⟩
  have ab:ps[j]? =some (ps[j]'(by omega)):=by simp
  obtain⟨b,e1,n1,n2,ht,q⟩:=hp j _ ab;generalize ps[j]'(by omega)=p at ab ht q;refine zc (wpAny_pyNext_list_item hi z (x:=.ref b) (by simpa using e1) λh' af sb=>?_);obtain⟨ot,t1,t2,t3,t4⟩:=ht;have ht':h'.get? b=some ot:=(sb.2 b n2).trans (hk b ot n1 n2 t1);have hT:({s₀ with heap:=h',toks:=tk}:Shared).TypeIs (.ref b) "tuple" :=⟨_,ht',t2⟩;dsimp only;refine zc (yi (zc (y9 ?_)));unfold Builtin.Dict.pairItems;refine zc (yyc hT ?_);rw[zo (by decide)];unfold seqItems?;refine zc (zc (wpAny_load ht' ?_));rw[t4];refine zy (zy ?_);dsimp only[Option.getD_some];refine yi (wpAny_dictSet_pairs (kvs:=air (ps.take j)) q ?_ (λh2 ag ad=>?_) ?_)
  ·obtain⟨od,es,ep,q1,q2⟩:=hd
   exact⟨od,es,ep,(sb.2 d aa).trans q1,q2⟩
  ·refine zy ⟨Code.quiet_builtin _ (by decide+kernel),?_⟩
   refine ih (j+1) h2 (tk+1) 0 (by omega) (λb u m1 m2 e=>(ad.2 b m1).trans ((sb.2 b m2).trans (hk b u m1 m2 e))) ?_ ?_
   ·obtain⟨oi,q1,q2⟩:=af
    exact⟨oi,(ad.2 it aa.symm).trans q1,q2⟩
   ·have e:ps.take (j+1)=ps.take j++[p]:=by rw[zN,ab];rfl
    rw[air,e,List.foldl_append];exact ag
  ·have:=Tf (ps.take j)
   rw[zU]at this;rw[zq];omega
end
section
variable{X:Cx}
theorem Pq{α β:Type}{Pr:α->β->Prop}:∀{ys:List α},(∀y∈ys,∃p,Pr y p)->∃ps,Paired Pr ys ps
 |[],_=>⟨[],.nil⟩
 |y::ys,h=>by
  obtain⟨p,hp⟩:=h y zj;obtain⟨ps,q⟩:=Pq (ys:=ys) λz hz=>h z (zp _ hz);exact⟨p::ps,.cons hp q⟩
theorem tX{α β:Type}{Pr:α->β->Prop}:∀{ys:List α}{ps:List β}{i:Nat}{p:β},Paired Pr ys ps->ps[i]? =some p->∃y,ys[i]? =some y/\Pr y p
 |_,_,_,_,.nil,h=>by simp at h
 |_,_,0,_,.cons r _,h=>by cases h;exact⟨_,rfl,r⟩
 |_,_,i+1,_,.cons _ t,h=>tX (i:=i) t h
noncomputable def Mt(kf:V->Key)(vf:V->V)(ys:List V):List (Key×V):=ys.foldl (λa y=>putK a (kf y) (vf y)) []
theorem XJ{kf:V->Key}{q:V->V}{Pr:V->Key×Value×Value->Prop}(z:∀y p,Pr y p->p.1=kf y/\RelV (q y) p.2.2):∀{ys:List V}{ps:List (Key×Value×Value)}{a:List (Key×V)}{b:List (Key×Value)},Paired Pr ys ps->KV a b->
  KV (ys.foldl (λa y=>putK a (kf y) (q y)) a) (ps.foldl (λa p=>stored a p.1 p.2.2) b)
 |_,_,_,_,.nil,h=>h
 |y::ys,p::ps,a,b,.cons r t,h=>by
  obtain⟨e1,e2⟩:=z y p r;rw[zzi,zzi,e1];exact XJ z t (h.put (kf y) e2)
noncomputable def xW(K:Fg_):List V->Hp->VK->Prop:=λxs H Q=>∃(a:Addr)(ys:List V)(kf:V->Key)(vf:V->V),xs=[.ref a]/\SqL K H a ys/\ys.length<=1000/\(∀y∈ys,∃b,y=.ref b/\SqT K H b [kV (kf y),vf y])/\
 ∀p,H p=none->Q (.ref p) (upd H p (.dK (Mt kf vf ys)))
def Kg(hc:X.calm=true):nT X (.type "dict") (xW X.K):=by
 intro pins s σ H xs us Q I r h;obtain⟨l,ys,kf,vf,rfl,hq,ap,hP,q⟩:=h;obtain⟨u,rfl,rx⟩:=vals1 r;cases rx;obtain⟨its,rv,pl,hz⟩:=I.list hq;have am:ys.length=its.length:=rv.length;have hl:=pl.isList
 obtain ⟨ps,ad⟩:=Pq (Pr:=fun(y:V)(p:Key×Value×Value)=>p.1=kf y/\RelV (vf y) p.2.2/\∃b,y=.ref b/\IsTup s.heap b #[p.2.1,p.2.2]/\(jM X.prog X.w).is p.1 p.2.1=true) (ys:=ys) λy hy=>by
  obtain⟨b,rfl,hb⟩:=hP y hy;obtain⟨tv,rt,it,ar⟩:=I.tuple hb
  cases rt with
  |cons r1 rt=>cases rt with
   |cons r2 rt=>
    cases rt;exact⟨(kf (.ref b),_,_),rfl,r2,b,rfl,it,MJ r1⟩
 have aj:ps.length=its.length:=by rw[<-am];exact(z3 ad).symm
 obtain⟨⟨oc,od,oo,aq⟩,nl,g1,g2,g3,g4⟩:=id pl;simp only at g2 g3 g4;subst g2 g3 g4;have ai:l<s.heap.objs.size:=zr g1;refine callType_codes (Q₁:=λob s1=>ob=.ref s.heap.objs.size/\s1={s with heap:=s.heap.push {cls:=.type "dict",data:=.dict #[]}}) F.kt_called_dict (F.kt_typeCall_dict_1 _) F.entry_dict_init (kt_code_dict_new _ ⟨rfl,rfl⟩) ?_;rintro ob s1 ⟨rfl,rfl⟩;have ae:(s.heap.push {cls:=.type "dict",data:=.dict #[]}).DictOf (jM X.prog X.w) s.heap.objs.size []:=Heap.DictOf.new s.heap;refine⟨ae.typeIs,F.args_dict_init_2 _ _,?_⟩;unfold Builtin.«dict.__init__» Builtin.Dict.selfAndRest;refine zc (zc (wpAny_notOrdered_dict ae.typeIs ?_));show wpAny _ _ (pure (s.heap.objs.size,[Value.ref l])) _ _ _;refine zy ?_;show wpAny _ _ (Builtin.Dict.updateFrom "dict.__init__" s.heap.objs.size (.ref l) [] .none) _ _ _;have ac:∀b o,s.heap.get? b=some o->(s.heap.push {cls:=.type "dict",data:=.dict #[]}).get? b=some o:=λb o e=>zb _ e;have hT:({s with heap:=s.heap.push {cls:=.type "dict",data:=.dict #[]}}:Shared).TypeIs (.ref l) "list" :=⟨_,ac _ _ g1,rfl⟩;unfold Builtin.Dict.updateFrom;refine zc (yyc hT ?_);rw[zo (by decide)];refine zc (ajp (ac _ _ g1) (by exact I.ok.hd hc) λh1 ah af=>?_);have z:∀b o,s.heap.get? b=some o->h1.get? b=some o:=λb o e=>af b o (ac b o e);have ao:h1.IsList l its.toArray:=⟨_,z _ _ g1,rfl,_,rfl⟩;obtain⟨o0,al,ak,q1,q2⟩:=ae;have q1':=af _ _ q1;have ab:s.heap.objs.size<h1.objs.size:=zr q1';rw[zo (show(none:Option Value).isNone=true from rfl)];refine zc (wpAny_rule (zc (yJ ao (zy ⟨Code.quiet_builtin _ (by decide+kernel),?_⟩))));have aa:∀b o,h1.get? b=some o->(h1.push {cls:=.type "list_iterator",data:=.fields #[.ref l,.int 0 0]}).get? b=some o:=λb o e=>zb _ e
 refine UL (A:=X.A.in1) (s₀:={s with heap:=h1.push {cls:=.type "list_iterator",data:=.fields #[.ref l,.int 0 0]},toks:=ah}) (its:=its) (ps:=ps) (d:=s.heap.objs.size) (it:=h1.objs.size) (l:=l) (by exact I.ok.hd hc) aj (by omega) (zD ab) (yC ai) (yC (zzK ai ab))
  ⟨_,aa _ _ (z _ _ g1),rfl,_,rfl⟩ (λi p hi=>?_) (λh' tk kp hD=>⟨rfl,?_⟩) its.length 0 _ ah 0 (by omega) (λb o _ _ e=>e) ⟨_,zB _ rfl,rfl,rfl⟩ ⟨o0,al,ak,aa _ _ q1',q2⟩
 ·obtain⟨y,hy,e1,e2,b,rfl,ht,hk⟩:=tX ad hi
  obtain⟨ot,t1,t2⟩:=ht;obtain⟨v,hv,rr⟩:=rv.get hy;cases rr;have hb:b<s.heap.objs.size:=zr t1;exact⟨b,hv,zD hb,zD (zzK hb ab),⟨ot,aa _ _ (z _ _ t1),t2⟩,hk⟩
 ·have ag:KV (Mt kf vf ys) (air ps):=XJ (λy p h=>⟨h.1,h.2.1⟩) ad .nil
  have an:(Mt kf vf ys).length<=sizeLine:=by
   have e1:(Mt kf vf ys).length=(air ps).length:=z3 ag;have e2:=Tf ps;rw[e1,zq];omega
  exact⟨.ref s.heap.objs.size,_,I.laid (a:=s.heap.objs.size) (o:=.dK (Mt kf vf ys)) (t':=tk) (λb o e=>kp b o (zD (zr e)) (zD (zzK (zr e) ab)) (aa _ _ (z b o e))) (zg _) (Om an (beq_eq_false_iff_ne.mpr (Ne.symm (zD I.big))) ag hD),rfl,q _ (I.hok.fresh (zg _))⟩
end
end L2
namespace L2
open PySem PySem.Spec PyProof.Rows
noncomputable def xF(v a:Addr):HO:=.ext λh=>h.IsValuesView v a
noncomputable def Itv(a:Addr)(o:Obj)(kvs:List (Key×V)):It:=⟨λi H=>H a=some (.frz o (.dK kvs))/\i<kvs.length,λi H x H'=>H'=H/\(kvs.map (·.2))[i]? =some x,λi H=>H a=some (.frz o (.dK kvs))/\kvs.length<=i⟩
def ZJ:entryFor table "dict_valueiterator.__iter__" =some Builtin.«dict_keyiterator.__iter__»:=entryFor_alias (id':= "dict_keyiterator.__iter__") (by kernel_rfl) (by decide+kernel) (by decide+kernel) (by kernel_rfl)
def WM{P:Program}{w:World}{A:Around}{E:Value->Shared->Prop}{s:Shared}{it d:Addr}{i n z:Nat}{Q:Value->Shared->Prop}(q:s.heap.IsValIter it d i n z)(h:Q (.ref it) s):wpAny (model P w) A (pyIter (.ref it)) Q E s:=by
 refine zzW q.typeIs F.slot_dict_valueiterator_iter (zzb F.slot_dict_valueiterator_iter q.typeIs ZJ ?_ (F.args_dict_valueiterator_iter_1 _));show wpAny _ _ (ret (.ref it)) _ _ s;exact zy ⟨_,rfl, "dict_valueiterator",_,q.typeIs,F.slot_dict_valueiterator_next.lookup,h⟩
def Mg{X:Cx}{pins:List (Addr×Obj)}{σ:St}{H:Hp}{s:Shared}{a:Addr}{o:Obj}{kvs:List (Key×V)}{es:Array DictEntry}{ep:Nat}(I:Inv X pins σ H s)(e:H a=some (.frz o (.dK kvs)))(q:o.data=.dict es ep):
  ∃vs,KV kvs vs/\s.heap.DictAt (jM X.prog X.w) a vs ep:=by
 obtain⟨h0,_,_,vs,rel,o',aa,ab,q1,q2,z,q4⟩:=(show mq X.prog X.w H s.heap a (.frz o (.dK kvs))from I.hok a _ e);rw[h0]at q1;cases q1;rw[q]at z;cases z;exact⟨vs,rel,o,es,h0,q2,q,q4⟩
def Xa{P:Program}{w:World}{K:Fg_}{tg:Expr}{a it:Addr}{o:Obj}{kvs:List (Key×V)}{es:Array DictEntry}{ep:Nat}(aa:o.data=.dict es ep):Turn P w K tg (Itv a o kvs) [it] it (λi h=>h.IsValIter it a i kvs.length ep) where
 mem:=by simp
 obj:=λi h st b hb=>by
  obtain rfl:b=it:=by simpa using hb
  obtain⟨oi,e,c,dd⟩:=st;exact⟨oi,e,λv z=>by rw[dd]at z;cases z⟩
 keep:=λi h h' st k=>let⟨oi,e,r⟩:=st;⟨oi,k it (by simp) oi e,r⟩
 item:=by
  intro X hP hw hK hc i pins s σ H E I hf st hg;subst hP hw hK;obtain⟨ab,ae⟩:=hg;obtain⟨vs,rel,ac⟩:=Mg I ab aa;have q:kvs.length=vs.length:=z3 rel;obtain⟨f0,f1,f2,f3,f4,f5⟩:=hf it (by simp);have hx:vs[i]? =some (vs[i]'(by omega)):=by simp
  obtain⟨p,hp,e1,e2⟩:=tX rel hx;rw[q]at st;refine wpAny_pyNext_values_item st ac (k:=(vs[i]'(by omega)).1) (v:=(vs[i]'(by omega)).2) hx λh' ad sb=>?_;have I1:Inv X pins σ H {s with heap:=h'}:=I.turned (t':=s.toks) (λb o hb e=>(sb.2 b hb).trans e) f0 f1 f3 f4 f5;obtain⟨oi,e,c,dd⟩:=id ad;rw[<-q]at ad;exact⟨_,rfl,Ro (s:={s with heap:=h'}) e c dd (by decide) ⟨p.2,H,I1,e2,⟨rfl,by rw[zd,hp];rfl⟩,ad,λb hb=>(hf b hb).1⟩⟩
 done:=by
  intro X hP hw hK hc i pins s σ H E I hf st hg;subst hP hw hK;obtain⟨ab,ae⟩:=hg;obtain⟨vs,rel,ac⟩:=Mg I ab aa;have q:kvs.length=vs.length:=z3 rel;obtain⟨f0,f1,f2,f3,f4,f5⟩:=hf it (by simp);rw[q]at st;exact wpAny_pyNext_values_end (I.ok.hd hc) st ac (by simp;omega) λh' eb=>⟨rfl,I.turned (t':=s.toks) (λb o hb e=>eb b o hb e) f0 f1 f3 f4 f5⟩
 self:=λ_ _ _ _ _ st h=>WM st h
section
variable{X:Cx}{tg:Expr}
noncomputable def akZ(tl:TE):TI:=λσ H R=>tl σ H λx H1=>∃v a kvs,x=.ref v/\H1 v=some (xF v a)/\H1 a=some (.dK kvs)/\∀o,R (Itv a o kvs) (upd H1 a (.frz o (.dK kvs)))
def WW{l:Expr}{tl:TE}(hl:PE X l tl):PI X tg l (akZ tl):=by
 intro pins s σ H R I h;refine thn (hl pins s σ H _ I h) λu s1 ⟨x,H1,I1,r1,v,a,kvs,ex,hv,ha,q⟩=>?_;subst ex;cases r1;obtain⟨aa,_,_⟩:=(show mq X.prog X.w H1 s1.heap v (xF v a)from I1.hok v _ hv);obtain⟨z,ab,vs,rel,o,es,ep,q1,q2,q3,q4⟩:=(show mq X.prog X.w H1 s1.heap a (.dK kvs)from I1.hok a _ ha);have ac:kvs.length=vs.length:=z3 rel;have ad:s1.heap.DictAt (jM X.prog X.w) a vs ep:=⟨o,es,q1,q2,q3,q4⟩;refine wpAny_pyIter_values aa ad ?_;have I2:Inv X pins σ (upd H1 a (.frz o (.dK kvs))) s1:=I1.write (t':=s1.toks) (h':=s1.heap) (by rw[ha];exact True.intro) (.inl rfl) (λb u _ e=>e) ⟨o,q1⟩ (show mq X.prog X.w _ s1.heap a (.frz o (.dK kvs))from⟨q1,z,ab,vs,rel,o,es,ep,q1,q2,q3,q4⟩);refine⟨s1.heap.objs.size,[s1.heap.objs.size],_,_,_,rfl,I2.kept (t':=s1.toks) λb o e=>zb _ e,Xa q3,⟨_,zB _ rfl,rfl,by rw[ac];rfl⟩,λb hb=>?_,q o⟩;obtain rfl:b=s1.heap.objs.size:=by simpa using hb
 exact I2.fpOk (zg _) (I2.hok.fresh (zg _))
noncomputable def aiP:V->List V->Hp->VK->Prop:=λx vs H Q=>∃a kvs,x=.ref a/\vs=[]/\H a=some (.dK kvs)/\∀v,H v=none->Q (.ref v) (upd H v (xF v a))
def Qk:MtR X "dict.values" aiP:=by
 intro pins s σ H x vs v us Q I rx rv h;obtain⟨a,kvs,rfl,rfl,ha,q⟩:=h;cases rx;have ab:=rv.zero;subst ab;obtain⟨z,aa,ws,rel,dd⟩:=Vs I.hok ha;refine yP zze dd.typeIs PySem.F.entry_dict_values (PySem.F.args_dict_values_1 _) (meets_dict_values (jM X.prog X.w) a aa) ⟨⟨ws,dd⟩,?_⟩;have hg:(s.heap.push {cls:=.type "dict_values",data:=.fields #[.ref a]}).IsValuesView s.heap.objs.size a:=⟨_,zB _ rfl,rfl,rfl⟩;exact⟨.ref s.heap.objs.size,_,I.laid (a:=s.heap.objs.size) (o:=xF s.heap.objs.size a) (t':=s.toks) (λb o e=>zb _ e) (zg _) ⟨hg,⟨_,zB _ rfl⟩,λh1 h2 ⟨ov,e1,e2⟩ k=>⟨ov,k ov e1,e2⟩⟩,rfl,q _ (I.hok.fresh (zg _))⟩
end
end L2
namespace L2
open PySem PySem.Spec PyProof.Rows
section
variable{X:Cx}{K:Fg_}{σ:St}{H:Hp}{Q:VK}{R:It->Hp->Prop}{tl td ty:TE}{g:TG}{tt:TT}{te:TE}{cap:List (Option Nat)}{a:Addr}{o:Obj}{kvs:List (Key×V)}
def qQ(q:X.calm=true)(z:X.K=K:=by rfl):nT X (.type "dict") (xW K):=z▸Kg q
def ap_dictPairs:xW K [.ref a] H Q=∃(ys:List V)(kf:V->Key)(vf:V->V),SqL K H a ys/\ys.length<=1000/\(∀y∈ys,∃b,y=.ref b/\SqT K H b [kV (kf y),vf y])/\∀p,H p=none->Q (.ref p) (upd H p (.dK (Mt kf vf ys))):=by simp[xW]
def ap_iVals:akZ tl σ H R=tl σ H λx H1=>∃v a kvs,x=.ref v/\H1 v=some (xF v a)/\H1 a=some (.dK kvs)/\∀o,R (Itv a o kvs) (upd H1 a (.frz o (.dK kvs))):=rfl
def ap_rVals:aiP (.ref a) [] H Q=∃kvs,H a=some (.dK kvs)/\∀v,H v=none->Q (.ref v) (upd H v (xF v a)):=by simp[aiP]
def ap_dget1:aaP td ty σ H Q=td σ H λx H1=>∃a,x=.ref a/\IsD H1 a/\ty σ H1 λy H2=>∃o,XD H2 a y o/\Q (o.getD .non) H2:=rfl
def lu.vals(Sσ:St->Prop)(p:V->Bool)(F:V->V)(hH:H a=some (.frz o (.dK kvs)))(h0:Sσ (pD σ cap))(hz:kvs.length<=sizeLine)
  (hs:∀x∈kvs.map (·.2),∀(σ:St)(z:Hp)(R1:St->VK)(R2:St->Hp->Prop),Sσ σ->Same H z->(p x=true->∀q H6,Sσ q->Same z H6->R1 q (F x) H6)->(p x=false->∀q H6,Sσ q->Same z H6->R2 q H6)->
   g x σ z λq H4=>tt q H4 λb z=>if b=true then te q z (R1 q)else R2 q z)
  (k:∀D H',H D=Option.none->Same H H'->H' D=some (.lst (((kvs.map (·.2)).filter p).map F))->Q (.ref D) H'):lu cap (Itv a o kvs) g tt te σ H Q:=
 λD hD=>xg (xs:=kvs.map (·.2)) (Itv a o kvs) Sσ p F hD h0 (by rw[za];exact hz) (λi x z hx sm=>⟨⟨sm _ _ hH,by simpa using (zk.mp hx).1⟩,λy H' hy=>⟨zw (hy.2.symm.trans hx),hy.1⟩⟩) (λz sm=>⟨sm _ _ hH,by simp⟩) hs λH' s e=>k D H' hD s e
end
end L2
namespace L2
open PySem PySem.W PySem.Spec PyProof.Rows
section
variable{X:Cx}{pins:List (Addr×Obj)}{σ:St}{H:Hp}{s:Shared}{h':Heap}
def Inv.adopt{t' c:Nat}{D:Addr}{zs:List V}{its:List Value}(I:Inv X pins σ H s)(hf:QW X pins H D)(k:∀b o,b≠D->s.heap.get? b=some o->h'.get? b=some o)
  (hD:h'.get? D=some {cls:=.type "list",data:=.seq its.toArray c}) (hv:Vals zs its) (hz:zs.length<=sizeLine):Inv X pins σ (upd H D (.lst zs)) {s with heap:=h',toks:=t'}:=by
 obtain⟨hn,hL,ab,h1,h2,h3⟩:=hf;have aa:∀b u,H b=some u->b≠D:=λb u e z=>by rw[z,hn]at e;cases e
 refine I.step (g':=s.gens) (d':=s.drawn) (ch:=[D]) (λb hb=>?_) (λb o _ _ hc e _=>k b o (λz=>hc (by simp[z])) e) (λb o _ _ hc e _=>⟨o.slots,k b o (λz=>hc (by simp[z])) e⟩) (λb o hc e n=>(iU λz=>hc (by simp[z])).trans n)
  (λb o hc e=>⟨o,k b o (λz=>hc (by simp[z])) e⟩) (λb xs e=>(iU (aa b _ e)).trans e) (λb o u e=>(iU (aa b _ e)).trans e) (λb ps e=>⟨#[],by rw[iU (aa b _ e),e];simp⟩) (λm hm=>?_) (λb u e=>?_) I.bare
 ·have e:b=D:=by simpa using hb
  subst e;exact⟨h1,hL,h2,h3⟩
 ·obtain⟨o,es,ep,ho,r⟩:=hm
  exact⟨o,es,ep,k _ o (Ne.symm hL) ho,r⟩
 ·by_cases z:b=D
  ·subst z
   rw[iH]at e;cases e;exact⟨hz,its,c,hv,hD⟩
  ·rw[iU z]at e
   refine(I.hok b u e).stay (λc v hc q=>k c v ?_ q) (λc q=>?_) λc v q=>?_
   ·rcases hc with y|y
    ·rw[y];exact aa b u e
    ·exact aa c _ y
   ·exact(iU (aa c _ q)).trans q
   ·exact(iU (aa c _ q)).trans q
end
section
variable{X:Cx}{pins:List (Addr×Obj)}{σ:St}{H:Hp}{s:Shared}{k:Nat}{f:Addr}{fd:FuncData}{ps:List Str}{sp:Sp}
def ajl{Q:VK}{v:V}{u:Value}(F:jQ X.prog X.w X.K X.mg X.base CX0 k f fd ps sp)(z:qW (k+2) X.A)(hb:Binds X.K fd ps [])(I:Inv X pins σ H s)(r:RelV v u)(h:sp [v] H Q E0):
  wpAny (model X.prog X.w) X.A.in1.in1 (call (.ref f) [u]) (EP X pins σ Q) (λ_ _=>False) s:=by
 have r2:Vals [v] [u]:=.cons r .nil
 have hl:([u]++([]:List Value)).length=ps.length:=by
  have:=F.len _ _ _ _ h;rw[<-this];rfl
 refine yyb (codeAny_mono (F.run X.A.in1.in1 X.stack s H ⟨[u],[]⟩ [u] [v] Q E0 z.in1.in1 I.env0.in1.in1 (hb s [u] I.kIn hl) r2 h) λr s' q=>?_)
 cases r with
 |error e=>exact q.elim
 |ok fl=>
  cases fl with
  |ret u=>exact I.after q
  |next=>exact False.elim q
  |brk=>exact False.elim q
  |cont=>exact False.elim q
theorem Paired.imp{α β:Type}{P P':α->β->Prop}(h:∀a b,P a b->P' a b):∀{xs:List α}{ys:List β},Paired P xs ys->Paired P' xs ys
 |_,_,.nil=> .nil
 |_,_,.cons a t=> .cons (h _ _ a) (Paired.imp h t)
noncomputable def Vz(kf:V->List Int)(H:Hp)(y v:V):Prop:=∃t,v=.ref t/\H t=some (.tup ((kf y).map V.int))
def Vz.same{kf:V->List Int}{H H':Hp}{y v:V}(h:Vz kf H y v)(e:∀t xs,H t=some (.tup xs)->H' t=some (.tup xs)):Vz kf H' y v:=let⟨t,a,b⟩:=h;⟨t,a,e _ _ b⟩
noncomputable def aiq(sp:Sp)(kf:V->List Int)(H:Hp)(y:V):Prop:=∀H1,Same H H1->∀R:VK,(∀t H2,Same H1 H2->H2 t=some (.tup ((kf y).map V.int))->R (.ref t) H2)->sp [y] H1 R E0
theorem Tg{E:Value->Shared->Prop}{kf:V->List Int}{H0:Hp}{kS:Addr}{Q':Shared->Prop}{ad:Value->PUnit->Sem (ForInStep PUnit)}(F:jQ X.prog X.w X.K X.mg X.base CX0 k f fd ps sp)(hr:qW (k+2) X.A)(hb:Binds X.K fd ps [])
  (ac:∀x s (D':Shared->Prop),wpAny (model X.prog X.w) X.A.in1.in1 (call (.ref f) [x]) (λk s'=>∃its n,s'.heap.get? kS=some {cls:=.type "list",data:=.seq its n}/\its.size<64/\D' {s' with heap:=s'.heap.update kS (Obj.mapSeq (·.push k))}) (λ_ _=>False) s->
   wpAny (model X.prog X.w) X.A.in1.in1 (ad x ⟨⟩) (λr s'=>r=.yield ⟨⟩/\D' s') E s) (hS0:H0 kS=none):
  ∀(ys:List V) (us:List Value) (ys0 kvs:List V) (H1:Hp) (s1:Shared),Vals ys us->ys0.length+ys.length<64->Inv X pins σ H1 s1->H1 kS=some (.lst kvs)->Same H0 H1->(∀y∈ys,aiq sp kf H0 y)->Paired (Vz kf H1) ys0 kvs->
   (∀ab H2 s2,Inv X pins σ H2 s2->H2 kS=some (.lst ab)->Same H0 H2->Paired (Vz kf H2) (ys0++ys) ab->Q' s2)->wpAny (model X.prog X.w) X.A.in1.in1 (forIn us PUnit.unit ad) (λ_ s2=>Q' s2) E s1
 |_,_,ys0,kvs,H1,s1,.nil,hl,I,hH,sm,hk,hp,fin=>by
  rw[List.forIn_nil];rw[z5]at fin;exact zy (fin kvs H1 s1 I hH sm hp)
 |y::ys,u::us,ys0,kvs,H1,s1,.cons ru rus,hl,I,hH,sm,hk,hp,fin=>by
  rw[List.forIn_cons];rw[zL]at hl;have am:ys0.length=kvs.length:=z3 hp;have h1:=ajl F hr hb I ru (hk y zj H1 sm (λv H2=>∃t,v=.ref t/\Same H1 H2/\H2 t=some (.tup ((kf y).map V.int))) λt H2 s2 ht=>⟨t,rfl,s2,ht⟩);refine zc (yc (ac u s1 (λs2=>∃aa H3,Inv X pins σ H3 s2/\H3 kS=some (.lst aa)/\Same H0 H3/\Paired (Vz kf H3) (ys0++[y]) aa) (yc h1 (λkv s2 hq=>?_) λ_ _ x=>x)) (λr s2 hq=>?_) λ_ _ x=>x)
  ·obtain⟨v,H2,I2,rv,t,rfl,af,ht⟩:=hq
   have ae:=af _ _ hH;obtain⟨z,its,n,r,an,e⟩:=I2.lstM ae;refine⟨its.toArray,n,e,by rw[zf];omega,kvs++[.ref t],_,I2.lset (t':=s2.toks) (its':=its++[kv]) ae e (by simp) (r.append (.cons rv .nil)) (by rw[zA,yU,zq];omega),iH,?_,?_⟩
   ·exact(sm.trans af).upd hS0
   ·have up:∀b xs,H2 b=some (.tup xs)->(upd H2 kS (.lst (kvs++[V.ref t]))) b=some (.tup xs):=λb xs q=>(iU λz=>by rw[z,ae]at q;cases q).trans q
    exact Paired.snoc (Paired.imp (λa b q=>q.same λt xs h=>up _ _ (af _ _ h)) hp) ⟨t,rfl,up _ _ ht⟩
  ·obtain⟨rfl,aa,H3,I3,aj,ah,ag⟩:=hq
   refine Tg F hr hb ac hS0 ys us (ys0++[y]) aa H3 s2 rus (by rw[zA,yU];omega) I3 aj ah (λz hz=>hk z (zp _ hz)) ag λab H4 s4 I4 ai al ak=>fin ab H4 s4 I4 ai al ?_
   rwa [yW]at ak
end
section
variable{P:Program}{w:World}{A:Around}{E:Value->Shared->Prop}{s:Shared}
def Yl{G:Array Nat->Prop}{ks us:List Value}{a kS:Addr}{e1 nk:Nat}{R:PySem.Fin->Shared->Prop}(fs:Nat->List Int)(ac:ks.length=us.length)(af:us.length<64)(hk:s.heap.get? kS=some (seqObj "list" ks.toArray nk)) (ho:s.heap.get? a=some (seqObj "list" #[] e1)) (ag:a≠kS)
  (hT:∀i,i<us.length->fs i≠[]/\∃b o xs m,ks.getD i Value.none=.ref b/\s.heap.get? b=some o/\o.cls=.type "tuple" /\o.data=.seq xs m/\Vals ((fs i).map V.int) xs.toList)
  (hG:0<us.length->Kok (λi j=>vP (fs i) (fs j) (decide ((fs i).length<(fs j).length))) us.length G (kas_sort us.length)) (ah:us.length<2->G (List.range us.length).toArray) (ak:∀p,G p->Prm us.length p)
  (am:∀p:Array Nat,G p->R (.done (.ret .none)) {s with heap:=(s.heap.update kS (Obj.mapSeq λ_=> #[])).update a (Obj.mapSeq λ_=>List.toArray (p.toList.map λi=>us.getD i Value.none))}):
  wpAny (model P w) A (ksk_end a false us.toArray e1 (.ref kS) ks.toArray) R E s:=by
 have an:us.toArray.size=us.length:=by simp
 have aa:∀q (p:Array Nat),arrOf q=p.map (kas_item (ks.toArray.zip us.toArray))->failedOf q=none->G p->wpAny (model P w) A (ksk_tail a false e1 (.ref kS) q) R E s:=λq p ab hf hp=>by
  have aj:(p.toList.map λi=>us.getD i Value.none).length=us.length:=by rw[za,(ak p hp).length_eq];simp
  have ae:(s.heap.update kS (Obj.mapSeq λ_=> #[])).get? a=some (seqObj "list" #[] e1):=(yb _ _ _ _ ag).trans ho;unfold ksk_tail
  try dsimp only
  rw[kat_snds ac ab];refine zc (listUpdate_at hk rfl ?_ (by rw[zf,zq];omega) (zJ _));refine zc (zzX ?_);refine zc (seqEpoch_at ae rfl ?_);refine zc (listUpdate_at ae rfl ?_ (zJ _) (by simp only[yA,if_false];rw[zf,aj,zq];omega));rw[hf];simp only[bne_self_eq_false,yA,if_false];exact zy (am p hp)
 unfold ksk_end
 try dsimp only
 rw[ze (by decide)];by_cases h2:us.toArray.size<2
 ·rw[zo h2,zo h2]
  refine zc (zy ?_);rw[StateT.run_pure];refine zc (zy ?_);dsimp only;refine aa _ (List.range us.length).toArray ?_ rfl (ah (by rw[<-an];exact h2));have e:=kas_range (ks.toArray.zip us.toArray);rw[show(ks.toArray.zip us.toArray).size=us.length by simp[ac]]at e;exact e.symm
 ·rw[ze h2,ze h2]
  have hn:0<us.length:=by omega
  obtain ⟨ff,k1,k2,k3⟩:=Dz (h:=s.heap) (us:=ks) (by
   intro v hv;obtain⟨i,hi,e⟩:=zZ hv;obtain⟨g0,b,o,xs,m,g1,g3,g4,g5,g6⟩:=hT i (by omega);have e2:ks.getD i Value.none=v:=by rw[<-e];simp[hi]
   cases hq:fs i with
   |nil=>exact(g0 hq).elim
   |cons z zs=>
    rw[hq,zl]at g6
    cases hx:xs.toList with
    |nil=>rw[hx]at g6;cases g6
    |cons u ur=>
     rw[hx]at g6
     cases g6 with
     |cons r1 r2=>
     obtain⟨t,rfl⟩:=r1;refine⟨b,o,xs,m,z,t,e2.symm.trans g1,g3,g4,g5,?_⟩;rw[<-yF,hx];rfl)
  refine zc (kat_kind k1 (by omega) (λv hv=>?_) (T:=.type "int") rfl ?_)
  ·obtain⟨i,t,rfl⟩:=k3 v hv
   exact Looks.of_pure rfl
  refine zc (yc (kat_run (ks:=ks) (vs:=us) (Q:=λq s'=>∃p:Array Nat,arrOf q=p.map (kas_item (ks.toArray.zip us.toArray))/\failedOf q=none/\G p/\s'=s)
   (G:=λp s'=>G p/\s'=s) ac (by omega) af (λp q s' a1 a2 a3 a4=>⟨p,a2,a3,a4.1,a4.2⟩)
   (Kok.wp (lt:=λi j=>vP (fs i) (fs j) (decide ((fs i).length<(fs j).length))) (λi j C hi hj hC=>?_) (hG hn) λp hp=>⟨hp,rfl⟩)) ?_ λ_ _ e=>e)
  ·obtain⟨_,b,o,xs,m,g1,g3,g4,g5,g6⟩:=hT i hi
   obtain⟨_,b',o',al,m',ai,ao,aq,ap,ad⟩:=hT j hj;show wpAny _ _ (keyLt' _ (ks.getD i Value.none) (ks.getD j Value.none)) _ _ _;rw[g1,ai];refine kat_lt g3 g5 ao ap (Ti g6 ad 0 ?_);have z1:(fs i).length=xs.size:=by simpa using g6.length
   have z2:(fs j).length=al.size:=by simpa using ad.length
   rw[<-z1,<-z2];exact hC
  ·rintro⟨⟨⟩,q⟩ s'⟨p,ab,hf,hp,rfl⟩
   dsimp only;exact aa q p ab hf hp
end
def aiJ(a v:Value):argsOk "list.sort" ⟨[a],[(Str.ofString "key",v)]⟩:=by unfold argsOk;kernel_rfl
section
variable{X:Cx}{pins:List (Addr×Obj)}{σ:St}{H:Hp}{s:Shared}{k:Nat}{f:Addr}{fd:FuncData}{ps:List Str}{sp:Sp}
noncomputable def Ql(K:Fg_)(sp:Sp):V->Hp->VK->Prop:=λx H Q=>∃(a:Addr)(ys:List V)(kf:V->List Int),x=.ref a/\SqL K H a ys/\ys.length<64/\(∀y∈ys,kf y≠[]/\aiq sp kf H y)/\
 ∀p zs H',Same H H'->H p=none->H' p=some (.lst zs)->zs.Perm ys->(∀m,(∀y∈ys,(kf y).length=m)->(ys.map kf).Nodup->zs.Pairwise λy z=>vP (kf y) (kf z) false=true)->Q (.ref p) H'
theorem Ja{α β:Type}{Pr:α->β->Prop}{d1:α}{d2:β}:∀{xs:List α}{ys:List β}{i:Nat},Paired Pr xs ys->i<xs.length->Pr (xs.getD i d1) (ys.getD i d2)
 |_,_,_,.nil,h=>by simp at h
 |_,_,0,.cons r _,_=>r
 |_,_,i+1,.cons _ t,h=>by
  simp only[List.getD_cons_succ];exact Ja t (by simpa using h)
def Wj{Q:VK}{x:V}{u:Value}(F:jQ X.prog X.w X.K X.mg X.base CX0 k f fd ps sp)(hr:qW (k+2) X.A)(hb:Binds X.K fd ps [])(I:Inv X pins σ H s)(rx:RelV x u)(h:Ql X.K sp x H Q):
  wpAny (model X.prog X.w) X.A (call (.builtin "sorted") [u] [(Str.ofString "key",.ref f)]) (EP X pins σ Q) X.xe s:=by
 obtain⟨a,ys,kf,rfl,hq,be,hK,q⟩:=h;cases rx;obtain⟨its,rv,pl,hz⟩:=I.list hq;have ae:ys.length=its.length:=rv.length;have hl:=pl.isList;refine call_function_entry_kw kind_sorted plain_sorted entry_sorted (ksk_s1 _ _) ?_;unfold Builtin.«sorted»;refine zc (m:=checkCount "sorted" 1 1 _) (zy ?_);refine zc (collect_list hl ?_ (by omega));refine zc (zzE ?_ (by omega));have hsz:((s.heap.push (seqObj "list" #[] 0)).update s.heap.objs.size (Obj.mapSeq (·++its.toArray))).objs.size=s.heap.objs.size+1:=by rw[zz3,size_push']
 have aa:(((s.heap.push (seqObj "list" #[] 0)).update s.heap.objs.size (Obj.mapSeq (·++its.toArray))).push (seqObj "list" its.toArray 0)).get? (s.heap.objs.size+1)=some (seqObj "list" its.toArray 0):=by rw[<-hsz];exact zB _ rfl
 have keep:∀b o,s.heap.get? b=some o->(((s.heap.push (seqObj "list" #[] 0)).update s.heap.objs.size (Obj.mapSeq (·++its.toArray))).push (seqObj "list" its.toArray 0)).get? b=some o:=λb o e=>
  zb _ ((yb _ _ _ _ (zD (zr e))).trans (zb _ e))
 have af:(((s.heap.push (seqObj "list" #[] 0)).update s.heap.objs.size (Obj.mapSeq (·++its.toArray))).push (seqObj "list" its.toArray 0)).objs.size=s.heap.objs.size+2:=by rw[size_push',hsz]
 show wpAny _ _ _ _ _ {s with heap:=((s.heap.push (seqObj "list" #[] 0)).update s.heap.objs.size (Obj.mapSeq (·++its.toArray))).push (seqObj "list" its.toArray 0)};rw[hsz];generalize((s.heap.push (seqObj "list" #[] 0)).update s.heap.objs.size (Obj.mapSeq (·++its.toArray))).push (seqObj "list" its.toArray 0)=h2 at aa keep af;obtain⟨D,ba⟩:∃D:Nat,s.heap.objs.size+1=D:=⟨_,rfl⟩;rw[ba]at aa⊢;refine zc (yi (wpAny_call_entry_kw slot_list_sort ⟨_,aa,rfl⟩ entry_list_sort ?body (aiJ _ _)))
 case body=>
  show wpAny (model X.prog X.w) X.A.in1.in1 (Builtin.«list.sort» ⟨[.ref D],[(Str.ofString "key",.ref f)]⟩) _ _ _;rw[ksk_t1];unfold ksk_tree;refine zc (listItems_at aa rfl ?_);refine zc (listUpdate_at aa rfl ?_ (by rw[zf,zq];omega) (zJ _));obtain⟨e1,ag⟩:∃e1,(h2.update D (Obj.mapSeq λ_=> #[])).get? D=some (seqObj "list" #[] e1):=⟨_,get?_update_seq aa (λ_=> #[])⟩;refine zc (seqEpoch_at ag rfl ?_);refine zc (wpAny_newTuple ?_ (by show its.length<=_;rw[zq];omega));refine zc (zzE ?_ (zJ _));refine yi ?_;have am:((h2.update D (Obj.mapSeq λ_=> #[])).push (seqObj "tuple" its.toArray 0)).objs.size=s.heap.objs.size+3:=by rw[size_push',zz3,af]
  have ab:∀b o,s.heap.get? b=some o->(((h2.update D (Obj.mapSeq λ_=> #[])).push (seqObj "tuple" its.toArray 0)).push (seqObj "list" #[] 0)).get? b=some o:=λb o e=>by
   have h9:b<s.heap.objs.size:=zr e;have hb:b≠D:=zD (zzK h9 (by omega));exact zb _ (zb _ ((yb _ _ _ _ hb).trans (keep b o e)))
  have ap:(((h2.update D (Obj.mapSeq λ_=> #[])).push (seqObj "tuple" its.toArray 0)).push (seqObj "list" #[] 0)).get? D=some (seqObj "list" #[] e1):=zb _ (zb _ ag);have ak:(((h2.update D (Obj.mapSeq λ_=> #[])).push (seqObj "tuple" its.toArray 0)).push (seqObj "list" #[] 0)).get? (s.heap.objs.size+3)=some (seqObj "list" #[] 0):=by rw[<-am];exact zB _ rfl
  show wpAny _ _ _ _ _ {s with heap:=((h2.update D (Obj.mapSeq λ_=> #[])).push (seqObj "tuple" its.toArray 0)).push (seqObj "list" #[] 0)};dsimp only;rw[am];generalize((h2.update D (Obj.mapSeq λ_=> #[])).push (seqObj "tuple" its.toArray 0)).push (seqObj "list" #[] 0)=h4 at ab ap ak;obtain⟨kS,ao⟩:∃kS:Nat,s.heap.objs.size+3=kS:=⟨_,rfl⟩;rw[ao]at ak⊢;have ad:D≠kS:=zD (by omega);have ah:H D=none:=I.hok.fresh (by omega);have ai:H kS=none:=I.hok.fresh (by omega);have I4:Inv X pins σ (upd H kS (.lst [])) {s with heap:=h4,toks:=s.toks}:=I.laid (t':=s.toks) ab (by omega) ⟨zJ _,[],0,.nil,ak⟩;have ac:QW X pins (upd H kS (.lst [])) D:=I.fpOk (by omega) ((iU ad).trans ah)
  have I5:Inv X (pins++[(D,seqObj "list" #[] e1)]) σ (upd H kS (.lst [])) {s with heap:=h4,toks:=s.toks}:=I4.pins_of λp hp=>by
   rcases zK.mp hp with hp|hp
   ·exact I4.pin p (zF _ hp)
   ·obtain rfl:=zC.mp hp
    exact⟨ap,ac.1,ac.2.1,ac.2.2.1,λv z=>by cases z⟩
  unfold ksk_rest;refine zc (wpAny_rule ?_)
  first|rw[List.forIn_toArray]|rw[<-Array.forIn_toList]
  refine zc (Tg (kf:=kf) (H0:=H) (kS:=kS) F hr hb (λx s' D' hx=>?_) ai ys its [] [] _ _ rv (by rw[yS];omega) I5 iH (iM ai) (λy hy=>(hK y hy).2) .nil λkvs H2 s2 I2 ar ay an=>?_)
  ·refine zc (wpAny_attempt (yc hx (λkv bh hk=>?_) λ_ _ hF=>hF.elim))
   obtain⟨its',n',e',bg,bb⟩:=hk
   try dsimp only
   refine zc (listUpdate_at e' rfl ?_ (by rw[zq];omega) (zV (zz7 (Array.size_push ..)) (by rw[zq];omega)));exact zy ⟨rfl,bb⟩
  ·obtain⟨z,ks,n,rk,bd,e⟩:=I2.lstM ar
   have bf:ys.length=kvs.length:=z3 an
   try dsimp only
   refine zc (listItems_at e rfl ?_);have al:=I2.pin (D,seqObj "list" #[] e1) (zF _ (zF _ (zC.mpr rfl)));refine Yl (G:=λp=>Prm its.length p/\Tc ys kf p) (λi=>kf (ys.getD i .non)) (by omega) (by omega) e al.1 ad (λi hi=>?_) (λhn=>ae▸Ym (by omega)) (λh2=>⟨List.Perm.refl _,λm _ _ a b ax hb=>absurd ax (by omega)⟩) (λp hp=>hp.1) λp au=>⟨_,rfl,zy ⟨_,rfl,?_⟩⟩
   ·have hm:ys.getD i .non∈ys:=by
     have:i<ys.length:=by omega
     simp[this]
    obtain⟨t,e2,e3⟩:=Ja (d1:=V.non) (d2:=V.non) an (i:=i) (by rw[zzj];omega);rw[zzj]at e3;obtain⟨tv,rt,it,bi⟩:=I2.tuple (jD e3);obtain⟨o,ho,hc,m,hd⟩:=it;refine⟨(hK _ hm).1,t,o,tv.toArray,m,?_,ho,hc,hd,rt⟩;have:=Dy rk (i:=i) (by omega);rw[e2]at this;exact this
   ·obtain⟨hp,as⟩:=au
    have az:∀i∈p.toList,i<ys.length:=λi hi=>by
     have:=yq.mp (hp.mem_iff.mp hi);omega
    have aj:p.toList.length=its.length:=by rw[hp.length_eq];simp
    have bc:(p.toList.map λi=>ys.getD i V.non).Perm ys:=by
     have:=hp.map λi=>ys.getD i V.non;rw[<-ae,JL]at this;exact this
    have I3:=(I2.lset (t':=s2.toks) (its':=[]) (f:=λ_=> #[]) ar e rfl .nil (zJ _)).unpinned;have aq:QW X pins (upd H2 kS (.lst [])) D:=⟨(iU ad).trans al.2.1,ac.2⟩;have av:(s2.heap.update kS (Obj.mapSeq λ_=> #[])).get? D=some (seqObj "list" #[] e1):=(yb _ _ _ _ ad).trans al.1;obtain⟨c,hc⟩:∃c,((s2.heap.update kS (Obj.mapSeq λ_=> #[])).update D (Obj.mapSeq λ_=>List.toArray (p.toList.map λi=>its.getD i Value.none))).get? D=some (seqObj "list" (List.toArray (p.toList.map λi=>its.getD i Value.none)) c):=⟨_,get?_update_seq av _⟩;refine⟨.ref D,_,I3.adopt (t':=s2.toks) (zs:=p.toList.map λi=>ys.getD i V.non) aq (λb o hb e=>(yb _ _ _ _ hb).trans e) hc (IK rv az) (by rw[za,aj,zq];omega),rfl,q _ _ _ ?_ ah iH bc λm h1 h2=>?_⟩
    ·exact((ay.upd ai).upd ah)
    ·refine yu.mpr λi j hi hj aw=>?_
     rw[za,aj,<-ae]at hj;have h3:=as m h1 h2 i j aw hj;have hs:p.size=ys.length:=by rw[<-z4,aj,ae]
     have e1:p.getD i 0=p.toList[i]'(by rw[z4];omega):=by simp[Array.getD,show i<p.size by omega]
     have e2:p.getD j 0=p.toList[j]'(by rw[z4];omega):=by simp[Array.getD,show j<p.size by omega]
     rw[e1,e2]at h3;rw[yE,yE];exact h3
noncomputable def Tz(K:Fg_)(sp:Sp)(t:TA):TE:=λσ H Q=>t σ H λvs H1=>∃x,vs=[x]/\Ql K sp x H1 Q
def Lz{e:Expr}{t:TA}{g:Str}{p kp kpos pos:Pos}(F:jQ X.prog X.w X.K X.mg X.base CX0 k f fd ps sp)(hr:qW (k+2) X.A)(hb:Binds X.K fd ps [])(ac:Gl X "sorted") (aa:X.mg "sorted" =none) (ad:bootBuiltins "sorted" =some (.builtin "sorted"))
  (hg:Gl X g) (hm:X.mg g=some (.ref f)) (ha:PA X [e] t) (ab:(g==("__debug__" :Str))=false:=by decide)
  (he:backTo pos (starEach [e] X.env)=(false,eval e X.env)::backTo pos (starEach [] X.env):=by rfl) (hpl:(backTo pos (starEach [e] X.env)).any (·.1)=false:=by rfl):
  PE X (.Call (.Name "sorted" p) [e] [⟨some "key",.Name g kp,kpos⟩] pos) (Tz X.K sp t):=by
 intro pins s σ H Q I h;refine yf (Al I ac aa ad ?_);refine callWith_kw (thn (ha pos pins s σ H _ I h) λus s1 ⟨vs,H1,I1,r,x,ex,q⟩=>?_) he hpl;subst ex;obtain⟨u,rfl,rx⟩:=vals1 r;have hk:PK X [⟨some "key",.Name g kp,kpos⟩] (Ei (tC (.ref f)) Xo):=YK (lZ hg hm rfl ab) aaI;refine thn (hk pos pins s1 σ H1 (λzs H2=>zs=[.ref f]/\H2=H1) I1 ⟨rfl,rfl⟩) λws s2 ⟨zs,H2,I2,rz,e1,e2⟩=>?_;subst e1 e2;obtain⟨w1,rfl,z⟩:=vals1 rz;cases z;exact Wj F hr hb I2 rx q
def Iz{K:Fg_}{e:Expr}{t:TA}{g:Str}{p kp kpos pos:Pos}(q:X.K=K)(h:PE X (.Call (.Name "sorted" p) [e] [⟨some "key",.Name g kp,kpos⟩] pos) (Tz X.K sp t)):PE X (.Call (.Name "sorted" p) [e] [⟨some "key",.Name g kp,kpos⟩] pos) (Tz K sp t):=q▸h
def ap_tSortK{K:Fg_}{sp:Sp}{t:TA}{σ:St}{H:Hp}{Q:VK}:Tz K sp t σ H Q=t σ H λvs H1=>∃x,vs=[x]/\Ql K sp x H1 Q:=rfl
def ap_rSortK{K:Fg_}{sp:Sp}{a:Addr}{H:Hp}{Q:VK}:Ql K sp (.ref a) H Q=∃(ys:List V)(kf:V->List Int),SqL K H a ys/\ys.length<64/\(∀y∈ys,kf y≠[]/\aiq sp kf H y)/\
  ∀p zs H',Same H H'->H p=none->H' p=some (.lst zs)->zs.Perm ys->(∀m,(∀y∈ys,(kf y).length=m)->(ys.map kf).Nodup->zs.Pairwise λy z=>vP (kf y) (kf z) false=true)->Q (.ref p) H':=by simp[Ql]
end
section
variable{X:Cx}
noncomputable def aiM:V->List V->Hp->VK->Prop:=λx vs H Q=>∃(l:Addr)(xs:List V)(i:Int)(y:V),x=.ref l/\vs=[.int i,y]/\H l=some (.lst xs)/\0<=i/\i<=xs.length/\i<1000000/\xs.length+1<=sizeLine/\Q .non (upd H l (.lst (xs.take i.toNat++y::xs.drop i.toNat)))
def YC:MtM X "list.insert" aiM:=by
 intro pins s σ H x vs v us Q I rx rv h;obtain⟨l,xs,i,y,rfl,rfl,hH,ac,hk,ab,hz,q⟩:=h;cases rx;obtain⟨iv,u,rfl,r1,ru⟩:=rv.two;obtain⟨t,rfl⟩:=r1;obtain⟨z,its,n,r,hl,e⟩:=I.lstM hH
 have aa:¬(!Builtin.List.listFitsIndex i)=true:=by
  rw[fitsIndex_both (Int.le_trans (by decide) ac) (zz8 ab (by decide))];exact zM
 have hsz:its.toArray.size<=sizeLine:=by rw[zf,<-hl];exact z
 refine yyd F.slot_list_insert ⟨_,e,rfl⟩ F.entry_list_insert (F.args_list_insert_3 _ _ _) (PySem.AutoSeq1.list_insert_list_int_val_1 l its.toArray n i t u aa hsz) ⟨e,?_⟩;refine⟨.non,_,I.lset (its':=its.take i.toNat++u::its.drop i.toNat) hH e ?_ ((r.take i.toNat).append (.cons ru (r.drop i.toNat))) ?_,rfl,q⟩
 ·have hm:(if i<0 then(i+(its.toArray.size:Int)).toNat else min i.toNat its.toArray.size)=i.toNat:=by
   rw[ze (by omega),zf];omega
  show(its.toArray.extract 0 (if i<0 then(i+(its.toArray.size:Int)).toNat else min i.toNat its.toArray.size)).push u++its.toArray.extract (if i<0 then(i+(its.toArray.size:Int)).toNat else min i.toNat its.toArray.size)=_;rw[hm];apply Array.toList_inj.mp;simp;exact zT (by rw[yw];omega)
 ·rw[zA,zL,zU,yw]
  omega
end
end L2
namespace L2
open PySem PySem.Spec PyProof.Rows
def aam{xs:List V}{us:List Value}(h:Vals xs us):Vals xs.reverse us.reverse:=by
 induction h with
 |nil=>exact .nil
 |cons r _ ih=>
  rw[List.reverse_cons,List.reverse_cons];exact ih.append (.cons r .nil)
section
variable{K:Fg_}{a:Addr}{xs:List V}{g:TG}{tt:TT}{te:TE}{σ:St}{H:Hp}{Q:VK}{cap:List (Option Nat)}
def lu.enumI(Sσ:St->Prop)(p:Nat->Bool)(hS:SqL K H a xs)(h0:Sσ (pD σ cap))(hz:xs.length<=sizeLine)
  (hs:∀(i:Nat) x,xs[i]? =some x->∀(σ:St)(H5:Hp)(q:Addr)(R1:St->VK)(R2:St->Hp->Prop),Sσ σ->Same H H5->H5 q=some (.tup [.int i,x])->(p i=true->∀z H6,Sσ z->Same H5 H6->R1 z (.int i) H6)->(p i=false->∀z H6,Sσ z->Same H5 H6->R2 z H6)->
   g (.ref q) σ H5 λz H4=>tt z H4 λb H5=>if b=true then te z H5 (R1 z)else R2 z H5)
  (k:∀D H',H D=Option.none->Same H H'->H' D=some (.lst (((List.range xs.length).filter p).map λi:Nat=>V.int i))->Q (.ref D) H'):lu cap (Ite K a) g tt te σ H Q:=by
 intro D hD;refine⟨λi m acc σ H2=>m=xs.length - i/\i<=xs.length/\Sσ σ/\Same H H2/\acc=((List.range i).filter p).map λi:Nat=>V.int i,⟨xs.length,rfl,zJ _,h0,iM hD,rfl⟩,?_⟩;rintro i m acc σ1 H2 ⟨rfl,hi,hσ,sm,rfl⟩ hA
 have ad:(((List.range i).filter p).map λi:Nat=>V.int i).length<=i:=by
  rw[za];exact zV (yk _ _) (by simp)
 by_cases ab:i<xs.length
 ·refine .inr ⟨⟨xs,xs[i],sm.seq hS,by simp[ab]⟩,λv H3 hy=>?_⟩
  obtain⟨q,x,hq,rfl,rfl,e1⟩:=hy;have hx:=e1 xs (sm.seq hS);have s3:=iM (o:=.tup [V.int i,x]) hq;refine hs i x hx σ1 _ q _ _ hσ (sm.trans s3) iH (λhp z H6 aa s6=>?_) λhp z H6 aa s6=>?_
  ·have ac:=(s3.trans s6) _ _ hA
   refine⟨_,ac,by omega,xs.length - (i+1),by omega,rfl,ab,aa,(sm.trans (s3.trans s6)).upd hD,?_⟩;rw[List.range_succ,ye,yn (by simpa using hp),zv];rfl
  ·have ac:=(s3.trans s6) _ _ hA
   refine⟨xs.length - (i+1),by omega,_,ac,rfl,ab,aa,sm.trans (s3.trans s6),?_⟩;rw[List.range_succ,ye,yo (by simpa using hp),zv];simp
 ·obtain rfl:i=xs.length:=by omega
  exact .inl ⟨⟨xs,sm.seq hS,zg _⟩,k D H2 hD sm hA⟩
end
end L2
namespace L2
open PySem PySem.W PySem.Spec PySem.Calls PyProof.Rows
noncomputable def VB(Pt:Addr)(H H':Hp):Prop:=∀b o,b≠Pt->H b=some o->H' b=some o
def VB.of{q:Addr}{H H':Hp}(h:Same H H'):VB q H H':=λb o _ e=>h b o e
def VB.trans{q:Addr}{H H1 H2:Hp}(h:VB q H H1)(k:VB q H1 H2):VB q H H2:=λb o n e=>k b o n (h b o n e)
end L2
namespace L2
open PySem PySem.W PySem.Spec PySem.Calls PyProof.Rows
structure alY(z TI TO i1 i2 i3 l1 l2 l3:Addr):Prop where
 zz:TI≠z/\TO≠z/\i1≠z/\i2≠z/\i3≠z/\l1≠z/\l2≠z/\l3≠z
 to:TI≠TO/\i1≠TO/\i2≠TO/\i3≠TO/\l1≠TO/\l2≠TO/\l3≠TO
 ii:i1≠i2/\i1≠i3/\i2≠i3
 j1:TI≠i1/\l1≠i1/\l2≠i1/\l3≠i1
 j2:TI≠i2/\l1≠i2/\l2≠i2/\l3≠i2
 j3:TI≠i3/\l1≠i3/\l2≠i3/\l3≠i3
end L2
namespace L2
open PySem PySem.W PySem.Spec PySem.Calls PyProof.Rows
def aiD:typeLookup (.type "list_reverseiterator") "__len__" =pure none:=by rw[typeLookup_type,builtinLookup_eq_fast];kernel_rfl
def aaA:typeLookup (.type "list_reverseiterator") "__length_hint__" =pure (some (.builtin "list_reverseiterator.__length_hint__")):=by rw[typeLookup_type,builtinLookup_eq_fast];kernel_rfl
def aag:isSubtype (.type "list_reverseiterator") (.type "list_reverseiterator")=pure true:=by rw[isSubtype_type];kernel_rfl
section
variable{prog:Program}{w:World}{A:Around}{s:Shared}{R:Result->Shared->Prop}
def Vq{it l S:Addr}{items:Array Value}{c₀:Nat}{res:Value}(hh:A.in1.handled=none)(z:s.heap.IsRevIter it l ((items.size:Int) - 1))(hl:s.heap.IsList l items)(af:l≠it)(ab:S≠it)(ae:S≠l)(hn:items.size<=sizeLine)
  (hS:s.heap.get? S=some {cls:=.type "list",data:=.seq #[] c₀})
  (hR:∀s' q c',Moved [S,it] (λa b=>b=a) s s'->s'.heap.get? S=some {cls:=.type "list",dict:=none,data:=.seq q c',slots:= #[]}->ItemsOf (λi v=>items[items.size - 1 - i]? =some v) q items.size->R (.ok (.ret res)) s'):
  wpAny (model prog w) A.in1 (Builtin.List.listExtendWith (.ref S) (.ref it) res) (λac s'=>match ac with|.done f=>R (.ok f) s'|.again c'=>c'.quiet=true/\codeAny (model prog w) A c' R s') (λe s'=>R (.error e) s') s:=by
 have W:=Walks.listRev (prog:=prog) (w:=w) hh it l af items;have hT:=z.typeIs;unfold Builtin.List.listExtendWith;refine zc (yyc hT ?_);have h1:Builtin.List.listSameRef (.ref S) (.ref it)=false:=by simp[Builtin.List.listSameRef,ab]
 have h2:(Value.type "list_reverseiterator" ==Value.type "list")=false:=by decide
 have h3:(Value.type "list_reverseiterator" ==Value.type "tuple")=false:=by decide
 simp only[h1,h2,h3,Bool.or_false,yA,if_false];refine zc (wpAny_pyIter_revIter z (zc (yi ?_)));unfold Builtin.List.listLengthHint;refine zc (yyg hT aiD ?_);show wpAny _ A.in1 (specialOf (Value.ref it) (Str.ofString "__length_hint__")>>=_) _ _ _
 refine zc (yyg hT aaA ?_);dsimp only;rw[show splitId "list_reverseiterator.__length_hint__" =some ("list_reverseiterator", "__length_hint__")from by kernel_rfl];dsimp only;refine zc (wpAny_isInstance (T:= "list_reverseiterator") (b:=true) hT aag ?_);rw[ze (by decide),zo (by kernel_rfl),ze (by decide)];refine zy ?_;rw[ze (by decide+kernel)];refine zy ⟨plainId_quiet F.plain_extend_loop _,codeAny_extend_loopS W.toS hn S (by simp[ab,ae]) res items.size 0 _ #[] c₀ rfl (zJ _) ⟨zJ _,?_,hl⟩ hS (ItemsOf.nil _) λs' q c' hm ad aa=>hR s' q c' hm ad aa⟩;rw[show((items.size:Int) - 1 - ((0:Nat):Int))=(items.size:Int) - 1 by omega];exact z
end
section
variable{prog:Program}{w:World}{A:Around}{E:Value->Shared->Prop}{s:Shared}
def Nf{it l:Addr}{items:Array Value}{Q:Value->Shared->Prop}(hh:A.in1.in1.handled=none)(ad:s.heap.IsRevIter it l ((items.size:Int) - 1))(hl:s.heap.IsList l items)(af:l≠it)(hn:items.size<=sizeLine)
  (hQ:∀s' q c',(∀b o,b≠it->s.heap.get? b=some o->s'.heap.get? b=some o)->s'.gens=s.gens->s'.drawn=s.drawn->s'.os=s.os->
   s'.heap.get? s.heap.objs.size=some {cls:=.type "list",dict:=none,data:=.seq q c',slots:= #[]}->ItemsOf (λi v=>items[items.size - 1 - i]? =some v) q items.size->Q (.ref s.heap.objs.size) s'):
  wpAny (model prog w) A (call (.type "list") [.ref it]) Q E s:=by
 have ab:it<s.heap.objs.size:=by obtain⟨o,e,_⟩:=ad;exact zr e
 have aa:l<s.heap.objs.size:=by obtain⟨o,e,_⟩:=hl;exact zr e
 refine callType_codes (Q₁:=λobj s₁=>obj=.ref s.heap.objs.size/\s₁={s with heap:=s.heap.push {cls:=.type "list",data:=.seq #[]}}) F.called_list (F.typeCall_list_1 _) F.entry_list_init (code_list_new _ ⟨rfl,rfl⟩) λobj s₁ h₁=>?_;obtain⟨rfl,rfl⟩:=h₁;have hS:(s.heap.push {cls:=.type "list",data:=.seq #[]}).get? s.heap.objs.size=some {cls:=.type "list",data:=.seq #[]}:=zB _ rfl;have ag:=zzv (Obj.mapSeq (λ_=>(#[]:Array Value))) hS rfl
 have z:∀b o,b<s.heap.objs.size->s.heap.get? b=some o->((s.heap.push {cls:=.type "list",data:=.seq #[]}).update s.heap.objs.size (Obj.mapSeq (λ_=>(#[]:Array Value)))).get? b=some o:=λb o hb e=>
  (yp _ _ (yC hb)).trans (zb _ e)
 refine⟨⟨_,hS,rfl⟩,F.args_list_init_2 _ _,?_⟩;show wpAny _ A.in1.in1 (do let old<-Builtin.List.listItems (.ref s.heap.objs.size);Builtin.List.listUpdate (.ref s.heap.objs.size) (λ_=> #[]);letGo old.toList.reverse;Builtin.List.listExtendWith (.ref s.heap.objs.size) (.ref it) .none) _ _ _;refine zc ?_;unfold Builtin.List.listItems;refine zc (zzP hS rfl (zy ?_));show wpAny _ A.in1.in1 (updateSeq s.heap.objs.size (λ_=> #[])>>=λ_=>letGo (#[]:Array Value).toList.reverse>>=λ_=>Builtin.List.listExtendWith (.ref s.heap.objs.size) (.ref it) .none) _ _ _;refine zc (yyh hS rfl (zc (zzX ?_)));refine Vq (l:=l) (items:=items) hh (ad.at λo e=>z _ o ab e) (hl.at λo e=>z _ o aa e) af (yC ab) (yC aa) hn ag λs' q c' hm ae ac=>?_;refine⟨rfl,hQ s' q c' (λb o hb e=>hm.heap b o (by simp[hb,zD (zr e)]) (z b o (zr e) e)) hm.gens hm.drawn hm.os ae ac⟩
end
section
variable{X:Cx}
noncomputable def GQ(K:Fg_)(t:TA):TE:=λσ H Q=>t σ H λvs H1=>∃a ys,vs=[.ref a]/\SqL K H1 a ys/\∀l,H1 l=none->Q (.ref l) (upd H1 l (.lst ys.reverse))
def Vu{e:Expr}{t:TA}{p p2 pos aa:Pos}(hc:X.calm=true)(ag:Gl X "list") (ai:X.mg "list" =none) (aj:Gl X "reversed") (ae:X.mg "reversed" =none) (ha:PA X [e] t)
  (hs:starEach [.Call (.Name "reversed" p2) [e] [] aa] X.env=[(false,eval (.Call (.Name "reversed" p2) [e] [] aa) X.env)]:=by rfl) (he:starEach [e] X.env=[(false,eval e X.env)]:=by rfl):
  PE X (.Call (.Name "list" p) [.Call (.Name "reversed" p2) [e] [] aa] [] pos) (GQ X.K t):=by
 intro pins s σ H Q I h;refine yf (Al I ag ai (show bootBuiltins "list" =some (.type "list")from by decide+kernel) ?_);refine PyProof.Rows.callWith_type1 (T:= "list") ?_ (by rw[hs];rfl) rfl;rw[hs];show wpAny _ _ (spliced ((false,eval (.Call (.Name "reversed" p2) [e] [] aa) X.env)::backTo pos [])) _ _ s;refine Calls.spliced_cons (yf (Al I aj ae (show bootBuiltins "reversed" =some (.type "reversed")from by decide+kernel) (PyProof.Rows.callWith_type1 (T:= "reversed") (thn (ha aa pins s σ H _ I h) λus s1 ⟨vs,H1,I1,r1,a,ys,ev,hq,q⟩=>?_) (by rw[he];rfl) rfl)));subst ev;obtain⟨u,rfl,ru⟩:=vals1 r1;cases ru;obtain⟨its,rv,pl,hz⟩:=I1.list hq;have hl:=pl.isList;have af:a<s1.heap.objs.size:=by obtain⟨o,e,_⟩:=hl;exact zr e
 refine call_reversed_list hl (Calls.spliced_nil ?_);have I2:Inv X pins σ H1 {s1 with heap:=s1.heap.push (revObj a ((its.toArray.size:Int) - 1))}:=I1.kept (t':=s1.toks) λb o e=>zb _ e;have ah:(s1.heap.push (revObj a ((its.toArray.size:Int) - 1))).IsRevIter s1.heap.objs.size a ((its.toArray.size:Int) - 1):=⟨_,zB _ rfl,rfl,rfl⟩;have hf:QW X pins H1 s1.heap.objs.size:=I1.fpOk (zg _) (I1.hok.fresh (zg _));have hsz:its.toArray.size<=sizeLine:=by rw[zf,<-rv.length];exact hz
 refine Nf (s:={s1 with heap:=s1.heap.push (revObj a ((its.toArray.size:Int) - 1))}) (I.ok.hd hc) ah (hl.at λo e=>zb _ e) (zD af) hsz λs' acc c k1 k2 k3 k4 hS ab=>?_;obtain⟨h',g,d,tk,os⟩:=s';obtain rfl:g=s1.gens:=k2;obtain rfl:d=s1.drawn:=k3;obtain rfl:os=s1.os:=k4;have e1:(s1.heap.push (revObj a ((its.toArray.size:Int) - 1))).objs.size=s1.heap.objs.size+1:=zzp ..;rw[show(({s1 with heap:=s1.heap.push (revObj a ((its.toArray.size:Int) - 1))}:Shared).heap.objs.size)=s1.heap.objs.size+1 from e1]at hS⊢
 have ac:acc.toList=its.reverse:=by
  refine yX λi=>?_;by_cases hi:i<its.length
  ·have ad:i<acc.size:=by rw[ab.1,zf];exact hi
   have h2:its.toArray[its.toArray.size - 1 - i]? =some acc[i]:=ab.2 i acc[i] (zzc ad);rw[yF,zzc ad,List.getElem?_reverse hi];rw[zzy,zf]at h2;exact h2.symm
  ·rw[zX (by rw[z4,ab.1,zf];omega),zX (by rw[List.length_reverse];omega)]
 refine⟨.ref (s1.heap.objs.size+1),_,I2.turnedT (t':=tk) (fp:=[s1.heap.objs.size]) (T:=s1.heap.objs.size+1) (o:=.lst ys.reverse) (λb hb=>by rw[zC.mp hb];exact hf) (zz7 e1) (λb o hb e=>k1 b o (λz=>hb (by simp[z])) e) ?_,rfl,q _ (I1.hok.fresh (ym _))⟩;refine⟨by rw[List.length_reverse];exact hz,its.reverse,c,aam rv,?_⟩;rw[<-ac,Array.toArray_toList];exact hS
def Rk{K:Fg_}{t:TA}{e:Expr}(q:X.K=K)(h:PE X e (GQ X.K t)):PE X e (GQ K t):=q▸h
def ap_tListRev{K:Fg_}{t:TA}{σ:St}{H:Hp}{Q:VK}:GQ K t σ H Q=t σ H λvs H1=>∃a ys,vs=[.ref a]/\SqL K H1 a ys/\∀l,H1 l=none->Q (.ref l) (upd H1 l (.lst ys.reverse)):=rfl
end
end L2
namespace L2
open PySem PySem.W PySem.Spec PySem.Calls PyProof.Rows
section
variable{prog:Program}{w:World}{A:Around}{R:Result->Shared->Prop}{I:Addr}{fp wr:List Addr}{G:Array GenState->Array GenState->Prop}{n:Nat}{P:Nat->Value->Prop}{St:Nat->Shared->Prop}
def Wo(W:WalksS prog w A.in1 I fp wr G n P St)(bt:Nat->Nat->Bool)(ag:CmpOf prog w A.in1 .Lt P bt)(z:∀j,0<j->j<n->bt j 0=false)(S:Addr)(ai:S∉fp)(dv v0:Value)(ah:P 0 v0):
  ∀(k j:Nat)(s:Shared)(c:Nat),n - (j+1)=k->j+1<=n->St (j+1) s->s.heap.get? S=some {cls:=.type "list",dict:=none,data:=.seq #[v0,v0] c,slots:= #[]}->
  (∀s',Moved (S::wr) G s s'->R (.ok (.ret v0)) s')->codeAny (model prog w) A (.builtin "min.loop" ⟨[.ref I,.none,.ref S],[("default",dv)]⟩) R s:=by
 have ad:S∉wr:=λh=>ai (W.sub _ h);have q:∀b∈wr,b∈S::wr:=λb z=>zp _ z
 have al:(toString "min" ++toString ".loop" :String)= "min.loop" :=by decide
 have ac:∀{b:Addr},b∉S::wr->S≠b:=λz h=>z (h▸zj);intro k
 induction k with
 |zero=>
  intro j s c hk hj aa hS hR;have aj:j+1=n:=by omega
  refine codeAny_builtin F.entry_min_loop ?_;rw[Around.under_plainId F.plain_min_loop _];show wpAny _ A.in1 (seqItems? (.ref S)>>=_) _ _ s
  refine zc (zzP hS rfl ?_);show wpAny _ A.in1 (tryCatch (pyNext (.ref I)) _>>=_) _ _ s
  refine zc (y9 (W.done s _ _ (aj▸aa) λs' hm=>?_));have hS':=hm.heap S _ ad hS;show wpAny _ A.in1 (updateSeq S (λ_=> #[])>>=_) _ _ _
  refine zc (yyh hS' rfl (zc (zzX (zy (hR _ ((hm.mono q).then_heap (tk:=s'.toks) (zg _) λb o z e=>(yp _ _ (ac z)).trans e))))))
 |succ k ih=>
  intro j s c hk hj aa hS hR;have ab:j+1<n:=by omega
  refine codeAny_builtin F.entry_min_loop ?_;rw[Around.under_plainId F.plain_min_loop _];show wpAny _ A.in1 (seqItems? (.ref S)>>=_) _ _ s
  refine zc (zzP hS rfl ?_);show wpAny _ A.in1 (tryCatch (pyNext (.ref I)) _>>=_) _ _ s
  refine zc (y9 (W.item (j+1) s _ _ ab aa λv s' hP af hm=>?_));have hS':=hm.heap S _ ad hS;show wpAny _ A.in1 (tryCatch (holding [v,v] (richCompare .Lt v v0>>=_)) _>>=_) _ _ _
  refine zc (y9 (yi (zc (ag (j+1) 0 v v0 _ _ _ hP ah (zc (yi (yr (zc (zzX (zy ?_))))))))));rw[z (j+1) (Nat.succ_pos _) ab];simp only[yA,if_false];refine zc (zzX ?_);rw[al];exact zy ⟨plainId_quiet F.plain_min_loop _,ih (j+1) _ c (by omega) ab af hS' λak ae=>hR ak (Moved.trans W.gtrans (hm.mono q) ae)⟩
def Wb(W:WalksS prog w A.in1 I fp wr G n P St)(bt:Nat->Nat->Bool)(af:CmpOf prog w A.in1 .Lt P bt)(z:∀j,0<j->j<n->bt j 0=false)(S:Addr)(aa:S∉fp)(dv:Value){s:Shared}{c:Nat}(ab:St 0 s)(hS:s.heap.get? S=some {cls:=.type "list",dict:=none,data:=.seq #[] c,slots:= #[]})
  (hR:∀v s',(n=0->v=dv)->(0<n->P 0 v)->Moved (S::wr) G s s'->R (.ok (.ret v)) s'):codeAny (model prog w) A (.builtin "min.loop" ⟨[.ref I,.none,.ref S],[("default",dv)]⟩) R s:=by
 have ag:S∉wr:=λh=>aa (W.sub _ h);have q:∀b∈wr,b∈S::wr:=λb z=>zp _ z
 have aj:(toString "min" ++toString ".loop" :String)= "min.loop" :=by decide
 have ad:∀{b:Addr},b∉S::wr->S≠b:=λz h=>z (h▸zj);refine codeAny_builtin F.entry_min_loop ?_;rw[Around.under_plainId F.plain_min_loop _];show wpAny _ A.in1 (seqItems? (.ref S)>>=_) _ _ s
 refine zc (zzP hS rfl ?_);show wpAny _ A.in1 (tryCatch (pyNext (.ref I)) _>>=_) _ _ s
 by_cases hn:n=0
 ·refine zc (y9 (W.done s _ _ (hn▸ab) λs' hm=>?_))
  show wpAny _ A.in1 (rule _>>=_) _ _ _;exact zc (wpAny_rule (zy (hR dv _ (λ_=>rfl) (λh=>absurd h (by omega)) (hm.mono q))))
 ·have hp:0<n:=by omega
  refine zc (y9 (W.item 0 s _ _ hp ab λv s' hP ae hm=>?_));have hS':=hm.heap S _ ag hS;show wpAny _ A.in1 (updateSeq S (λ_=> #[v,v])>>=_) _ _ _
  refine zc (yyh hS' rfl ?_);rw[aj];refine zy ⟨plainId_quiet F.plain_min_loop _,Wo W bt af z S aa dv v hP _ 0 _ _ rfl hp (W.frame _ s' _ s'.toks ae (zg _) λb ai o e=>(yp _ _ (λh:S=b=>aa (by rw[h];exact ai))).trans e) (zzv _ hS' rfl) λah ac=>?_⟩;exact hR v ah (λh=>absurd h hn) (λ_=>hP) (Moved.trans W.gtrans ((hm.mono q).then_heap (by first|exact zg _|exact ym _|omega) λb o z e=>(yp _ _ (ad z)).trans e) ac)
end
def amu(a v:Value):argsOk "min" ⟨[a],[(Str.ofString "default",v)]⟩:=by unfold argsOk;kernel_rfl
section
variable{prog:Program}{w:World}{A:Around}{E:Value->Shared->Prop}{s:Shared}
def Mv{l:Addr}{its:List Value}{ns:List Int}{dv:Value}{Q:Value->Shared->Prop}(hh:A.in1.handled=none)(hl:s.heap.IsList l its.toArray)(hi:IntsAre its ns)(ac:ns.Pairwise (·<·))
  (hQ:∀v h' tk,(ns=[]->v=dv)->(∀n r,ns=n::r->∃t,v=.int n t)->(∀b o,s.heap.get? b=some o->h'.get? b=some o)->Q v {s with heap:=h',toks:=tk}):
  wpAny (model prog w) A (call (.builtin "min") [.ref l] [(Str.ofString "default",dv)]) Q E s:=by
 have ai:(toString "min" ++toString ".loop" :String)= "min.loop" :=by decide
 have ae:l<s.heap.objs.size:=by obtain⟨o,e,_⟩:=hl;exact zr e
 have aa:wpAny (model prog w) A.in1 (Builtin.«min» ⟨[.ref l],[(Str.ofString "default",dv)]⟩) (λah s'=>match ah with
   |.done f=>(match(Except.ok f:Result)with|.ok (.ret v)=>Q v s'|.ok _=>False|.error e=>E e s')
   |.again c'=>c'.quiet=true/\codeAny (model prog w) A c' (λr s'=>match r with|.ok (.ret v)=>Q v s'|.ok _=>False|.error e=>E e s') s') E s:=by
  show wpAny _ A.in1 (Builtin.Builtins.bindParams "min" ["key", "default"] 0 ⟨[],[(Str.ofString "default",dv)]⟩>>=_) _ _ s;refine zc (wpAny_of_eq (show Builtin.Builtins.bindParams "min" ["key", "default"] 0 ⟨[],[(Str.ofString "default",dv)]⟩=pure [none,some dv]from rfl) (zc (zy (zc (yJ hl ?_)))))
  have ia:∀(i:Nat) v,its.toArray[i]? =some v->∃t,v=.int (ns.getD i 0) t:=λi v e=>by
   rw[zzy]at e;have rv:=vU hi;have aj:i<its.length:=(zk.mp e).1;have af:i<ns.length:=by have:=rv.length;rw[za]at this;omega
   obtain⟨u,hu,ru⟩:=rv.get (show(ns.map V.int)[i]? =some (.int ns[i]) by rw[zd,zh af];rfl);rw[e]at hu;obtain rfl:=zw hu;obtain⟨t,rfl⟩:=ru;exact⟨t,by simp[af]⟩
  have q:its.length=ns.length:=by have:=(vU hi).length;rw[za]at this;exact this.symm
  refine zc (zzE ?_ (zJ _));rw[ai];have W:=(Walks.list (prog:=prog) (w:=w) (A:=A.in1) hh s.heap.objs.size l (zD ae) its.toArray).toS;have e1:(s.heap.push {cls:=.type "list_iterator",data:=.fields #[.ref l,.int 0 0]}).objs.size=s.heap.objs.size+1:=zzp ..;refine zy ⟨plainId_quiet F.plain_min_loop _,Wb W _ (CmpOf.ints_lt (λi=>ns.getD i 0) ia) (λj h0 hj=>?_) _ ?_ dv ?_ (zB _ rfl) λv s' h1 h2 hm=>?_⟩
  ·rw[zf,q]at hj
   have ag:0<ns.length:=by omega
   have:=yu.mp ac 0 j ag hj h0;have ej:ns.getD j 0=ns[j]:=by simp[hj]
   have e0:ns.getD 0 0=ns[0]:=by simp[ag]
   rw[ej,e0];exact zI (by omega)
  ·show(s.heap.push _).objs.size∉[s.heap.objs.size,l]
   rw[e1];simp only[zu,zn,or_false,not_or];exact⟨Nat.succ_ne_self _,λz=>absurd ae (Nat.not_lt.mpr (z▸ym _))⟩
  ·exact⟨⟨_,zb _ (zB _ rfl),rfl,rfl⟩,hl.at λo e=>zb _ (zb _ e)⟩
  ·obtain⟨h',g,d,tk,os⟩:=s'
   obtain rfl:g=s.gens:=hm.gens;obtain rfl:d=s.drawn:=hm.drawn;obtain rfl:os=s.os:=hm.os;refine hQ v h' tk (λe=>h1 (by rw[zf,q,e];rfl)) (λn r e=>?_) λb o e=>hm.heap b o ?_ (zb _ (zb _ e))
   ·obtain⟨t,rfl⟩:=ia 0 v (h2 (by rw[zf,q,e];exact Nat.succ_pos _))
    exact⟨t,by rw[e];rfl⟩
   ·have ab:=zr e
    have e2:({s with heap:=s.heap.push {cls:=.type "list_iterator",data:=.fields #[.ref l,.int 0 0]}}:Shared).heap.objs.size=s.heap.objs.size+1:=e1;rw[e2];simp only[zu,zn,or_false,not_or];exact⟨λz=>absurd ab (Nat.not_lt.mpr (z▸ym _)),zD ab⟩
 refine yyb (codeAny_call_builtin F.plain_min F.entry_min ?_);simp only[checkBuiltinCall,F.kind_min]
 cases ad:Manifest.signature? "min" with
 |none=>exact zy aa
 |some sig=>
  have ha':Bind.checkArgs "min" sig ⟨[.ref l],[(Str.ofString "default",dv)]⟩=pure ():=by simpa only[argsOk,ad] using amu (.ref l) dv
  simp only[ha'];exact zy aa
end
section
variable{X:Cx}
noncomputable def ZX(K:Fg_)(t:TA)(td:TE):TE:=λσ H Q=>t σ H λvs H1=>td σ H1 λy H2=>∃(a:Addr)(ns:List Int)(i:Int),vs=[.ref a]/\[y]=[.int i]/\SqL K H2 a (ns.map V.int)/\ns.Pairwise (·<·)/\Q (.int (ns.headD i)) H2
def ajw{e d:Expr}{t:TA}{td:TE}{p kpos pos:Pos}(hc:X.calm=true)(hg:Gl X "min") (hm:X.mg "min" =none) (ha:PA X [e] t) (hd:PE X d td)
  (he:backTo pos (starEach [e] X.env)=(false,eval e X.env)::backTo pos (starEach [] X.env):=by rfl) (hpl:(backTo pos (starEach [e] X.env)).any (·.1)=false:=by rfl):
  PE X (.Call (.Name "min" p) [e] [⟨some "default",d,kpos⟩] pos) (ZX X.K t td):=by
 intro pins s σ H Q I h;refine yf (Al I hg hm (show bootBuiltins "min" =some (.builtin "min")from by decide+kernel) ?_);refine callWith_kw (thn (ha pos pins s σ H _ I h) λus s1 ⟨vs,H1,I1,r,q1⟩=>?_) he hpl;have hk:PK X [⟨some "default",d,kpos⟩] (Ei td Xo):=YK hd aaI;refine thn (hk pos pins s1 σ H1 (λzs H2=>∃(a:Addr)(ns:List Int)(i:Int),vs=[.ref a]/\zs=[.int i]/\SqL X.K H2 a (ns.map V.int)/\ns.Pairwise (·<·)/\Q (.int (ns.headD i)) H2) I1 q1) λws s2 ⟨zs,H2,I2,rz,a,ns,i,ev,ey,hS,z,q⟩=>?_;subst ev ey;obtain⟨u,rfl,ru⟩:=vals1 r;cases ru;obtain⟨v1,rfl,aa⟩:=vals1 rz;obtain⟨ab,rfl⟩:=aa;obtain⟨its,rv,pl,hz⟩:=I2.list hS;refine Mv (ns:=ns) (I.ok.hd hc) pl.isList (intsAre_of rv) z λv h' tk h1 h2 k=>⟨.int (ns.headD i),H2,I2.kept (t':=tk) k,?_,q⟩
 cases ns with
 |nil=>rw[h1 rfl];exact⟨_,rfl⟩
 |cons n r=>obtain⟨t,rfl⟩:=h2 n r rfl;exact⟨_,rfl⟩
def ap_tMinD{K:Fg_}{t:TA}{td:TE}{σ:St}{H:Hp}{Q:VK}:ZX K t td σ H Q=t σ H λvs H1=>td σ H1 λy H2=>∃(a:Addr)(ns:List Int)(i:Int),vs=[.ref a]/\[y]=[.int i]/\SqL K H2 a (ns.map V.int)/\ns.Pairwise (·<·)/\Q (.int (ns.headD i)) H2:=rfl
def Zz{K:Fg_}{t:TA}{td:TE}{e:Expr}(q:X.K=K)(h:PE X e (ZX X.K t td)):PE X e (ZX K t td):=q▸h
end
end L2
namespace L2
open PySem PySem.W PySem.Spec PyProof.Rows
section
variable{P:Program}{w:World}{A:Around}{E:Value->Shared->Prop}{s:Shared}
theorem Tr{b f:Bool}{Q:Bool->Shared->Prop}:∀(xs:List Value)(i:Nat),Q f s->KatLex P w A b f Q (xs.zip xs) i s
 |[],i,h=>h
 |x::xs,i,h=>kat_cons (SeqAt.EqAt.same x P w _ _ (kat_yes (Tr xs (i+1) h)))
end
def ap_break{D:Ends}{σ:St}{H:Hp}:aaX D σ H=D.bk σ H:=rfl
section
variable{X:Cx}
def ait{ys:List V}{ts:V->List Int}{m:Nat}(h1:∀y∈ys,(ts y).length=m)(h2:(ys.map ts).Nodup)(hn:1<=ys.length):
  Kok (λi j=>vP (ts (ys.getD i .non)) (ts (ys.getD j .non)) false) ys.length (λp=>Prm ys.length p/\Tc ys ts p) (kas_sort ys.length):=by
 have hm:∀i,i<ys.length->(ts (ys.getD i .non)).length=m:=λi hi=>h1 _ (by simp[hi]);refine Kok.congr (λi j hi q=>?_) (Ym (ts:=ts) hn);rw[hm i hi,hm j q,zI (ya _)]
end
end L2
namespace L2
open PySem PySem.W PySem.Spec PySem.Calls PyProof.Rows
section
variable{X:Cx}
noncomputable def Um(K:Fg_):List V->Hp->VK->Prop:=λxs H Q=>∃(a:Addr)(ns:List Int),xs=[.ref a]/\SqL K H a (ns.map V.int)/\ns.length<64/\
 ∀p (ms:List Int),H p=none->ms.Perm ns->(ms.Pairwise λx y=>x<=y)->Q (.ref p) (upd H p (.lst (ms.map V.int)))
def UJ:nT X (.builtin "sorted") (Um X.K):=by
 intro pins s σ H xs us Q I r h;obtain⟨a,ns,rfl,hq,aa,q⟩:=h;obtain⟨u,rfl,rx⟩:=vals1 r;cases rx;obtain⟨its,z,pl,hz⟩:=I.list hq;have hi:IntsAre its ns:=intsAre_of z;have ab:its.length=ns.length:=by rw[<-z.length,za]
 refine sorted_ints pl.isList hi (by omega) λout ms h1 h2 h3=>?_;obtain⟨c,hc⟩:=sortedAll_at s.heap its out;refine⟨.ref (s.heap.objs.size+1),_,I.laid (t':=s.toks) (o:=.lst (ms.map V.int)) (λb o e=>sortedAll_old e) (ym _) ?_,rfl,q _ _ (I.hok.fresh (ym _)) h2 h3⟩;refine⟨by rw[za,h2.length_eq,zq];omega,out.toList,c,vU h1,?_⟩;rw[hc,Array.toArray_toList]
def RM{K:Fg_}(q:X.K=K:=by rfl):nT X (.builtin "sorted") (Um K):=q▸UJ
def ap_rSortI{K:Fg_}{a:Addr}{H:Hp}{Q:VK}:Um K [.ref a] H Q=∃(ns:List Int),SqL K H a (ns.map V.int)/\ns.length<64/\
 ∀p (ms:List Int),H p=none->ms.Perm ns->(ms.Pairwise λx y=>x<=y)->Q (.ref p) (upd H p (.lst (ms.map V.int))):=by simp[Um]
end
end L2
namespace L2
open PySem PySem.W PySem.Spec PySem.Calls PyProof.Rows
noncomputable def Gk(v a:Addr):HO:=.ext λh=>h.IsItemsView v a
noncomputable def Iti(a:Addr)(o:Obj)(kvs:List (Key×V)):It:=⟨λi H=>H a=some (.frz o (.dK kvs))/\i<kvs.length,λi H x H'=>∃p k v,H p=none/\x=.ref p/\H'=upd H p (.tup [kV k,v])/\kvs[i]? =some (k,v),λi H=>H a=some (.frz o (.dK kvs))/\kvs.length<=i⟩
def ZZ:entryFor table "dict_itemiterator.__iter__" =some Builtin.«dict_keyiterator.__iter__»:=entryFor_alias (id':= "dict_keyiterator.__iter__") (by kernel_rfl) (by decide+kernel) (by decide+kernel) (by kernel_rfl)
def Ru{P:Program}{w:World}{A:Around}{E:Value->Shared->Prop}{s:Shared}{it d:Addr}{i n ep:Nat}{ok ov:Value}{Q:Value->Shared->Prop}(z:IsItemIter s.heap it d i n ep ok ov)(h:Q (.ref it) s):wpAny (model P w) A (pyIter (.ref it)) Q E s:=by
 have q:s.TypeIs (.ref it) "dict_itemiterator" :=⟨_,z,rfl⟩;refine zzW q F.slot_dict_itemiterator_iter (zzb F.slot_dict_itemiterator_iter q ZZ ?_ (F.args_dict_itemiterator_iter_1 _));show wpAny _ _ (ret (.ref it)) _ _ s;exact zy ⟨_,rfl, "dict_itemiterator",_,q,F.slot_dict_itemiterator_next.lookup,h⟩
def aaH{P:Program}{w:World}{k:Key}{u:Value}(h:(jM P w).is k u=true):RelV (kV k) u:=by
 rcases lH h with⟨i,t,rfl,rfl⟩|⟨x,t,rfl,rfl⟩
 ·exact⟨t,rfl⟩
 ·exact⟨t,rfl⟩
def Vn{P:Program}{w:World}{K:Fg_}{elts:List Expr}{x1:Nat}{pos:Pos}{a it:Addr}{o:Obj}{kvs:List (Key×V)}{es:Array DictEntry}{ep:Nat}(ad:o.data=.dict es ep):Turn P w K (.Tuple elts x1 pos) (Iti a o kvs) [it] it (λi h=>∃ok ov,IsItemIter h it a i kvs.length ep ok ov) where
 mem:=by simp
 obj:=λi h st b hb=>by
  obtain rfl:b=it:=by simpa using hb
  obtain⟨ok,ov,e⟩:=st;exact⟨_,e,λv z=>by cases z⟩
 keep:=λi h h' st k=>let⟨ok,ov,e⟩:=st;⟨ok,ov,k it (by simp) _ e⟩
 item:=by
  intro X hP hw hK hc i pins s σ H E I hf st hg;subst hP hw hK;obtain⟨ae,am⟩:=hg;obtain⟨vs,rel,af⟩:=Mg I ae ad;have ac:kvs.length=vs.length:=z3 rel;obtain⟨⟨k0,v0⟩,hx⟩:∃q,vs[i]? =some q:=⟨_,zh (by omega)⟩;obtain⟨p,hp,e1,e2⟩:=tX rel hx;obtain⟨ok,ov,aa⟩:=st;rw[ac]at aa;refine wpAny_pyNext_items_item aa af (k:=k0) (v:=v0) hx λkey h' ak ah aj hsz ag=>?_;refine⟨_,rfl,wpAny_letOwnedTupleGo_items (s:={s with heap:=h'}) ah λai ab sb=>?_⟩;have an:s.heap.objs.size≠it:=yC (zr aa)
  have k:∀c o,c∉[it]->s.heap.get? c=some o->ai.get? c=some o:=λc o hc e=>by
   have hc':c≠it:=by simpa using hc
   exact(sb.2 c hc').trans (ag c o hc' e)
  have al:ai.get? s.heap.objs.size=some {cls:=.type "tuple",data:=.seq #[key,v0]}:=(sb.2 _ an).trans aj;rw[<-ac]at ab
  refine ⟨.ref s.heap.objs.size,upd H s.heap.objs.size (.tup [kV p.1,p.2]),I.turnedT (t':=s.toks) hf (zg _) k ⟨by rw[zq];simp,[key,v0],.cons (aaH (by rw[show p.1=k0 from e1];exact ak)) (.cons e2 .nil),_,al,rfl,_,rfl⟩,rfl,
   ⟨_,p.1,p.2,I.hok.fresh (zg _),rfl,rfl,hp⟩,⟨_,_,ab⟩,λc hb=>?_⟩
  obtain rfl:c=it:=by simpa using hb
  rw[iU (zD (zr aa))];exact(hf c hb).1
 done:=by
  intro X hP hw hK hc i pins s σ H E I hf st hg;subst hP hw hK;obtain⟨ae,am⟩:=hg;obtain⟨vs,rel,af⟩:=Mg I ae ad;have ac:kvs.length=vs.length:=z3 rel;obtain⟨ok,ov,aa⟩:=st;rw[ac]at aa;obtain⟨f0,f1,f2,f3,f4,f5⟩:=hf it (by simp);exact wpAny_pyNext_items_end (I.ok.hd hc) aa af (by simp;omega) λh' eb=>⟨rfl,I.turned (t':=s.toks) (λb o hb e=>eb b o hb e) f0 f1 f3 f4 f5⟩
 self:=λ_ _ _ _ _ ⟨_,_,st⟩ h=>Ru st h
section
variable{X:Cx}{elts:List Expr}{x1:Nat}{tpos:Pos}
noncomputable def aaJ(tl:TE):TI:=λσ H R=>tl σ H λx H1=>∃v a kvs,x=.ref v/\H1 v=some (Gk v a)/\H1 a=some (.dK kvs)/\∀o,R (Iti a o kvs) (upd H1 a (.frz o (.dK kvs)))
def Uq{l:Expr}{tl:TE}(hl:PE X l tl):PI X (.Tuple elts x1 tpos) l (aaJ tl):=by
 intro pins s σ H R I h;refine thn (hl pins s σ H _ I h) λu s1 ⟨x,H1,I1,r1,v,a,kvs,ex,hv,ha,q⟩=>?_;subst ex;cases r1;obtain⟨aa,_,_⟩:=(show mq X.prog X.w H1 s1.heap v (Gk v a)from I1.hok v _ hv);obtain⟨z,ab,vs,rel,o,es,ep,q1,q2,q3,q4⟩:=(show mq X.prog X.w H1 s1.heap a (.dK kvs)from I1.hok a _ ha);have ac:kvs.length=vs.length:=z3 rel;have ad:s1.heap.DictAt (jM X.prog X.w) a vs ep:=⟨o,es,q1,q2,q3,q4⟩;refine wpAny_pyIter_items aa ad ?_;have I2:Inv X pins σ (upd H1 a (.frz o (.dK kvs))) s1:=I1.write (t':=s1.toks) (h':=s1.heap) (by rw[ha];exact True.intro) (.inl rfl) (λb u _ e=>e) ⟨o,q1⟩ (show mq X.prog X.w _ s1.heap a (.frz o (.dK kvs))from⟨q1,z,ab,vs,rel,o,es,ep,q1,q2,q3,q4⟩);refine⟨s1.heap.objs.size,[s1.heap.objs.size],_,_,_,rfl,I2.kept (t':=s1.toks) λb o e=>zb _ e,Vn q3,⟨.none,.none,by rw[ac];exact zB _ rfl⟩,λb hb=>?_,q o⟩;obtain rfl:b=s1.heap.objs.size:=by simpa using hb
 exact I2.fpOk (zg _) (I2.hok.fresh (zg _))
noncomputable def Xb:V->List V->Hp->VK->Prop:=λx vs H Q=>∃a kvs,x=.ref a/\vs=[]/\H a=some (.dK kvs)/\∀v,H v=none->Q (.ref v) (upd H v (Gk v a))
def Sv:MtR X "dict.items" Xb:=by
 intro pins s σ H x vs v us Q I rx rv h;obtain⟨a,kvs,rfl,rfl,ha,q⟩:=h;cases rx;have ab:=rv.zero;subst ab;obtain⟨z,aa,ws,rel,dd⟩:=Vs I.hok ha;refine yP zzn dd.typeIs PySem.F.entry_dict_items (PySem.F.args_dict_items_1 _) (meets_dict_items (jM X.prog X.w) a aa) ⟨⟨ws,dd⟩,?_⟩;have hg:(s.heap.push {cls:=.type "dict_items",data:=.fields #[.ref a]}).IsItemsView s.heap.objs.size a:=⟨_,zB _ rfl,rfl,rfl⟩;exact⟨.ref s.heap.objs.size,_,I.laid (a:=s.heap.objs.size) (o:=Gk s.heap.objs.size a) (t':=s.toks) (λb o e=>zb _ e) (zg _) ⟨hg,⟨_,zB _ rfl⟩,λh1 h2 ⟨ov,e1,e2⟩ k=>⟨ov,k ov e1,e2⟩⟩,rfl,q _ (I.hok.fresh (zg _))⟩
end
section
variable{K:Fg_}{σ:St}{H:Hp}{Q:VK}{R:It->Hp->Prop}{tl:TE}{g:TG}{tt:TT}{te:TE}{cap:List (Option Nat)}{a:Addr}{o:Obj}{kvs:List (Key×V)}
def ap_iItems:aaJ tl σ H R=tl σ H λx H1=>∃v a kvs,x=.ref v/\H1 v=some (Gk v a)/\H1 a=some (.dK kvs)/\∀o,R (Iti a o kvs) (upd H1 a (.frz o (.dK kvs))):=rfl
def ap_rItems:Xb (.ref a) [] H Q=∃kvs,H a=some (.dK kvs)/\∀v,H v=none->Q (.ref v) (upd H v (Gk v a)):=by simp[Xb]
def lu.itemsF(Sσ:St->Prop)(q:Key×V->Bool)(F:Key×V->V->Hp->Prop)(hH:H a=some (.frz o (.dK kvs)))(h0:Sσ (pD σ cap))(hz:kvs.length<=sizeLine)
  (hs:∀(D:Addr)(i:Nat)(z:Key×V),kvs[i]? =some z->∀(σ:St)(H5:Hp)(p:Addr)(R1:St->VK)(R2:St->Hp->Prop),Sσ σ->Same H H5->H D=Option.none->(∃acc,H5 D=some (.lst acc))->H5 p=Option.none->
   (q z=true->∀v σ4 H6,Sσ σ4->Same (upd H5 p (.tup [kV z.1,z.2])) H6->(∀H',But D H6 H'->F z v H')->R1 σ4 v H6)->(q z=false->∀σ4 H6,Sσ σ4->Same (upd H5 p (.tup [kV z.1,z.2])) H6->R2 σ4 H6)->
   g (.ref p) σ (upd H5 p (.tup [kV z.1,z.2])) λσ4 H4=>tt σ4 H4 λb H5=>if b=true then te σ4 H5 (R1 σ4)else R2 σ4 H5)
  (k:∀D H' acc,H D=Option.none->Same H H'->H' D=some (.lst acc)->acc.length=(kvs.filter q).length->(∀(i:Nat) v,acc[i]? =some v->∃z,(kvs.filter q)[i]? =some z/\F z v H')->Q (.ref D) H'):lu cap (Iti a o kvs) g tt te σ H Q:=by
 intro D hD;refine⟨λi m acc σ H2=>m=kvs.length - i/\i<=kvs.length/\Sσ σ/\Same H H2/\acc.length=((kvs.take i).filter q).length/\∀(j:Nat) v,acc[j]? =some v->∃z,((kvs.take i).filter q)[j]? =some z/\∀H',But D H2 H'->F z v H',⟨kvs.length,rfl,zJ _,h0,iM hD,rfl,λj v e=>by simp at e⟩,?_⟩;rintro i m acc σ1 H2 ⟨rfl,hi,hσ,sm,ad,hF⟩ hA;by_cases af:i<kvs.length
 ·refine .inr ⟨⟨sm _ _ hH,af⟩,λy H3 hy=>?_⟩
  obtain⟨p,k0,v0,hp,rfl,rfl,ag⟩:=hy;have htk:kvs.take (i+1)=kvs.take i++[(k0,v0)]:=by rw[zN,ag];rfl
  have al:((kvs.take i).filter q).length<=i:=zV (yk _ _) (by rw[zU];omega);have sn:=iM (o:=.tup [kV k0,v0]) hp;refine hs D i (k0,v0) ag σ1 H2 p _ _ hσ sm hD ⟨_,hA⟩ hp (λhf v σ4 H6 ae s6 aj=>?_) λhf σ4 H6 ae s6=>?_
  ·have ab:=sn.trans s6
   have ak:=ab _ _ hA;have ac:(kvs.take (i+1)).filter q=(kvs.take i).filter q++[(k0,v0)]:=by rw[htk,ye,yn hf];rfl
   refine⟨acc,ak,by omega,kvs.length - (i+1),by omega,rfl,af,ae,(sm.trans ab).upd hD,by rw[zA,ad,ac,zA];rfl,λj u hj=>?_⟩;rw[ac];by_cases ah:j<acc.length
   ·rw[z9 ah]at hj
    obtain⟨z,h1,h2⟩:=hF j u hj;refine⟨z,?_,λH' hb=>h2 H' λb o aa e=>hb b o aa ((iU aa).trans (ab _ _ e))⟩;rw[z9 (by omega)];exact h1
   ·rw[z7 (by omega)]at hj
    have ai:j - acc.length=0:=by
     have:=(zk.mp hj).1;simp at this;omega
    rw[ai]at hj;cases hj;refine⟨(k0,v0),?_,λH' hb=>aj H' λb o aa e=>hb b o aa ((iU aa).trans e)⟩;rw[z7 (by omega),show j - ((kvs.take i).filter q).length=0 by omega];rfl
  ·have ab:=sn.trans s6
   have ac:(kvs.take (i+1)).filter q=(kvs.take i).filter q:=by rw[htk,ye,yo (by rw[hf];decide)];simp
   refine⟨kvs.length - (i+1),by omega,acc,ab _ _ hA,rfl,af,ae,sm.trans ab,by rw[ac,ad],λj u hj=>?_⟩;rw[ac];obtain⟨z,h1,h2⟩:=hF j u hj;exact⟨z,h1,λH' hb=>h2 H' λb o aa e=>hb b o aa (ab _ _ e)⟩
 ·obtain rfl:i=kvs.length:=by omega
  rw[z0]at ad hF;refine .inl ⟨⟨sm _ _ hH,zg _⟩,k D H2 acc hD sm hA ad λj v e=>?_⟩;obtain⟨z,h1,h2⟩:=hF j v e;exact⟨z,h1,h2 H2 λb o _ e=>e⟩
end
end L2
namespace L2
open PySem PySem.W PySem.Spec PySem.Calls PyProof.Rows
noncomputable def Alike(ka kb:List (Key×V)):Prop:=ka.length=kb.length/\∀kv∈ka,∃i:Int,kv.2=.int i/\pG kb kv.1=some (.int i)
def ajz{A:Around}{s:Shared}{kb:List (Key×V)}{vb:List (Key×Value)}(rb:KV kb vb):∀{ka:List (Key×V)}{va:List (Key×Value)},KV ka va->(∀kv∈ka,∃i:Int,kv.2=.int i/\pG kb kv.1=some (.int i))->PySem.W.KeqHits A s vb va true:=by
 intro ka va r
 induction r with
 |nil=>intro _;exact .nil
 | @cons p q ps qs h t ih=>
  intro z;obtain⟨i,e1,e2⟩:=z p zj;obtain⟨h1,h2⟩:=h;rw[e1]at h2;obtain⟨t1,e3⟩:=(show∃t,q.2=Value.int i t from h2);obtain⟨y,hy,ry⟩:=KQ.some_of (v:=.int i) (o:=valueAt vb p.1) (by rw[<-e2];exact rb.val p.1);obtain⟨t2,e4⟩:=(show∃t,y=Value.int i t from ry);subst e4;have hh:PySem.W.KeqHits A s vb ((q.1,q.2)::qs) ((i==i) && true):=.hit (by rw[<-h1];exact hy) (by rw[e3];exact SeqAt.EqAt.int_int i t1 i t2) (ih λkv aa=>z kv (zp _ aa))
  simpa using hh
section
variable{X:Cx}
noncomputable def alw:R2:=λx y H Q=>∃(a b:Addr)(ka kb:List (Key×V)),x=.ref a/\y=.ref b/\Rd H a (.dK ka)/\Rd H b (.dK kb)/\Alike ka kb/\Q (.bl false) H
def akg{k:Nat}(hr:qW k X.A):OpR X (compareOp .NotEq) alw:=by
 intro pins s σ H x y v u Q I rx ry h;obtain⟨a,b,ka,kb,rfl,rfl,h1,h2,⟨hl,z⟩,q⟩:=h;have hr':=hr.units;cases rx;cases ry;obtain⟨_,s1,va,ra,da⟩:=MK I.hok h1;obtain⟨_,s2,vb,rb,db⟩:=MK I.hok h2;refine PySem.W.keq_ne s1 s2 da db (by omega) (λ_=>ajz rb ra z) ⟨.bl false,H,I,?_,q⟩;rw[<-ra.length,<-rb.length,hl];simp;rfl
def ap_neM{a b:Addr}{H:Hp}{Q:VK}:alw (.ref a) (.ref b) H Q=∃(ka kb:List (Key×V)),Rd H a (.dK ka)/\Rd H b (.dK kb)/\Alike ka kb/\Q (.bl false) H:=by simp[alw]
end
end L2
namespace L2
open PySem PySem.W PySem.Spec PySem.Calls PyProof.Rows
noncomputable def Itk(a:Addr)(o:Obj)(kvs:List (Key×V)):It:=⟨λi H=>H a=some (.frz o (.dK kvs))/\i<kvs.length,λi H x H'=>H'=H/\∃kv,kvs[i]? =some kv/\x=kV kv.1,λi H=>H a=some (.frz o (.dK kvs))/\kvs.length<=i⟩
def Wr{P:Program}{w:World}{A:Around}{E:Value->Shared->Prop}{s:Shared}{it d:Addr}{i n z:Nat}{Q:Value->Shared->Prop}(q:s.heap.IsKeyIter it d i n z)(h:Q (.ref it) s):wpAny (model P w) A (pyIter (.ref it)) Q E s:=by
 refine zzW q.typeIs F.slot_dict_keyiterator_iter (zzb F.slot_dict_keyiterator_iter q.typeIs F.entry_dict_keyiterator_iter ?_ (F.args_dict_keyiterator_iter_1 _));show wpAny _ _ (ret (.ref it)) _ _ s;exact zy ⟨_,rfl, "dict_keyiterator",_,q.typeIs,F.slot_dict_keyiterator_next.lookup,h⟩
def Zf{P:Program}{w:World}{K:Fg_}{tg:Expr}{a it:Addr}{o:Obj}{kvs:List (Key×V)}{es:Array DictEntry}{ep:Nat}(ab:o.data=.dict es ep):Turn P w K tg (Itk a o kvs) [it] it (λi h=>h.IsKeyIter it a i kvs.length ep) where
 mem:=by simp
 obj:=λi h st b hb=>by
  obtain rfl:b=it:=by simpa using hb
  obtain⟨oi,e,c,dd⟩:=st;exact⟨oi,e,λv z=>by rw[dd]at z;cases z⟩
 keep:=λi h h' st k=>let⟨oi,e,r⟩:=st;⟨oi,k it (by simp) oi e,r⟩
 item:=by
  intro X hP hw hK hc i pins s σ H E I hf st hg;subst hP hw hK;obtain⟨ac,ag⟩:=hg;obtain⟨vs,rel,ad⟩:=Mg I ac ab;have aa:kvs.length=vs.length:=z3 rel;obtain⟨f0,f1,f2,f3,f4,f5⟩:=hf it (by simp);obtain⟨⟨k0,v0⟩,hx⟩:∃q,vs[i]? =some q:=⟨_,zh (by omega)⟩;obtain⟨p,hp,e1,e2⟩:=tX rel hx;rw[aa]at st;refine wpAny_pyNext_dict_item st ad (k:=k0) (v:=v0) hx λkey h' af ae sb=>?_;have I1:Inv X pins σ H {s with heap:=h'}:=I.turned (t':=s.toks) (λb o hb e=>(sb.2 b hb).trans e) f0 f1 f3 f4 f5;obtain⟨oi,e,c,dd⟩:=id ae;rw[<-aa]at ae;exact⟨_,rfl,Ro (s:={s with heap:=h'}) e c dd (by decide) ⟨kV p.1,H,I1,aaH (by rw[show p.1=k0 from e1];exact af),⟨rfl,p,hp,rfl⟩,ae,λb hb=>(hf b hb).1⟩⟩
 done:=by
  intro X hP hw hK hc i pins s σ H E I hf st hg;subst hP hw hK;obtain⟨ac,ag⟩:=hg;obtain⟨vs,rel,ad⟩:=Mg I ac ab;have aa:kvs.length=vs.length:=z3 rel;obtain⟨f0,f1,f2,f3,f4,f5⟩:=hf it (by simp);rw[aa]at st;exact wpAny_pyNext_dict_end (I.ok.hd hc) st ad (by simp;omega) λh' eb=>⟨rfl,I.turned (t':=s.toks) (λb o hb e=>eb b o hb e) f0 f1 f3 f4 f5⟩
 self:=λ_ _ _ _ _ st h=>Wr st h
section
variable{X:Cx}{tg:Expr}
noncomputable def akY(tl:TE):TI:=λσ H R=>tl σ H λx H1=>∃a kvs,x=.ref a/\H1 a=some (.dK kvs)/\∀o,R (Itk a o kvs) (upd H1 a (.frz o (.dK kvs)))
def aiw{l:Expr}{tl:TE}(hl:PE X l tl):PI X tg l (akY tl):=by
 intro pins s σ H R I h;refine thn (hl pins s σ H _ I h) λu s1 ⟨x,H1,I1,r1,a,kvs,ex,ha,q⟩=>?_;subst ex;cases r1;obtain⟨z,aa,vs,rel,o,es,ep,q1,q2,q3,q4⟩:=(show mq X.prog X.w H1 s1.heap a (.dK kvs)from I1.hok a _ ha);have ab:kvs.length=vs.length:=z3 rel;have ac:s1.heap.DictAt (jM X.prog X.w) a vs ep:=⟨o,es,q1,q2,q3,q4⟩;refine wpAny_pyIter_dict aa ac ?_;have I2:Inv X pins σ (upd H1 a (.frz o (.dK kvs))) s1:=I1.write (t':=s1.toks) (h':=s1.heap) (by rw[ha];exact True.intro) (.inl rfl) (λb u _ e=>e) ⟨o,q1⟩ (show mq X.prog X.w _ s1.heap a (.frz o (.dK kvs))from⟨q1,z,aa,vs,rel,o,es,ep,q1,q2,q3,q4⟩);refine⟨s1.heap.objs.size,[s1.heap.objs.size],_,_,_,rfl,I2.kept (t':=s1.toks) λb o e=>zb _ e,Zf q3,⟨_,zB _ rfl,rfl,by rw[ab];rfl⟩,λb hb=>?_,q o⟩;obtain rfl:b=s1.heap.objs.size:=by simpa using hb
 exact I2.fpOk (zg _) (I2.hok.fresh (zg _))
end
section
variable{K:Fg_}{σ:St}{H:Hp}{R:It->Hp->Prop}{tl:TE}{g:TG}{tb:TS}{D:Ends}{a:Addr}{o:Obj}{kvs:List (Key×V)}
def ap_iKeys:akY tl σ H R=tl σ H λx H1=>∃a kvs,x=.ref a/\H1 a=some (.dK kvs)/\∀o,R (Itk a o kvs) (upd H1 a (.frz o (.dK kvs))):=rfl
end
end L2
namespace L2
open PySem PySem.W PySem.Spec PySem.Calls PyProof.Rows
section
variable{X:Cx}
def Inv.thaw{pins:List (Addr×Obj)}{σ:St}{H:Hp}{s:Shared}{a:Addr}{o:Obj}{kvs:List (Key×V)}(I:Inv X pins σ H s)(hH:H a=some (.frz o (.dK kvs)))(hn:∀o u,X.H₀ a≠some (.frz o u)):Inv X pins σ (upd H a (.dK kvs)) s:=by
 have ne:∀b,H b=none->b≠a:=λb n z=>by rw[z,hH]at n;cases n
 have nt:∀b xs,H b=some (.tup xs)->b≠a:=λb xs n z=>by rw[z,hH]at n;cases n
 have nw:∀b y,H b=some (.own y)->b≠a:=λb y n z=>by rw[z,hH]at n;cases n
 have aa:∀b ps,H b=some (.tbl ps)->b≠a:=λb y n z=>by rw[z,hH]at n;cases n
 refine⟨I.ok,I.os,I.bare,⟨I.base.keep,I.base.slot,λb ob q n hx=>?_,I.base.there,λb xs q=>?_,λb ob u q=>?_,λb ps q=>?_⟩,I.loc,I.cell,?_,λx c e=>?_,λp hp=>?_,λb u e=>?_,I.len⟩
 ·have h:=I.base.free b ob q n hx;rw[iU (ne b h)];exact h
 ·have h:=I.base.tups b xs q;rw[iU (nt b xs h)];exact h
 ·have h:=I.base.frzs b ob u q;rw[iU (λz:b=a=>hn ob u (by rw[<-z];exact q))];exact h
 ·obtain⟨m,h⟩:=I.base.tbls b ps q;exact⟨m,by rw[iU (aa b _ h)];exact h⟩
 ·rw[iU (ne _ I.free)];exact I.free
 ·rw[iU (ne _ (I.freeC x c e))];exact I.freeC x c e
 ·obtain⟨p1,p2,p3⟩:=I.pin p hp;exact⟨p1,by rw[iU (ne _ p2)];exact p2,p3⟩
 ·by_cases hb:b=a
  ·subst hb
   rw[iH]at e;cases e;obtain⟨_,q⟩:=(show mq X.prog X.w H s.heap b (.frz o (.dK kvs))from I.hok b _ hH);exact mq.stay q (λ_ _ _ q=>q) (λc q=>by rw[iU (nw c _ q)];exact q) λc xs q=>by rw[iU (nt c xs q)];exact q
  ·rw[iU hb]at e
   exact(I.hok b u e).stay (λ_ _ _ q=>q) (λc q=>by rw[iU (nw c _ q)];exact q) λc xs q=>by rw[iU (nt c xs q)];exact q
end
end L2
namespace L2
open PySem PySem.Spec PyProof.Rows
section
variable{prog:Program}{w:World}{A:Around}{E:Value->Shared->Prop}{h:Heap}{g:Array GenState}{d:Drawn}{t:Nat}{os:OsState}{a:Addr}{o:Obj}
 {nm q:Str} {C N:Addr} {bs bm bmB:List Value} {hdct:Bool} {sn:List Str} {sub:List Value} {ab:Bool} {col:Option Bool} {dd:Option Addr} {k0 k1 k2 k3 k5:Option Value} {B newId initId:String} {K:Fg_}
end
end L2
namespace L2
open PySem PySem.Spec PyProof.Rows
structure amv(K:Fg_)(C fI:Addr):Prop where
 ex:∃(nm qn:Str)(N:Addr)(bs bm:List Value)(sn:List Str)(sub:List Value)(ab:Bool)(col:Option Bool)(dd:Option Addr)(k0 k1 k2 k3 k5:Option Value),K.lookup C=some (excClassObj nm qn C N bs bm true sn sub ab col dd k0 k1 k2 k3 k5 "ValueError.__new__")/\PySem.W.tailIn K [.type "ValueError",.type "Exception",.type "BaseException",.type "object"] bm=true
 ini:PySem.W.findIn K (.ref C) "__init__" =some (some (.ref fI))
 fn:PySem.W.isFn K (.ref fI)=true
 sa:PySem.W.findIn K (.ref C) "__setattr__" =some (some (.builtin "object.__setattr__"))
 kp:PySem.W.keepIn K (.ref C)=true
section
variable{X:Cx}{CX:CXT}{k:Nat}{f C:Addr}{fd:FuncData}{ps ks:List Str}{sp:Sp}{dvs:List V}{ds:List Value}{E:XK}{x m fn:Str}{p np cpos pos apos:Pos}{e o:Expr}{es:List Expr}{ta tv:TE}{t tk:TA}
structure amx(K:Fg_)(B:Addr):Prop where
 ga:PySem.W.specialIn K (.ref B) "__getattribute__" =some (some (.builtin "type.__getattribute__"))
 rd:PySem.W.readsIn K B (.type "type")=true
 fi:PySem.W.findCls K (.ref B) (.type "type") "__init__" =some (.val (.builtin "ValueError.__init__"))
end
end L2
namespace L2
open PySem PySem.W PySem.Spec PyProof.Rows
section
variable{X:Cx}{K:Fg_}{a:Addr}{kvs:List (Key×V)}{pins:List (Addr×Obj)}{σ:St}{H:Hp}{s:Shared}
def UG{t:TS}{z aa:List Stmt}{x:Option Expr}{n:Option Str}{ab pos:Pos}(h:PSs X.nox z t):PS X.nox (.Try z [.ExceptHandler x n aa ab] [] [] pos) t:=by
 intro pins s σ H D I hw;refine wpAny_Try_except (yc (h pins s σ H D I hw) (λf s1 q=>?_) λev s' hx=>hx.elim)
 cases f with
 |next=>exact zzH q
 |brk=>exact q
 |cont=>exact q
 |ret u=>exact q
variable{td ty:TE}{Q:VK}{w:World}
end
end L2
namespace HT
open PySem PyProof.Rows
noncomputable def lexLe:List Int->List Int->Bool
 |[],_=>true
 |_::_,[]=>false
 |x::xs,y::ys=>if x=y then lexLe xs ys else decide (x<=y)
def aak(A:Around)(s:Shared)(a:Int)(t:Tok)(c:Int)(u:Tok)(prog:Program)(w:World)(E:Value->Shared->Prop)(Q:Value->Shared->Prop)(h:Q (.bool (decide (a<=c))) s):
  wpAny (model prog w) A (richCompare .LtE (.int a t) (.int c u)) Q E s:=
 (PyProof.Rows.le_int h:wpAny (model prog w) A (compareOp .LtE (.int a t) (.int c u)) Q E s)
section
open PySem.SeqAt
open PySem.AutoSeq1 (wpAny_loadPart')
open PySem.MeetsSeq PySem.MeetsSeq2 PySem.MeetsSeq3
def Nj(l b:Addr)(xa xb:Array Value)(na nb:Nat)(da db:Option Addr)(sa sb:Array (Option Value))(ns ms:List Int)(hi:IntsAre xa.toList ns)(hj:IntsAre xb.toList ms):
  Meets (Builtin.«tuple.__le__» ⟨[.ref l,.ref b],[]⟩)
   (λ_ R s=>s.heap.get? l=some {cls:=.type "tuple",dict:=da,data:=.seq xa na,slots:=sa}/\s.heap.get? b=some {cls:=.type "tuple",dict:=db,data:=.seq xb nb,slots:=sb}/\
    R (.ok (.ret (.bool (lexLe ns ms)))) s):=
 .of_wp λprog w A R s h=>by
  obtain⟨hp,g,d,tk,os⟩:=s;obtain⟨hl,hb,h⟩:=h;have f2:=AutoSeq1.sub_tuple_tuple;have z1:xa.size=ns.length:=by rw[<-hi.length];simp
  have z2:xb.size=ms.length:=by rw[<-hj.length];simp
  wp_walk using wpAny_loadPart' hl,wpAny_loadPart' hb,wpAny_forIn_list _ (λrest b s'=>b.1=none/\s'=⟨hp,g,d,tk,os⟩/\∃(vs ws:List Value)(np mp:List Int),rest=vs.zip ws/\
   IntsAre vs np/\IntsAre ws mp/\np.length+xb.size=mp.length+xa.size/\R (.ok (.ret (.bool (lexLe np mp)))) ⟨hp,g,d,tk,os⟩) _
  case turn=>
   rintro⟨y,x⟩ rest b s'⟨ad,rfl,vs,ws,np,mp,hz,ac,ab,z,hR⟩
   cases ac with
   |nil=>rw[List.zip_nil_left]at hz;cases hz
   |cons a t hvi'=>cases ab with
    |nil=>rw[List.zip_nil_right]at hz;cases hz
    |cons c u hwi'=>
     rw[zzm]at hz;injection hz with hyx hrest
     injection hyx with hy hx
     subst hy hx;unfold lexLe at hR;simp only[zL]at z;obtain⟨e,he,aa⟩:=ZG A.in1 ⟨hp,g,d,tk,os⟩ a t c u;refine zc (he prog w _ _ ?_)
     cases e with
     |true=>
      rw[zo (aa.mp rfl)]at hR
      wp_walk
      exact⟨rfl,rfl,_,_,_,_,hrest,hvi',hwi',by omega,hR⟩
     |false=>
      rw[ze (λq=>absurd (aa.mpr q) zM)]at hR;have ae:=aak A.in1 ⟨hp,g,d,tk,os⟩ a t c u prog w
      wp_walk using ae
      exact⟨_,rfl,by simpa using hR⟩
  case fin=>
   rintro⟨b1,b2⟩ s'⟨ad,rfl,vs,ws,np,mp,hz,ac,ab,z,hR⟩;simp only at ad;subst ad
   have hv:lexLe np mp=decide (xa.size<=xb.size):=by
    cases ac with
    |nil=>
     simp only[yS]at z;unfold lexLe;exact(zE (by omega)).symm
    |cons a t hv=>cases ab with
     |nil=>
      simp only[yS,zL]at z;unfold lexLe;exact(zI (by omega)).symm
     |cons c u hw=>rw[zzm]at hz;cases hz
   rw[hv]at hR
   wp_walk
   exact⟨_,rfl,by simpa [Builtin.Tuple.tupleCompareSizes] using hR⟩
  case h=>exact⟨rfl,rfl,xa.toList,xb.toList,ns,ms,rfl,hi,hj,by omega,h⟩
end
section
variable{prog:Program}{w:World}{A:Around}{E:Value->Shared->Prop}{s:Shared}
def le_tupInts{l b:Addr}{xa xb:Array Value}{ns ms:List Int}{Q:Value->Shared->Prop}(hl:IsTup s.heap l xa)(hb:IsTup s.heap b xb)(hi:IntsAre xa.toList ns)(hj:IntsAre xb.toList ms)(hu:A.units<cLine)
  (h:Q (.bool (lexLe ns ms)) s):wpAny (model prog w) A (compareOp .LtE (.ref l) (.ref b)) Q E s:=by
 obtain⟨⟨cls,dd,data,sl⟩,ho,hc,n,hd⟩:=id hl;obtain⟨⟨ae,ac,ab,ad⟩,aa,z,n2,q⟩:=id hb;simp only at hc hd z q;subst hc hd z q
 exact richCompare_meets_room (op:=.LtE) ⟨_,ho,rfl⟩ ⟨_,aa,rfl⟩ PySem.F.slot_tuple_le PySem.F.entry_tuple_le (PySem.F.args_tuple_le_2 _ _) (Nj l b xa xb n n2 dd ac sl ad ns ms hi hj)
  ⟨ho,aa,show Value.bool (lexLe ns ms)≠Value.notImplemented/\Q (.bool (lexLe ns ms)) s from⟨(λx=>nomatch x),h⟩⟩ hu
end
end HT
namespace L2
open PySem PySem.W PySem.Spec PySem.Calls PyProof.Rows
section
variable{X:Cx}
noncomputable def amq(K:Fg_):R2:=λx y H Q=>∃a b ns ms,x=.ref a/\y=.ref b/\SqT K H a (ns.map V.int)/\SqT K H b (ms.map V.int)/\Q (.bl (HT.lexLe ns ms)) H
def aiO{K:Fg_}{k:Nat}(hr:qW k X.A)(hK:X.K=K:=by rfl):OpR X (compareOp .LtE) (amq K):=by
 subst hK;intro pins s σ H x y v u Q I rx ry h;obtain⟨a,b,ns,ms,rfl,rfl,ha,hb,q⟩:=h;cases rx;cases ry;obtain⟨its,r1,p1,_⟩:=I.tuple ha;obtain⟨z,r2,p2,_⟩:=I.tuple hb;exact HT.le_tupInts p1 p2 (show IntsAre its.toArray.toList ns from intsAre_of r1) (show IntsAre z.toArray.toList ms from intsAre_of r2) hr.units0 ⟨.bl (HT.lexLe ns ms),H,I,rfl,q⟩
noncomputable def aif(H0:Hp)(t:TE):TE:=λσ H Q=>t σ H λv H1=>∃a o kvs,H1 a=some (.frz o (.dK kvs))/\(∀o u,H0 a≠some (.frz o u))/\Q v (upd H1 a (.dK kvs))
def Rx{e:Expr}{t:TE}(h:PE X e t):PE X e (aif X.H₀ t):=by
 intro pins s σ H Q I q;exact thn (h pins s σ H _ I q) λv s1 ⟨x,H1,z,r1,a,o,kvs,h1,h2,h3⟩=>⟨x,_,z.thaw h1 h2,r1,h3⟩
def ap_thawV{H0:Hp}{t:TE}{σ:St}{H:Hp}{Q:VK}:aif H0 t σ H Q=t σ H λv H1=>∃a o kvs,H1 a=some (.frz o (.dK kvs))/\(∀o u,H0 a≠some (.frz o u))/\Q v (upd H1 a (.dK kvs)):=rfl
end
end L2
namespace L2
open PySem PySem.W PySem.Spec PySem.Calls PyProof.Rows
section
variable{X:Cx}
theorem Te(f:Nat->Int):∀k:Nat,argBest (λi j=>decide (f i>f j)) k<=k/\∀i,i<=k->f i<=f (argBest (λi j=>decide (f i>f j)) k)
 |0=>⟨by simp[argBest],λi hi=>by cases Nat.le_zero.mp hi;simp[argBest]⟩
 |k+1=>by
  obtain⟨h1,h2⟩:=Te f k;rw[argBest];by_cases h:f (k+1)>f (argBest (λi j=>decide (f i>f j)) k)
  ·rw[zo (zE h)]
   refine⟨zg _,λi hi=>?_⟩;rcases Nat.lt_or_ge i (k+1)with q|q
   ·have:=h2 i (by omega);omega
   ·have:i=k+1:=by omega
    subst this;exact zzT _
  ·rw[ze (by simpa using h)]
   refine⟨by omega,λi hi=>?_⟩;rcases Nat.lt_or_ge i (k+1)with q|q
   ·exact h2 i (by omega)
   ·have:i=k+1:=by omega
    subst this;omega
noncomputable def aau(K:Fg_):List V->Hp->VK->Prop:=λxs H Q=>∃(a:Addr)(ns:List Int),xs=[.ref a]/\SqL K H a (ns.map V.int)/\ns≠[]/\∀m,m∈ns->(∀x∈ns,x<=m)->Q (.int m) H
def YX(hc:X.calm=true):nT X (.builtin "max") (aau X.K):=by
 intro pins s σ H xs us Q I r h;obtain⟨a,ns,rfl,hq,ad,q⟩:=h;obtain⟨u,rfl,rx⟩:=vals1 r;cases rx;obtain⟨its,rv,pl,hz⟩:=I.list hq;have ae:its.length=ns.length:=by rw[<-rv.length,za]
 have hl:=pl.isList;have aa:a<s.heap.objs.size:=by obtain⟨o,e,_⟩:=hl;exact zr e
 have af:0<ns.length:=yt.mpr ad
 have ia:∀(i:Nat) v,its.toArray[i]? =some v->∃t,v=.int (ns.getD i 0) t:=λi v e=>by
  rw[zzy]at e;have hi:i<its.length:=(zk.mp e).1;have ab:i<ns.length:=by omega
  obtain⟨u,hu,ru⟩:=rv.get (show(ns.map V.int)[i]? =some (.int ns[i]) by rw[zd,zh ab];rfl);rw[e]at hu;obtain rfl:=zw hu;obtain⟨t,rfl⟩:=ru;exact⟨t,by simp[ab]⟩
 refine call_max_walk (yJ hl ?_);refine⟨_,_,_,_,_,_,_,rfl,Walks.list (prog:=X.prog) (w:=X.w) (A:=X.A.in1) (I.ok.hd hc) s.heap.objs.size a (zD aa) its.toArray,?_,?_,by rw[zf];omega,CmpOf.ints_gt (λi=>ns.getD i 0) ia,λv h' tk hP hk=>?_⟩
 ·exact⟨⟨_,zB _ rfl,rfl,rfl⟩,hl.at λo e=>zb _ e⟩
 ·intro b hb
  rw[zzp];simp only[zu,zn,or_false]at hb;rcases hb with rfl|rfl
  ·exact zzz _
  ·exact zzU aa
 ·obtain⟨t,rfl⟩:=ia _ v hP
  have hb:=Te (λi=>ns.getD i 0) (its.toArray.size - 1);rw[zf]at hb;have ac:argBest (λi j=>decide (ns.getD i 0>ns.getD j 0)) (its.length - 1)<ns.length:=by have:=hb.1;omega
  refine⟨.int _,H,I.kept (t':=tk) (λb o e=>hk b o (λz=>?_) (zb _ e)),⟨_,rfl⟩,q _ ?_ λx hx=>?_⟩
  ·simp only[zu,zn,or_false]at z
   subst z;exact absurd (zr e) (ya _)
  ·rw[zf]
   have e:∀k0,k0<ns.length->ns.getD k0 0∈ns:=λk0 h=>by
    have:ns.getD k0 0=ns[k0]:=by simp[h]
    rw[this];exact yD h
   exact e _ ac
  ·obtain⟨j,hj,ej⟩:=zZ hx
   have:=hb.2 j (by omega);rw[zf];have e:ns.getD j 0=x:=by simp[hj,ej]
   rw[<-e];exact this
def Vj{K:Fg_}(q:X.calm=true)(z:X.K=K:=by rfl):nT X (.builtin "max") (aau K):=z▸YX q
def ap_rMaxL{K:Fg_}{a:Addr}{H:Hp}{Q:VK}:aau K [.ref a] H Q=∃(ns:List Int),SqL K H a (ns.map V.int)/\ns≠[]/\∀m,m∈ns->(∀x∈ns,x<=m)->Q (.int m) H:=by simp[aau]
end
section
variable{P:Program}{w:World}{A:Around}{E:Value->Shared->Prop}{s:Shared}
theorem XM{b f:Bool}{Q:Bool->Shared->Prop}:∀{ms ns:List Int}{r r':List V}{xs ys:List Value},Vals (ms.map V.int++r) xs->Vals (ns.map V.int++r') ys->ms.length=ns.length->ms≠ns->∀i,Q (vP ms ns false) s->KatLex P w A b f Q (xs.zip ys) i s
 |[],[],_,_,_,_,_,_,_,hne,_,_=>(hne rfl).elim
 |[],_::_,_,_,_,_,_,_,hl,_,_,_=>by simp at hl
 |_::_,[],_,_,_,_,_,_,hl,_,_,_=>by simp at hl
 |m::ms,n::ns,_,_,_,_,r,r',hl,hne,i,h=>by
  rw[zl,zzB]at r r'
  cases r with
  |cons a1 a2=>
  cases r' with
  |cons b1 b2=>
  obtain⟨t,rfl⟩:=a1;obtain⟨t',rfl⟩:=b1;rw[zzm];refine kat_cons (zz5 ?_);by_cases e:m=n
  ·rw[show(m==n)=true by simp[e]]
   refine kat_yes (XM a2 b2 (by simpa using hl) (λz=>hne (by rw[e,z])) (i+1) ?_)
   rwa [vP,zo e]at h
  ·rw[show(m==n)=false by simp[e]]
   refine kat_no ?_;rw[vP,ze e]at h
   cases q:(b && i==0)with
   |true=>exact oneLt_int h
   |false=>exact kat_one _ _ (lt_int h)
def aaq{G:Array Nat->Prop}{a:Addr}{us:List Value}{n m0:Nat}{R:PySem.Fin->Shared->Prop}(ks:Nat->List Int)(aa:s.heap.get? a=some (seqObj "list" us.toArray n)) (af:us.length<64)
  (hT:∀i,i<us.length->(ks i).length=m0+1/\∃b o xs m r,us.getD i Value.none=.ref b/\b≠a/\s.heap.get? b=some o/\o.cls=.type "tuple" /\o.data=.seq xs m/\Vals ((ks i).map V.int++r) xs.toList)
  (ar:∀i j,i<us.length->j<us.length->i≠j->ks i≠ks j)
  (hG:0<us.length->Kok (λi j=>vP (ks i) (ks j) false) us.length G (kas_sort us.length)) (ai:us.length<2->G (List.range us.length).toArray) (am:∀p,G p->Prm us.length p)
  (ag:∀p:Array Nat,G p->R (.done (.ret .none)) {s with heap:=sortedHeap s.heap a us (List.toArray (p.toList.map λi=>us.getD i Value.none))}):
  wpAny (model P w) A (Builtin.«list.sort» ⟨[.ref a],[]⟩) R E s:=by
 have au:a<s.heap.objs.size:=zr aa;have ah:us.toArray.size=us.length:=by simp
 rw[list_sort_plain];refine zc (listItems_at aa rfl ?_);refine zc (listUpdate_at aa rfl ?_ (by rw[ah,zq];omega) (zJ _));obtain⟨e1,ac⟩:∃e1,(s.heap.update a (Obj.mapSeq λ_=> #[])).get? a=some (seqObj "list" #[] e1):=⟨_,get?_update_seq aa (λ_=> #[])⟩;refine zc (seqEpoch_at ac rfl ?_);refine zc (wpAny_newTuple ?_ (by show us.length<=_;rw[zq];omega));refine zc (zzE ?_ (zJ _));refine yi ?_
 have keep:∀b o,b≠a->s.heap.get? b=some o->(((s.heap.update a (Obj.mapSeq λ_=> #[])).push (seqObj "tuple" us.toArray 0)).push (seqObj "list" #[] 0)).get? b=some o:=λb o hb e=>
  zb _ (zb _ ((yb _ _ _ _ hb).trans e))
 have ao:∀b xs,b≠a->s.heap.IsTuple b xs->(((s.heap.update a (Obj.mapSeq λ_=> #[])).push (seqObj "tuple" us.toArray 0)).push (seqObj "list" #[] 0)).IsTuple b xs:=λb xs hb ⟨o,e,r⟩=>⟨o,keep b o hb e,r⟩;have q:(((s.heap.update a (Obj.mapSeq λ_=> #[])).push (seqObj "tuple" us.toArray 0)).push (seqObj "list" #[] 0)).get? a=some (seqObj "list" #[] e1):=zb _ (zb _ ac);show wpAny (model P w) A _ R E {s with heap:=((s.heap.update a (Obj.mapSeq λ_=> #[])).push (seqObj "tuple" us.toArray 0)).push (seqObj "list" #[] 0)};dsimp only;by_cases h2:us.toArray.size<2
 ·rw[zo h2,zo h2]
  refine zc (zy ?_);rw[StateT.run_pure];refine zc (zy ?_);dsimp only
  have ad:=kat_snds (ks:=us) (vs:=us) rfl (st:=SortSt.mk' general' (us.toArray.zip us.toArray) #[] 7 none) (p:=(List.range us.length).toArray) (by
   have e:=kas_range (us.toArray.zip us.toArray);rw[show(us.toArray.zip us.toArray).size=us.length by simp]at e;exact e.symm)
  rw[ad];refine zc (seqEpoch_at q rfl ?_);refine zc (listUpdate_at q rfl ?_ (zJ _) (by rw[zq];simp;omega));simp only[bne_self_eq_false,yA,if_false];exact zy (ag _ (ai (by rw[<-ah];exact h2)))
 ·rw[ze h2,ze h2]
  have hn:0<us.length:=by omega
  obtain ⟨ff,k1,k2,k3⟩:=Dz (h:=((s.heap.update a (Obj.mapSeq λ_=> #[])).push (seqObj "tuple" us.toArray 0)).push (seqObj "list" #[] 0)) (us:=us) (by
   intro v hv;obtain⟨i,hi,e⟩:=zZ hv;obtain⟨g0,b,o,xs,m,r,g1,g2,g3,g4,g5,g6⟩:=hT i hi;have e2:us.getD i Value.none=v:=by rw[<-e];simp[hi]
   cases hq:ks i with
   |nil=>rw[hq]at g0;cases g0
   |cons z zs=>
    rw[hq,zl,zzB]at g6
    cases hx:xs.toList with
    |nil=>rw[hx]at g6;cases g6
    |cons u ur=>
     rw[hx]at g6
     cases g6 with
     |cons r1 r2=>
     obtain⟨t,rfl⟩:=r1;refine⟨b,o,xs,m,z,t,e2.symm.trans g1,keep _ _ g2 g3,g4,g5,?_⟩;rw[<-yF,hx];rfl)
  refine zc (kat_kind k1 (by omega) (λv hv=>?_) (T:=.type "int") rfl ?_)
  ·obtain⟨i,t,rfl⟩:=k3 v hv
   exact Looks.of_pure rfl
  refine zc (yc (kat_run (ks:=us) (vs:=us) (Q:=λab s'=>∃p:Array Nat,arrOf ab=p.map (kas_item (us.toArray.zip us.toArray))/\failedOf ab=none/\G p/\s'={s with heap:=((s.heap.update a (Obj.mapSeq λ_=> #[])).push (seqObj "tuple" us.toArray 0)).push (seqObj "list" #[] 0)})
   (G:=λp s'=>G p/\s'={s with heap:=((s.heap.update a (Obj.mapSeq λ_=> #[])).push (seqObj "tuple" us.toArray 0)).push (seqObj "list" #[] 0)}) rfl (by omega) af (λp ab s' a1 a2 a3 a4=>⟨p,a2,a3,a4.1,a4.2⟩)
   (Kok.wp (lt:=λi j=>vP (ks i) (ks j) false) (λi j C hi hj hC=>?_) (hG hn) λp hp=>⟨hp,rfl⟩)) ?_ λ_ _ e=>e)
  ·obtain⟨l1,b,o,xs,m,r,g1,g2,g3,g4,g5,g6⟩:=hT i hi
   obtain⟨l2,b',o',av,m',r',aj,an,ap,as,aq,al⟩:=hT j hj;show wpAny _ _ (keyLt' _ (us.getD i Value.none) (us.getD j Value.none)) _ _ _;by_cases ae:i=j
   ·subst ae
    rw[g1];refine kat_lt (keep _ _ g2 g3) g5 (keep _ _ g2 g3) g5 (Tr _ 0 ?_);rw[RJ]at hC;rw[zI (ya _)];exact hC
   ·rw[g1,aj]
    exact kat_lt (keep _ _ g2 g3) g5 (keep _ _ an ap) aq (XM g6 al (l1.trans l2.symm) (ar i j hi hj ae) 0 hC)
  ·rintro⟨⟨⟩,ab⟩ s'⟨p,ad,hf,hp,rfl⟩
   dsimp only;rw[kat_snds (ks:=us) (vs:=us) rfl ad];have ak:p.toList.length=us.length:=by rw[(am p hp).length_eq];simp
   refine zc (seqEpoch_at q rfl ?_);refine zc (listUpdate_at q rfl ?_ (zJ _) (by rw[zq];simp at ak⊢;omega));rw[hf];simp only[bne_self_eq_false,yA,if_false];exact zy (ag p hp)
end
section
variable{X:Cx}
noncomputable def Uj(K:Fg_):List V->Hp->VK->Prop:=λxs H Q=>∃(a:Addr)(ys:List V)(ts:V->List Int)(m:Nat),xs=[.ref a]/\SqL K H a ys/\ys.length<64/\(ys.map ts).Nodup/\
 (∀y∈ys,(ts y).length=m+1/\∃b r,y=.ref b/\SqT K H b ((ts y).map V.int++r))/\
 ∀p zs,H p=none->zs.Perm ys->(zs.Pairwise λy z=>vP (ts y) (ts z) false=true)->Q (.ref p) (upd H p (.lst zs))
def Vi:nT X (.builtin "sorted") (Uj X.K):=by
 intro pins s σ H xs us Q I r h;obtain⟨a,ys,ts,m0,rfl,hq,ak,aa,hT,q⟩:=h;obtain⟨u,rfl,rx⟩:=vals1 r;cases rx;obtain⟨its,rv,pl,hz⟩:=I.list hq;have z:ys.length=its.length:=rv.length;have hl:=pl.isList;refine Calls.call_function_entry kind_sorted plain_sorted entry_sorted (args_sorted1 _) ?_;unfold Builtin.«sorted»;refine zc (m:=checkCount "sorted" 1 1 _) (zy ?_);refine zc (collect_list hl ?_ (by omega));refine zc (zzE ?_ (by omega));have hsz:((s.heap.push (seqObj "list" #[] 0)).update s.heap.objs.size (Obj.mapSeq (·++its.toArray))).objs.size=s.heap.objs.size+1:=by rw[zz3,size_push']
 have ab:(((s.heap.push (seqObj "list" #[] 0)).update s.heap.objs.size (Obj.mapSeq (·++its.toArray))).push (seqObj "list" its.toArray 0)).get? (s.heap.objs.size+1)=some (seqObj "list" its.toArray 0):=by rw[<-hsz];exact zB _ rfl
 have keep:∀b o,s.heap.get? b=some o->(((s.heap.push (seqObj "list" #[] 0)).update s.heap.objs.size (Obj.mapSeq (·++its.toArray))).push (seqObj "list" its.toArray 0)).get? b=some o:=λb o e=>
  zb _ ((yb _ _ _ _ (zD (zr e))).trans (zb _ e))
 show wpAny _ _ _ _ _ {s with heap:=((s.heap.push (seqObj "list" #[] 0)).update s.heap.objs.size (Obj.mapSeq (·++its.toArray))).push (seqObj "list" its.toArray 0)};rw[hsz];have af:∀y∈ys,(ts y).length=m0+1:=λy hy=>(hT y hy).1;refine zc (yi (zzb slot_list_sort ⟨_,ab,rfl⟩ entry_list_sort (aaq (m0:=m0) (G:=λp=>Prm its.length p/\Tc ys ts p) (λi=>ts (ys.getD i .non)) ab (by omega) (λi hi=>?_) (λi j hi hj ad e=>ad ?_) (λhn=>z▸ait af aa (by omega)) (λh2=>⟨List.Perm.refl _,λm _ _ a b ah hb=>absurd ah (by omega)⟩) (λp hp=>hp.1) λp ag=>⟨_,rfl,zy ⟨_,rfl,?_⟩⟩) (args_list_sort _)))
 ·have hm:ys.getD i .non∈ys:=by
   have:i<ys.length:=by omega
   simp[this]
  obtain⟨g0,b,rr,e,hb⟩:=hT _ hm;obtain⟨tv,rt,it,al⟩:=I.tuple hb;obtain⟨o,ho,hc,m,hd⟩:=it;refine⟨g0,b,o,tv.toArray,m,rr,?_,?_,keep _ _ ho,hc,hd,rt⟩
  ·have:=Dy rv (i:=i) (by omega)
   rw[e]at this;exact this
  ·exact zD (zzU (zr ho))
 ·refine(zzs (by rw[za];omega) aa).mp ?_
  rw[zd,zd,zh (show i<ys.length by omega),zh (show j<ys.length by omega)];have q1:ys.getD i .non=ys[i]'(by omega):=by simp[show i<ys.length by omega]
  have q2:ys.getD j .non=ys[j]'(by omega):=by simp[show j<ys.length by omega]
  rw[q1,q2]at e;exact congrArg some e
 ·obtain⟨hp,ae⟩:=ag
  have ai:∀i∈p.toList,i<ys.length:=λi hi=>by
   have:=yq.mp (hp.mem_iff.mp hi);omega
  have ac:p.toList.length=its.length:=by rw[hp.length_eq];simp
  have aj:(p.toList.map λi=>ys.getD i V.non).Perm ys:=by
   have:=hp.map λi=>ys.getD i V.non;rw[<-z,JL]at this;exact this
  have kp:∀b o,s.heap.get? b=some o->(sortedAll s.heap its (List.toArray (p.toList.map λi=>its.getD i Value.none))).get? b=some o:=λb o e=>by
   have hb:b≠s.heap.objs.size+1:=zD (zzU (zr e));exact(yb _ _ _ _ hb).trans (zb _ (zb _ ((yb _ _ _ _ hb).trans (keep b o e))))
  obtain ⟨c,hc⟩:∃c,(sortedAll s.heap its (List.toArray (p.toList.map λi=>its.getD i Value.none))).get? (s.heap.objs.size+1)=some (seqObj "list" (List.toArray (p.toList.map λi=>its.getD i Value.none)) c):=
   ⟨_,get?_update_seq (zb _ (zb _ (get?_update_seq ab (λ_=> #[])))) _⟩
  refine⟨.ref (s.heap.objs.size+1),_,I.laid (t':=s.toks) kp (ym _) (show mq X.prog X.w _ _ _ (.lst (p.toList.map λi=>ys.getD i V.non))from⟨?_,_,c,IK rv ai,hc⟩),rfl,q _ _ (I.hok.fresh (ym _)) aj ?_⟩
  rotate_left
  ·refine yu.mpr λi j hi hj ad=>?_
   rw[za,ac,<-z]at hj;have h3:=ae (m0+1) af aa i j ad hj;have hs:p.size=ys.length:=by rw[<-z4,ac,z]
   have e1:p.getD i 0=p.toList[i]'(by rw[z4];omega):=by simp[Array.getD,show i<p.size by omega]
   have e2:p.getD j 0=p.toList[j]'(by rw[z4];omega):=by simp[Array.getD,show j<p.size by omega]
   rw[e1,e2]at h3;rw[yE,yE];exact h3
  rw[za,ac,zq];omega
def RN{K:Fg_}(q:X.K=K:=by rfl):nT X (.builtin "sorted") (Uj K):=q▸Vi
def ap_rSortP{K:Fg_}{a:Addr}{H:Hp}{Q:VK}:Uj K [.ref a] H Q=∃(ys:List V)(ts:V->List Int)(m:Nat),SqL K H a ys/\ys.length<64/\(ys.map ts).Nodup/\
 (∀y∈ys,(ts y).length=m+1/\∃b r,y=.ref b/\SqT K H b ((ts y).map V.int++r))/\
 ∀p zs,H p=none->zs.Perm ys->(zs.Pairwise λy z=>vP (ts y) (ts z) false=true)->Q (.ref p) (upd H p (.lst zs)):=by simp[Uj]
end
end L2
namespace L2
open PySem PySem.Spec PyProof.Rows
section
variable{K:Fg_}{H:Hp}{Q:VK}{σ:St}{v:V}{a0 a1 a2 a3 a4 a5 a6 a7 a8 a9:Option V}
def rd{x C dx:Addr}{fs:List (Str×V)}{f:Str}{R:V->Prop}(h:H x=some (.ins C dx fs))(c:Cls K C)(n:jg K C f)(l:List.lookup f fs=some v)(k:R v):∃C dx fs,H x=some (.ins C dx fs)/\Cls K C/\jg K C f/\∃v,List.lookup f fs=some v/\R v:=⟨C,dx,fs,h,c,n,v,l,k⟩
def sw{x C dx:Addr}{fs:List (Str×V)}{f:Str}{R:Addr->Addr->List (Str×V)->Prop}(h:H x=some (.ins C dx fs))(c:Cls K C)(n:jg K C f)(l:fs.length<1000)(k:R C dx fs):∃C dx fs,H x=some (.ins C dx fs)/\Cls K C/\jg K C f/\fs.length<1000/\R C dx fs:=⟨C,dx,fs,h,c,n,l,k⟩
def sz{n:Nat}(h:n<=1000:=by decide):n<=sizeLine:=by rw[zq];omega
def md{x C dx:Addr}{fs:List (Str×V)}{m:Str}{tab:List (Addr×Sp)}{sp:Sp}{R:Sp->Prop}(h:H x=some (.ins C dx fs))(i:(C,sp)∈tab)(l:List.lookup m fs=Option.none)(k:R sp):∃C dx fs,H x=some (.ins C dx fs)/\∃sp,(C,sp)∈tab/\List.lookup m fs=Option.none/\R sp:=⟨C,dx,fs,h,sp,i,l,k⟩
def ln0{α:Type}{P:List α->Prop}(h:P []):∀us:List α,us.length=0->P us:=by
 intro us e
 cases us with
 |nil=>exact h
 |cons=>cases e
def lnS{α:Type}{P:List α->Prop}{n:Nat}(h:∀a us,us.length=n->P (a::us)):∀us:List α,us.length=n+1->P us:=by
 intro us e
 cases us with
 |nil=>cases e
 |cons a us=>exact h a us (Nat.succ.inj e)
def ln1{α:Type}{P:List α->Prop}(h:∀a0,P [a0]):∀us:List α,us.length=1->P us:=lnS λa=>ln0 (h a)
def ln2{α:Type}{P:List α->Prop}(h:∀a0 a1,P [a0,a1]):∀us:List α,us.length=2->P us:=lnS λa=>ln1 (h a)
def ln3{α:Type}{P:List α->Prop}(h:∀a0 a1 a2,P [a0,a1,a2]):∀us:List α,us.length=3->P us:=lnS λa=>ln2 (h a)
def ln4{α:Type}{P:List α->Prop}(h:∀a0 a1 a2 a3,P [a0,a1,a2,a3]):∀us:List α,us.length=4->P us:=lnS λa=>ln3 (h a)
def ln5{α:Type}{P:List α->Prop}(h:∀a0 a1 a2 a3 a4,P [a0,a1,a2,a3,a4]):∀us:List α,us.length=5->P us:=lnS λa=>ln4 (h a)
def ln6{α:Type}{P:List α->Prop}(h:∀a0 a1 a2 a3 a4 a5,P [a0,a1,a2,a3,a4,a5]):∀us:List α,us.length=6->P us:=lnS λa=>ln5 (h a)
def ln7{α:Type}{P:List α->Prop}(h:∀a0 a1 a2 a3 a4 a5 a6,P [a0,a1,a2,a3,a4,a5,a6]):∀us:List α,us.length=7->P us:=lnS λa=>ln6 (h a)
def ln8{α:Type}{P:List α->Prop}(h:∀a0 a1 a2 a3 a4 a5 a6 a7,P [a0,a1,a2,a3,a4,a5,a6,a7]):∀us:List α,us.length=8->P us:=lnS λa=>ln7 (h a)
end
end L2
namespace L2
open PySem PySem.Spec PyProof.Rows
section
variable{X:Cx}{K:Fg_}{H:Hp}{Q:VK}{σ:St}{v:V}{a0 a1 a2 a3 a4 a5 a6 a7 a8 a9 a10 a11 a12 a13 a14:Option V}{P:V->Prop}{R:Addr->Prop}{i:Nat}{f m:Str}{tab:List (Addr×Sp)}{E:XK}{t:TA}{tv:TE}{D:Ends}{e:Expr}{tg:Expr}{st:Stmt}{a:Addr}
noncomputable def atV(σ:St)(i:Nat)(P:V->Prop):Prop:=match σ[i]? with
 |some (some v)=>P v
 |_=>False
noncomputable def onR(x:V)(P:Addr->Prop):Prop:=match x with
 |.ref a=>P a
 |_=>False
def atV_iff:atV σ i P=∃v,σ[i]? =some (some v)/\P v:=by
 unfold atV;split
 ·next v e=>exact propext ⟨λh=>⟨v,e,h⟩,fun⟨w,q,h⟩=>by rw[e]at q;cases q;exact h⟩
 ·next n=>exact propext ⟨λh=>h.elim,fun⟨w,q,_⟩=>(n w q).elim⟩
def Mh{x:V}:onR x R=∃a,x=.ref a/\R a:=propext ⟨λh=>by
 cases x<;>first|exact h.elim|exact⟨_,rfl,h⟩,fun⟨a,e,h⟩=>by rw[e];exact h⟩
noncomputable def tV(i:Nat):TE:=λσ H Q=>atV σ i λv=>Q v H
noncomputable def tFV(K:Fg_)(i:Nat)(f:Str):TE:=λσ H Q=>atV σ i λx=>onR x λa=>∃C dx fs,H a=some (.ins C dx fs)/\Cls K C/\jg K C f/\∃v,List.lookup f fs=some v/\Q v H
noncomputable def tMV(tab:List (Addr×Sp))(m:Str)(E:XK)(i:Nat)(t:TA):TE:=λσ H Q=>atV σ i λx=>onR x λa=>∃C dx fs,H a=some (.ins C dx fs)/\∃sp,(C,sp)∈tab/\List.lookup m fs=none/\t σ H λvs H2=>sp (.ref a::vs) H2 Q E
noncomputable def sFV(K:Fg_)(i:Nat)(tv:TE)(f:Str):TS:=λD σ H=>tv σ H λy H1=>atV σ i λx=>onR x λa=>∃C dx fs,H1 a=some (.ins C dx fs)/\Cls K C/\jg K C f/\fs.length<1000/\D.nx σ (upd H1 a (.ins C dx (DP f y fs)))
noncomputable def iLV(K:Fg_)(i:Nat):TI:=λσ H R=>atV σ i λx=>onR x λa=>(∃xs,SqL K H a xs)/\R (Itl K a) H
def alv:Oo i=tV i:=funext λσ=>funext λH=>funext λQ=>atV_iff.symm
def akD:akz K (Oo i) f=tFV K i f:=by
 funext σ H Q;unfold tFV akz Oo;rw[atV_iff];simp only[Mh,exists_and_left]
def aaN:Py tab m E (Oo i) t=tMV tab m E i t:=by
 funext σ H Q;unfold tMV Py Oo;rw[atV_iff];simp only[Mh];refine propext ⟨fun⟨v,e,a,C,dx,fs,sp,q,h1,h2,z,h4⟩=>⟨v,e,a,q,C,dx,fs,h1,sp,h2,z,q▸h4⟩,fun⟨v,e,a,q,C,dx,fs,h1,sp,h2,z,h4⟩=>⟨v,e,a,C,dx,fs,sp,q,h1,h2,z,q▸h4⟩⟩
def akp:akv K (Oo i) tv f=sFV K i tv f:=by
 funext D σ H;unfold sFV akv Oo;simp only[atV_iff,Mh,exists_and_left]
def akV:Yk K (Oo i)=iLV K i:=by
 funext σ H R;unfold iLV Yk Oo;rw[atV_iff];simp only[Mh]
noncomputable def ajG(x:Str):Bool:=!(x==("__debug__" :Str)) && !(x==("__classdict__" :Str))
def orl{α:Sort _}{a:α}{p:Prop}:a=a\/p:=Or.inl rfl
def orr{α:Sort _}{a:α}{p:Prop}:p\/a=a:=Or.inr rfl
def nd1{x:Str}:[x].Nodup:=zP.mpr ⟨zn,List.nodup_nil⟩
def nm1{x:Str}(h:ajG x=true):(x==("__debug__" :Str))=false:=by unfold ajG at h;revert h;cases x==("__debug__" :Str)<;>simp
def nm2{x:Str}(h:ajG x=true):(x==("__classdict__" :Str))=false:=by unfold ajG at h;revert h;cases x==("__classdict__" :Str)<;>simp
def pvD(i:Nat){x:Str}{pos:Pos}(q:X.N[i]? =some x:=by rfl)(hv:Vis X.env.scope x:=by walk_at "o") (hd:ajG x=true:=by rfl):PE X (.Name x pos) (tV i):=alv▸pv i q hv (nm1 hd) (nm2 hd)
def pav(i:Nat){x:Str}{pos:Pos}{es:List Expr}{t:TA}(q:PA X es t)(z:X.N[i]? =some x:=by rfl)(hv:Vis X.env.scope x:=by walk_at "o") (hd:ajG x=true:=by rfl) (hs:starEach (.Name x pos::es) X.env=(false,eval (.Name x pos) X.env)::starEach es X.env:=by rfl):PA X (.Name x pos::es) (Ei (tV i) t):=iz (pvD i z hv hd) q hs
def ajm{pos:Pos}(q:PE X e (Oo i))(z:attributeBase e f X.env (eval e X.env)=eval e X.env)(hK:X.K=K:=by rfl):PE X (.Attribute e f pos) (tFV K i f):=akD▸aiS q z hK
def jA{o value:Expr}{pos pos':Pos}(ha:PE X o (Oo i))(q:PE X value tv)(z:swapsWith value (some (.Attribute o f pos')) pos.line X.env=pure false)(hK:X.K=K:=by rfl):PS X (.Assign [.Attribute o f pos'] value pos) (sFV K i tv f):=akp▸aiV ha q z hK
def jW(q:PE X e (Oo i))(z:X.K=K:=by rfl):PI X tg e (iLV K i):=akV▸kJ q z
def jE{CX:CXT}{pos apos:Pos}{o:Expr}{es:List Expr}{pl:Sem Bool}(he:PE X o (Oo i))(T:Yb X CX m tab)(z:Av CX X E)(ha:PA X (e::es) t)
  (q:starEach (e::es) X.env=(false,eval e X.env)::starEach es X.env:=by rfl) (hpl:(backTo pos (starEach es X.env)).any (·.1)=false:=by rfl)
  (ht:eval (.Call (.Attribute o m apos) (e::es) [] pos) X.env=(do
   let ov<-eval o X.env
   standAt apos.atName
   let(f,first)<-holding [ov] (getMethod ov m pl)
   callWith pos f first (backTo pos (starEach (e::es) X.env)) (backToKw pos (keywordEach [] X.env))):=by rfl):
  PE X (.Call (.Attribute o m apos) (e::es) [] pos) (tMV tab m E i t):=aaN▸Zo (pl:=pl) he T z ha q hpl ht
def lU{CX:CXT}{pos apos:Pos}{o:Expr}{pl:Sem Bool}(he:PE X o (Oo i))(T:Yb X CX m tab)(q:Av CX X E)
  (z:eval (.Call (.Attribute o m apos) [] [] pos) X.env=(do
   let ov<-eval o X.env
   standAt apos.atName
   let(f,first)<-holding [ov] (getMethod ov m pl)
   callWith pos f first (backTo pos (starEach [] X.env)) (backToKw pos (keywordEach [] X.env))):=by rfl):
  PE X (.Call (.Attribute o m apos) [] [] pos) (tMV tab m E i Xo):=aaN▸Wm (pl:=pl) he T q z
def av_V:tV i σ H Q=atV σ i λv=>Q v H:=rfl
def av_F:tFV K i f σ H Q=atV σ i λx=>onR x λa=>∃C dx fs,H a=some (.ins C dx fs)/\Cls K C/\jg K C f/\∃v,List.lookup f fs=some v/\Q v H:=rfl
def av_M:tMV tab m E i t σ H Q=atV σ i λx=>onR x λa=>∃C dx fs,H a=some (.ins C dx fs)/\∃sp,(C,sp)∈tab/\List.lookup m fs=none/\t σ H λvs H2=>sp (.ref a::vs) H2 Q E:=rfl
def av_S:sFV K i tv f D σ H=tv σ H λy H1=>atV σ i λx=>onR x λa=>∃C dx fs,H1 a=some (.ins C dx fs)/\Cls K C/\jg K C f/\fs.length<1000/\D.nx σ (upd H1 a (.ins C dx (DP f y fs))):=rfl
def av_L{R:It->Hp->Prop}:iLV K i σ H R=atV σ i λx=>onR x λa=>(∃xs,SqL K H a xs)/\R (Itl K a) H:=rfl
def av_r:onR (.ref a) R=R a:=rfl
def av0:atV (some v::σ) 0 P=P v:=rfl
def av1:atV (a0::some v::σ) 1 P=P v:=rfl
def av2:atV (a0::a1::some v::σ) 2 P=P v:=rfl
def av3:atV (a0::a1::a2::some v::σ) 3 P=P v:=rfl
def av4:atV (a0::a1::a2::a3::some v::σ) 4 P=P v:=rfl
def av5:atV (a0::a1::a2::a3::a4::some v::σ) 5 P=P v:=rfl
def av6:atV (a0::a1::a2::a3::a4::a5::some v::σ) 6 P=P v:=rfl
def av7:atV (a0::a1::a2::a3::a4::a5::a6::some v::σ) 7 P=P v:=rfl
def av8:atV (a0::a1::a2::a3::a4::a5::a6::a7::some v::σ) 8 P=P v:=rfl
def av9:atV (a0::a1::a2::a3::a4::a5::a6::a7::a8::some v::σ) 9 P=P v:=rfl
def av10:atV (a0::a1::a2::a3::a4::a5::a6::a7::a8::a9::some v::σ) 10 P=P v:=rfl
def av11:atV (a0::a1::a2::a3::a4::a5::a6::a7::a8::a9::a10::some v::σ) 11 P=P v:=rfl
def av12:atV (a0::a1::a2::a3::a4::a5::a6::a7::a8::a9::a10::a11::some v::σ) 12 P=P v:=rfl
def av13:atV (a0::a1::a2::a3::a4::a5::a6::a7::a8::a9::a10::a11::a12::some v::σ) 13 P=P v:=rfl
def mc{CX:CXT}{C f:Addr}{fd:FuncData}{ps:List Str}{sp:Sp}{k n:Nat}{r:List (Addr×Sp)}(c:Cls X.K C)(hm:Meth X.K C m f)(F:jQ X.prog X.w X.K X.mg X.base CX k f fd ps sp)(z:qW n X.A)(hb:Binds X.K fd ps [])(t:Yb X CX m r)(q:k<=n:=by decide):Yb X CX m ((C,sp)::r):=.cons c hm F (z.mono q) hb t
end
end L2
namespace L2
open PySem PySem.Spec PyProof.Rows
structure FG(K:Fg_)(mg:Str->Option Value)(x:Str)(st:Stmt)(f:Addr)(fd:FuncData):Prop where
 m:mg x=some (.ref f)
 k:PySem.W.keepIn K (.ref f)=true
 F:Fun K x x st f fd
section
variable{X:Cx}{t:TA}{e:Expr}
def pcg{k n:Nat}{f:Addr}{fd:FuncData}{ps:List Str}{sp:Sp}{x:Str}{st:Stmt}{p pos:Pos}{es:List Expr}(F:jQ X.prog X.w X.K X.mg X.base CX0 k f fd ps sp)(z:qW n X.A)(g:FG X.K X.mg x st f fd)(hb:Binds X.K fd ps [])(ha:PA X (e::es) t)(q:k<=n:=by decide)(hg:Gl X x:=by rfl)(hd:(x==("__debug__" :Str))=false:=by decide)
  (hst:starEach (e::es) X.env=(false,eval e X.env)::starEach es X.env:=by rfl) (hpl:(backTo pos (starEach es X.env)).any (·.1)=false:=by rfl):PE X (.Call (.Name x p) (e::es) [] pos) (aae sp [] E0 t):=ajB F (z.mono q) hg g.m g.k hb .nil jL ha hd hst hpl
end
end L2
local macro_rules | `(tactic| walk_at "u") => `(tactic| (rename_i h; first | (cases h; subst_vars; rfl) | (obtain ⟨e, _⟩ := h; subst e; rfl) | (obtain ⟨_, h⟩ := h; walk_at "u")))
local macro_rules | `(tactic| walk_at "v") => `(tactic| (intros; walk_at "u"))
local macro_rules | `(tactic| walk_at "k") => `(tactic| first | exact L2.CapOk.nil | (refine L2.CapOk.own ?_; walk_at "k") | (refine L2.CapOk.take (by with_unfolding_all rfl) (by first | exact Or.inl (by with_unfolding_all rfl) | exact Or.inr (by with_unfolding_all rfl)) (by first | exact Or.inl (by with_unfolding_all rfl) | exact Or.inr (by with_unfolding_all rfl)) (by with_unfolding_all rfl) ?_; walk_at "k"))
local macro_rules | `(tactic| walk_at "c") => `(tactic| (refine ⟨?c1, ?c3, ?c0, ?c4, ?c5, ?c6, ?c7⟩; (case c1 => with_unfolding_all rfl); (case c3 => walk_at "k"); (case c0 => rfl); (case c4 => decide +kernel); (case c5 => decide +kernel); (case c6 => with_unfolding_all rfl); (case c7 => (intro _; rfl))))
local macro_rules | `(tactic| walk_at "q") => `(tactic| simp only [↓L2.av_V, ↓L2.av_F, ↓L2.av_M, ↓L2.av_S, ↓L2.av_L, ↓L2.av0, ↓L2.av1, ↓L2.av2, ↓L2.av3, ↓L2.av4, ↓L2.av5, ↓L2.av6, ↓L2.av7, ↓L2.av8, ↓L2.av9, ↓L2.av10, ↓L2.av11, ↓L2.av12, ↓L2.av13, L2.av_r, L2.ap_iStr, L2.ap_fldK, L2.ap_sFld, L2.ap_methD, L2.ap_make, L2.ap_dget2, L2.ap_dget, L2.ap_dput, L2.ap_dnewK, L2.ap_dictOf, L2.ap_leS, L2.ap_rIsC, L2.ap_ixT, L2.ap_slT, L2.ap_lenS, L2.ap_new0, L2.ap_dictPairs, L2.ap_iVals, L2.ap_rVals, L2.ap_dget1, L2.ap_tSortK, L2.ap_rSortK, L2.ap_tListRev, L2.ap_tMinD, L2.ap_break, L2.ap_rSortI, L2.ap_iItems, L2.ap_rItems, L2.ap_neM, L2.ap_iKeys, L2.ap_thawV, L2.ap_rMaxL, L2.ap_rSortP, L2.ap_iZip, L2.ap_iEnum, L2.ap_next, L2.ap_asg, L2.ap_name, L2.ap_var, L2.ap_c, L2.ap_op, L2.ap_un, L2.ap_rI, L2.ap_rI0, L2.ap_rU, L2.ap_rEq, L2.ap_rNe, L2.ap_ret, L2.ap_retN, L2.ap_drop, L2.ap_if, L2.ap_test, L2.ap_tB, L2.ap_and, L2.ap_or, L2.ap_not, L2.ap_andV, L2.ap_notV, L2.ap_ifE, L2.ap_call, L2.ap_nil, L2.ap_cons, L2.ap_cb, L2.ap_lst, L2.ap_tup, L2.ap_chain, L2.ap_sl, L2.ap_noPart, L2.ap_part, L2.ap_gNil, L2.ap_gCons, L2.ap_gTup, L2.ap_bm, L2.ap_bm0, L2.ap_ixL, L2.ap_slL, L2.ap_rLen, L2.ap_rSum, L2.ap_rAny, L2.ap_rAll, L2.ap_rListOf, L2.ap_rIsT, L2.ap_append, L2.ap_rCat, L2.ap_comp, L2.ap_iList, L2.ap_iTup, L2.ap_iRng1, L2.ap_noIf, L2.ap_rMin, L2.scal_int, L2.scal_str, L2.scal_bl, L2.start_eq, List.map_cons, List.map_nil, List.length_cons, List.length_nil, List.cons_append, List.nil_append, List.append_nil, List.replicate_succ, List.replicate_zero, Nat.reduceAdd, Nat.reduceSub, Nat.sub_self, List.set_cons_zero, List.set_cons_succ, List.getElem?_cons_zero, List.getElem?_cons_succ, Option.some.injEq, L2.V.int.injEq, L2.V.bl.injEq, L2.V.str.injEq, L2.V.ref.injEq, L2.V.ty.injEq, List.cons.injEq, exists_eq_left', exists_eq_left, exists_and_left, exists_eq', exists_eq, true_and, and_true, and_assoc, exists_const, Bool.not_true, Bool.not_false, if_true, if_false, Bool.false_eq_true, decide_true, decide_false, reduceCtorEq, Bool.not_eq_true', decide_eq_true_eq, decide_eq_false_iff_not])
local macro_rules | `(tactic| walk_at "i") => `(tactic| try walk_at "q")
local macro_rules | `(tactic| walk_at "a") => `(tactic| (repeat (first | simp only [L2.ap_seq, L2.ap_for] | walk_at "q")))
namespace L2
open PySem PySem.Spec PyProof.Rows
def fv{X:Cx}(K:Fg_)(i:Nat){x f:Str}{pos pos':PySem.Pos}(q:X.N[i]? =some x:=by rfl)(hv:Vis X.env.scope x:=by first|exact Or.inl rfl|exact Or.inr (Or.inl rfl)|exact Or.inr (Or.inr rfl))(hd:(x==("__debug__" :Str))=false:=by decide) (hcd:(x==("__classdict__" :Str))=false:=by decide) (hb:PySem.attributeBase (.Name x pos') f X.env (PySem.eval (.Name x pos') X.env)=PySem.eval (.Name x pos') X.env:=by rfl) (hK:X.K=K:=by rfl):PE X (.Attribute (.Name x pos') f pos) (tFV K i f):=ajm (pv i q hv hd hcd) hb hK
end L2
namespace My
open PySem L2 PyProof.Rows
open PySem.W (codeIn findCls findIn fnOf hasDictIn isFn keepIn kitOne makesIn mg_none_of mg_of mroIn nsIn plainGet plainOver readsIn specialIn takesIn)
noncomputable def top(i:Nat):Stmt:=PySem.Challenge.pw_lotledger_k65_rows_of_gains.main.body.getD i (.Pass ⟨0,0,0,0⟩)
abbrev DR:Stmt:=top 98
abbrev oW:Stmt:=top 31
abbrev rN:Stmt:=top 32
abbrev JB:Stmt:=top 34
abbrev vV:Stmt:=top 33
abbrev pR:Stmt:=inClass (top 24) 0
abbrev nW:Stmt:=inClass (top 30) 0
abbrev uI:Stmt:=top 35
abbrev mG:Stmt:=inClass (top 25) 0
abbrev uO:Stmt:=top 36
abbrev wI:Stmt:=top 37
abbrev lO:Stmt:=inClass (top 26) 0
abbrev qI:Stmt:=inClass (top 27) 0
abbrev lQ:Stmt:=inClass (top 28) 0
abbrev pL:Stmt:=inClass (top 29) 0
abbrev wQ:Stmt:=top 97
abbrev sX:Stmt:=top 84
abbrev sV:Stmt:=top 45
abbrev DY:Stmt:=top 44
abbrev Eh:Stmt:=top 43
abbrev uN:Stmt:=inClass (top 72) 14
abbrev qF:Stmt:=inClass (top 72) 12
abbrev tK:Stmt:=top 53
abbrev su:Stmt:=inClass (top 51) 0
abbrev qH:Stmt:=inClass (top 51) 3
abbrev Eb:Stmt:=top 52
abbrev DW:Stmt:=inClass (top 72) 10
abbrev uE:Stmt:=inClass (top 72) 4
abbrev ql:Stmt:=top 75
abbrev Br:Stmt:=inClass (top 71) 1
abbrev rW:Stmt:=top 80
abbrev mV:Stmt:=inClass (top 79) 2
abbrev qU:Stmt:=inClass (top 71) 0
abbrev rR:Stmt:=top 81
abbrev nJ:Stmt:=inClass (top 79) 1
abbrev uM:Stmt:=inClass (top 72) 3
abbrev sG:Stmt:=inClass (top 72) 5
abbrev pH:Stmt:=top 49
abbrev Hr:Stmt:=top 47
abbrev RZ:Stmt:=top 48
abbrev Je:Stmt:=top 73
abbrev rM:Stmt:=inClass (top 62) 0
abbrev Iv:Stmt:=top 56
abbrev qR:Stmt:=inClass (top 66) 1
abbrev Bo:Stmt:=inClass (top 51) 2
abbrev uz:Stmt:=top 54
abbrev qG:Stmt:=top 67
abbrev sU:Stmt:=inClass (top 63) 1
abbrev tG:Stmt:=inClass (top 64) 1
abbrev qJ:Stmt:=inClass (top 51) 4
abbrev qy:Stmt:=top 68
abbrev qP:Stmt:=inClass (top 65) 1
abbrev Bm:Stmt:=top 69
abbrev pI:Stmt:=inClass (top 72) 11
abbrev sY:Stmt:=inClass (top 72) 6
abbrev rQ:Stmt:=inClass (top 72) 7
abbrev tE:Stmt:=top 59
abbrev BW:Stmt:=top 58
abbrev qN:Stmt:=inClass (top 72) 8
abbrev xG:Stmt:=top 60
abbrev oH:Stmt:=inClass (top 72) 9
abbrev oJ:Stmt:=inClass (top 72) 2
abbrev Bt:Stmt:=top 39
abbrev pO:Stmt:=top 40
abbrev oN:Stmt:=inClass (top 25) 3
abbrev oR:Stmt:=top 41
abbrev ou:Stmt:=inClass (top 26) 3
abbrev oA:Stmt:=inClass (top 27) 3
abbrev oh:Stmt:=inClass (top 28) 3
abbrev nQ:Stmt:=inClass (top 29) 3
abbrev mX:Stmt:=inClass (top 30) 3
abbrev Bq:Stmt:=top 55
abbrev Bu:Stmt:=inClass (top 72) 13
abbrev Jw:Stmt:=inClass (top 72) 1
abbrev qm:Stmt:=top 77
abbrev qK:Stmt:=inClass (top 72) 0
abbrev JG:Stmt:=top 76
abbrev mR:Stmt:=inClass (top 79) 0
abbrev pJ:Stmt:=top 82
abbrev BR:Stmt:=inClass (top 72) 17
abbrev tH:Stmt:=top 74
abbrev xJ:Stmt:=inClass (top 72) 15
abbrev wF:Stmt:=top 102
abbrev wW:Stmt:=top 86
abbrev sW:Stmt:=top 87
abbrev BZ:Stmt:=top 85
abbrev pN:Stmt:=top 92
abbrev qD:Stmt:=top 93
abbrev Bg:Stmt:=top 91
abbrev wz:Stmt:=top 90
abbrev uP:Stmt:=top 89
abbrev Ej:Stmt:=top 94
abbrev sI:Stmt:=top 95
abbrev Ep:Stmt:=top 88
abbrev tD:Stmt:=top 96
abbrev Eg:Stmt:=top 101
abbrev sS:Stmt:=top 4
abbrev uJ:Stmt:=top 3
abbrev rY:Stmt:=top 2
abbrev Bh:Stmt:=top 1
abbrev xq:Stmt:=top 100
abbrev wK:Stmt:=top 103
abbrev rO:Stmt:=inClass (top 71) 2
abbrev BJ:Stmt:=top 104
abbrev Zx:Stmt:=top 105
set_option genInjectivity false in
structure Adr where
 aa9:Addr
 aba:Addr
 abb:Addr
 abc:Addr
 abd:Addr
 abe:Addr
 abf:Addr
 abg:Addr
 abh:Addr
 abi:Addr
 abj:Addr
 abk:Addr
 abl:Addr
 abm:Addr
 abn:Addr
 abo:Addr
 abp:Addr
 abq:Addr
 abr:Addr
 abt:Addr
 abu:Addr
 abv:Addr
 abw:Addr
 abx:Addr
 aby:Addr
 abz:Addr
 abA:Addr
 abB:Addr
 abC:Addr
 abD:Addr
 abE:Addr
 abF:Addr
 abG:Addr
 abH:Addr
 abI:Addr
 abJ:Addr
 abK:Addr
 abL:Addr
 abM:Addr
 abN:Addr
 abO:Addr
 abP:Addr
 abQ:Addr
 abR:Addr
 abS:Addr
 abT:Addr
 abU:Addr
 abV:Addr
 abW:Addr
 abX:Addr
 abY:Addr
 abZ:Addr
 ab0:Addr
 ab1:Addr
 ab2:Addr
 ab3:Addr
 ab4:Addr
 ab5:Addr
 ab6:Addr
 ab7:Addr
 ab8:Addr
 ab9:Addr
 aca:Addr
 acb:Addr
 acd:Addr
 ace:Addr
 acf:Addr
 acg:Addr
 ach:Addr
 aci:Addr
 acj:Addr
 ack:Addr
 acl:Addr
 acm:Addr
 acn:Addr
 aco:Addr
 acp:Addr
 acq:Addr
 acr:Addr
 acs:Addr
 act:Addr
 acu:Addr
 acv:Addr
 acw:Addr
 acx:Addr
 acy:Addr
 acz:Addr
 acA:Addr
 acB:Addr
 acC:Addr
 acD:Addr
 acE:Addr
 acF:Addr
 acG:Addr
 acH:Addr
 acI:Addr
 acJ:Addr
 acK:Addr
 acL:Addr
 acM:Addr
 acN:Addr
 acO:Addr
 acP:Addr
 acQ:Addr
 law:Addr
 acR:Addr
 acS:Addr
 acT:Addr
 acU:Addr
 acV:Addr
 acW:Addr
 acX:Addr
 acY:Addr
 acZ:Addr
 ac0:Addr
 ac1:Addr
 ac2:Addr
 ac3:Addr
 ac4:Addr
 ac5:Addr
 ac6:Addr
 ac7:Addr
 ac8:Tok
 ac9:Tok
 ada:Tok
 adb:Tok
 adc:Tok
 add:Tok
 ade:Tok
 adf:Tok
 adg:Tok
set_option genInjectivity false in
structure Fds where
 aa9:FuncData
 aba:FuncData
 abb:FuncData
 abc:FuncData
 abd:FuncData
 abe:FuncData
 abf:FuncData
 abg:FuncData
 abh:FuncData
 abi:FuncData
 abj:FuncData
 abk:FuncData
 abl:FuncData
 abm:FuncData
 abn:FuncData
 abo:FuncData
 abp:FuncData
 abq:FuncData
 abr:FuncData
 abt:FuncData
 abu:FuncData
 abv:FuncData
 abw:FuncData
 abx:FuncData
 aby:FuncData
 abz:FuncData
 abA:FuncData
 abB:FuncData
 abC:FuncData
 abD:FuncData
 abE:FuncData
 abF:FuncData
 abG:FuncData
 abH:FuncData
 abI:FuncData
 abJ:FuncData
 abK:FuncData
 abL:FuncData
 abM:FuncData
 abN:FuncData
 abO:FuncData
 abP:FuncData
 abQ:FuncData
 abR:FuncData
 abS:FuncData
 abT:FuncData
 abU:FuncData
 abV:FuncData
 abW:FuncData
 abX:FuncData
 abY:FuncData
 abZ:FuncData
 ab0:FuncData
 ab1:FuncData
 ab2:FuncData
 ab3:FuncData
 ab4:FuncData
 ab5:FuncData
 ab6:FuncData
 ab7:FuncData
 ab8:FuncData
 ab9:FuncData
 aca:FuncData
 acb:FuncData
 acd:FuncData
 ace:FuncData
 acf:FuncData
 acg:FuncData
 ach:FuncData
 aci:FuncData
 acj:FuncData
 ack:FuncData
 acl:FuncData
 acm:FuncData
 acn:FuncData
 aco:FuncData
 acp:FuncData
 acq:FuncData
 acr:FuncData
 acs:FuncData
 act:FuncData
 acu:FuncData
 acv:FuncData
 acw:FuncData
 acx:FuncData
 acy:FuncData
 acz:FuncData
 acA:FuncData
 acB:FuncData
 acC:FuncData
 acD:FuncData
 acE:FuncData
 acF:FuncData
 acG:FuncData
 acH:FuncData
 acI:FuncData
 acJ:FuncData
 acK:FuncData
 acL:FuncData
 acM:FuncData
 acN:FuncData
 acO:FuncData
 acP:FuncData
 acQ:FuncData
 law:FuncData
structure Txt(K:Fg_)(mg:Str->Option Value)(A:Adr)(D:Fds):Prop where
 adh:FG K mg "_law_way" DR A.aa9 D.aa9
 adi:FG K mg "is_whole_number" oW A.aba D.aba
 adj:FG K mg "check_number" rN A.abb D.abb
 adk:FG K mg "is_name" JB A.abc D.abc
 adl:FG K mg "check_name" vV A.abd D.abd
 adm:Fun K "__init__" "Entry.__init__" pR A.abe D.abe
 adn:Fun K "__init__" "Parting.__init__" nW A.abf D.abf
 ado:FG K mg "check_trade" uI A.abg D.abg
 adp:Zi K "__init__" "Buy.__init__" mG A.abh D.abh [V.int 0]
 adq:FG K mg "check_named" uO A.abi D.abi
 adr:FG K mg "named_copy" wI A.abj D.abj
 ads:Zi K "__init__" "Sell.__init__" lO A.abk D.abk [V.int 0,V.non]
 adt:Fun K "__init__" "Gift.__init__" qI A.abl D.abl
 adu:Zi K "__init__" "Give.__init__" lQ A.abm D.abm [V.non]
 adv:Fun K "__init__" "Split.__init__" pL A.abn D.abn
 adw:FG K mg "_law_entry" wQ A.abo D.abo
 adx:FG K mg "_law_cell_at" sX A.abp D.abp
 ady:FG K mg "refuse_twice" sV A.abq D.abq
 adz:FG K mg "place_of" DY A.abr D.abr
 adA:FG K mg "in_order" Eh A.abt D.abt
 adB:Fun K "row_of" "Book.row_of" uN A.abu D.abu
 adC:Fun K "keep_row" "Book.keep_row" qF A.abv D.abv
 adD:FG K mg "place_in_row" tK A.abw D.abw
 adE:Fun K "__init__" "Lot.__init__" su A.abx D.abx
 adF:Fun K "with_more" "Lot.with_more" qH A.aby D.aby
 adG:FG K mg "row_with" Eb A.abz D.abz
 adH:Fun K "put" "Book.put" DW A.abA D.abA
 adI:Fun K "lay_on" "Book.lay_on" uE A.abB D.abB
 adJ:FG K mg "cost_of_parts" ql A.abC D.abC
 adK:Fun K "gain" "Sale.gain" Br A.abD D.abD
 adL:FG K mg "is_open_loss" rW A.abE D.abE
 adM:Fun K "may_take" "LayingBook.may_take" mV A.abF D.abF
 adN:Fun K "__init__" "Sale.__init__" qU A.abG D.abG
 adO:FG K mg "sale_laid_on" rR A.abH D.abH
 adP:Fun K "lay_on" "LayingBook.lay_on" nJ A.abI D.abI
 adQ:Fun K "do_buy" "Book.do_buy" uM A.abJ D.abJ
 adR:Fun K "do_gift" "Book.do_gift" sG A.abK D.abK
 adS:FG K mg "sum_of_weights" pH A.abL D.abL
 adT:FG K mg "part_of" Hr A.abM D.abM
 adU:FG K mg "dealt" RZ A.abN D.abN
 adV:FG K mg "sale_of" Je A.abO D.abO
 adW:Fun K "levelled" "Way.levelled" rM A.abP D.abP
 adX:FG K mg "cost_in" Iv A.abQ D.abQ
 adY:Fun K "levelled" "Mean.levelled" qR A.abR D.abR
 adZ:Fun K "taken" "Lot.taken" Bo A.abS D.abS
 ad0:FG K mg "row_without" uz A.abT D.abT
 ad1:FG K mg "picks_in_turn" qG A.abU D.abU
 ad2:Fun K "picks" "Eldest.picks" sU A.abV D.abV
 ad3:Fun K "picks" "Newest.picks" tG A.abW D.abW
 ad4:Fun K "is_dearer" "Lot.is_dearer" qJ A.abX D.abX
 ad5:FG K mg "dearest_first" qy A.abY D.abY
 ad6:Fun K "picks" "Dearest.picks" qP A.abZ D.abZ
 ad7:FG K mg "gone_from" Bm A.ab0 D.ab0
 ad8:Fun K "taken_for" "Book.taken_for" pI A.ab1 D.ab1
 ad9:Fun K "do_sell" "Book.do_sell" sY A.ab2 D.ab2
 aea:Fun K "do_give" "Book.do_give" rQ A.ab3 D.ab3
 aeb:FG K mg "pieces_split" tE A.ab4 D.ab4
 aec:FG K mg "row_split" BW A.ab5 D.ab5
 aed:Fun K "do_split" "Book.do_split" qN A.ab6 D.ab6
 aee:FG K mg "row_parted" xG A.ab7 D.ab7
 aef:Fun K "do_parting" "Book.do_parting" oH A.ab8 D.ab8
 aeg:Fun K "do_by_kind" "Book.do_by_kind" oJ A.ab9 D.ab9
 aeh:FG K mg "held_with" Bt A.aca D.aca
 aei:FG K mg "held_with_more" pO A.acb D.acb
 aej:Fun K "held_behind" "Buy.held_behind" oN A.acd D.acd
 aek:FG K mg "held_with_fewer" oR A.ace D.ace
 ael:Fun K "held_behind" "Sell.held_behind" ou A.acf D.acf
 aem:Fun K "held_behind" "Gift.held_behind" oA A.acg D.acg
 aen:Fun K "held_behind" "Give.held_behind" oh A.ach D.ach
 aeo:Fun K "held_behind" "Split.held_behind" nQ A.aci D.aci
 aep:Fun K "held_behind" "Parting.held_behind" mX A.acj D.acj
 aeq:FG K mg "pieces_in" Bq A.ack D.ack
 aer:Fun K "held" "Book.held" Bu A.acl D.acl
 aes:Fun K "do" "Book.do" Jw A.acm D.acm
 aet:FG K mg "with_all_done" qm A.acn D.acn
 aeu:Fun K "__init__" "Book.__init__" qK A.aco D.aco
 aev:FG K mg "book_of" JG A.acp D.acp
 aew:Fun K "__init__" "LayingBook.__init__" mR A.acq D.acq
 aex:FG K mg "laying_book_of" pJ A.acr D.acr
 aey:Fun K "sums" "Book.sums" BR A.acs D.acs
 aez:FG K mg "copy_of_sale" tH A.act D.act
 aeA:Fun K "sales" "Book.sales" xJ A.acu D.acu
 aeB:FG K mg "_law_longs" wF A.acv D.acv
 aeC:FG K mg "_law_mixed" wW A.acw D.acw
 aeD:FG K mg "_law_sources" sW A.acx D.acx
 aeE:FG K mg "_law_take" BZ A.acy D.acy
 aeF:FG K mg "_law_split_row" pN A.acz D.acz
 aeG:FG K mg "_law_part_row" qD A.acA D.acA
 aeH:FG K mg "_law_some" Bg A.acB D.acB
 aeI:FG K mg "_law_price" wz A.acC D.acC
 aeJ:FG K mg "_law_pieces" uP A.acD D.acD
 aeK:FG K mg "_law_row" Ej A.acE D.acE
 aeL:FG K mg "_law_counted" sI A.acF D.acF
 aeM:FG K mg "_law_raw" Ep A.acG D.acG
 aeN:FG K mg "_law_history" tD A.acH D.acH
 aeO:FG K mg "_law_due" Eg A.acI D.acI
 aeP:FG K mg "gain_of_part" sS A.acJ D.acJ
 aeQ:FG K mg "row_of_part" uJ A.acK D.acK
 aeR:FG K mg "rows_of_sale" rY A.acL D.acL
 aeS:FG K mg "gain_rows" Bh A.acM D.acM
 aeT:FG K mg "_law_whole" xq A.acN D.acN
 aeU:FG K mg "_law_right" wK A.acO D.acO
 aeV:Fun K "counted" "Sale.counted" rO A.acP D.acP
 aeW:FG K mg "_law_good" BJ A.acQ D.acQ
 aeX:FG K mg "law" Zx A.law D.law
 aeY:mg "isinstance" =none
 aeZ:mg "int" =none
 ae0:mg "bool" =none
 ae1:mg "all" =none
 ae2:mg "str" =none
 ae3:mg "len" =none
 ae4:mg "list" =none
 ae5:mg "sorted" =none
 ae6:mg "zip" =none
 ae7:mg "any" =none
 ae8:mg "sum" =none
 ae9:mg "dict" =none
 afa:mg "min" =none
 afb:mg "reversed" =none
 afc:mg "enumerate" =none
 afd:mg "range" =none
 afe:mg "max" =none
 aff:mg "tuple" =none
 afg:mg "Eldest" =some (.ref A.acR)
 afh:mg "Newest" =some (.ref A.acS)
 afi:mg "Dearest" =some (.ref A.acT)
 afj:mg "Mean" =some (.ref A.acU)
 afk:mg "Entry" =some (.ref A.acV)
 afl:mg "Parting" =some (.ref A.acW)
 afm:mg "Buy" =some (.ref A.acX)
 afn:mg "Sell" =some (.ref A.acY)
 afo:mg "Gift" =some (.ref A.acZ)
 afp:mg "Give" =some (.ref A.ac0)
 afq:mg "Split" =some (.ref A.ac1)
 afr:mg "Book" =some (.ref A.ac2)
 afs:mg "Lot" =some (.ref A.ac3)
 aft:mg "LayingBook" =some (.ref A.ac4)
 afu:mg "Sale" =some (.ref A.ac5)
 afv:mg "MOST_LETTERS" =some (.int 8 A.ac8)
 afw:mg "MOST_DAY" =some (.int 1000000 A.ac9)
 afx:mg "MOST_NUMBER" =some (.int 1000000 A.ada)
 afy:mg "MOST_WHOLE" =some (.int 1000000 A.adb)
 afz:mg "MOST_PIECES" =some (.int 1000000000 A.adc)
 afA:mg "MOST_PRICE" =some (.int 1000000000 A.add)
 afB:mg "MOST_FEE" =some (.int 1000000000 A.ade)
 afC:mg "MOST_GIFT_COST" =some (.int 1000000000000000000 A.adf)
 afD:mg "MOST_SPLIT" =some (.int 1000 A.adg)
 afE:Cls K A.acR
 afF:Cls K A.acS
 afG:Cls K A.acT
 afH:Cls K A.acU
 afI:Cls K A.acW
 afJ:Pg K A.acW
 afK:jg K A.acW "day"
 afL:jg K A.acW "number"
 afM:jg K A.acW "ware"
 afN:jg K A.acW "other"
 afO:jg K A.acW "share"
 afP:jg K A.acW "whole"
 afQ:Cls K A.acX
 afR:Pg K A.acX
 afS:jg K A.acX "day"
 afT:jg K A.acX "number"
 afU:jg K A.acX "ware"
 afV:jg K A.acX "pieces"
 afW:jg K A.acX "price"
 afX:jg K A.acX "fee"
 afY:jg K A.acX "cost"
 afZ:Cls K A.acY
 af0:Pg K A.acY
 af1:jg K A.acY "day"
 af2:jg K A.acY "number"
 af3:jg K A.acY "ware"
 af4:jg K A.acY "pieces"
 af5:jg K A.acY "price"
 af6:jg K A.acY "fee"
 af7:jg K A.acY "named"
 af8:jg K A.acY "proceeds"
 af9:Cls K A.acZ
 aga:Pg K A.acZ
 agb:jg K A.acZ "day"
 agc:jg K A.acZ "number"
 agd:jg K A.acZ "ware"
 age:jg K A.acZ "pieces"
 agf:jg K A.acZ "cost"
 agg:jg K A.acZ "since"
 agh:Cls K A.ac0
 agi:Pg K A.ac0
 agj:jg K A.ac0 "day"
 agk:jg K A.ac0 "number"
 agl:jg K A.ac0 "ware"
 agm:jg K A.ac0 "pieces"
 agn:jg K A.ac0 "named"
 ago:Cls K A.ac1
 agp:Pg K A.ac1
 agq:jg K A.ac1 "day"
 agr:jg K A.ac1 "number"
 ags:jg K A.ac1 "ware"
 agt:jg K A.ac1 "many"
 agu:jg K A.ac1 "of"
 agv:Cls K A.ac2
 agw:jg K A.ac2 "way"
 agx:jg K A.ac2 "rows"
 agy:jg K A.ac2 "last_place"
 agz:jg K A.ac2 "paid"
 agA:jg K A.ac2 "brought"
 agB:jg K A.ac2 "sales_done"
 agC:jg K A.ac2 "givings_done"
 agD:Cls K A.ac3
 agE:jg K A.ac3 "number"
 agF:jg K A.ac3 "since"
 agG:jg K A.ac3 "pieces"
 agH:jg K A.ac3 "cost"
 agI:Cls K A.ac4
 agJ:jg K A.ac4 "way"
 agK:jg K A.ac4 "rows"
 agL:jg K A.ac4 "last_place"
 agM:jg K A.ac4 "paid"
 agN:jg K A.ac4 "brought"
 agO:jg K A.ac4 "sales_done"
 agP:jg K A.ac4 "givings_done"
 agQ:jg K A.ac4 "days"
 agR:jg K A.ac4 "layings"
 agS:Cls K A.ac5
 agT:jg K A.ac5 "number"
 agU:jg K A.ac5 "day"
 agV:jg K A.ac5 "ware"
 agW:jg K A.ac5 "proceeds"
 agX:jg K A.ac5 "parts"
 agY:jg K A.ac5 "laid_on"
 agZ:Mk K A.acW A.abf
 ag0:Mk K A.acX A.abh
 ag1:Mk K A.acY A.abk
 ag2:Mk K A.acZ A.abl
 ag3:Mk K A.ac0 A.abm
 ag4:Mk K A.ac1 A.abn
 ag5:Mk K A.ac3 A.abx
 ag6:Mk K A.ac5 A.abG
 ag7:Mk K A.ac2 A.aco
 ag8:Mk K A.ac4 A.acq
 ag9:Mk0 K A.acR
 aha:Mk0 K A.acS
 ahb:Mk0 K A.acT
 ahc:Mk0 K A.acU
 ahd:Meth K A.ac3 "with_more" A.aby
 ahe:Meth K A.ac2 "row_of" A.abu
 ahf:Meth K A.ac4 "row_of" A.abu
 ahg:Meth K A.ac2 "keep_row" A.abv
 ahh:Meth K A.ac4 "keep_row" A.abv
 ahi:Meth K A.ac5 "gain" A.abD
 ahj:Meth K A.ac4 "may_take" A.abF
 ahk:Meth K A.ac2 "put" A.abA
 ahl:Meth K A.ac4 "put" A.abA
 ahm:Meth K A.ac2 "lay_on" A.abB
 ahn:Meth K A.ac4 "lay_on" A.abI
 aho:Meth K A.ac3 "taken" A.abS
 ahp:Meth K A.ac3 "is_dearer" A.abX
 ahq:Meth K A.acR "levelled" A.abP
 ahr:Meth K A.acS "levelled" A.abP
 ahs:Meth K A.acT "levelled" A.abP
 aht:Meth K A.acU "levelled" A.abR
 ahu:Meth K A.acR "picks" A.abV
 ahv:Meth K A.acS "picks" A.abW
 ahw:Meth K A.acT "picks" A.abZ
 ahx:Meth K A.acU "picks" A.abV
 ahy:Meth K A.ac2 "taken_for" A.ab1
 ahz:Meth K A.ac4 "taken_for" A.ab1
 ahA:Meth K A.ac2 "do_buy" A.abJ
 ahB:Meth K A.ac4 "do_buy" A.abJ
 ahC:Meth K A.ac2 "do_gift" A.abK
 ahD:Meth K A.ac4 "do_gift" A.abK
 ahE:Meth K A.ac2 "do_sell" A.ab2
 ahF:Meth K A.ac4 "do_sell" A.ab2
 ahG:Meth K A.ac2 "do_give" A.ab3
 ahH:Meth K A.ac4 "do_give" A.ab3
 ahI:Meth K A.ac2 "do_split" A.ab6
 ahJ:Meth K A.ac4 "do_split" A.ab6
 ahK:Meth K A.ac2 "do_parting" A.ab8
 ahL:Meth K A.ac4 "do_parting" A.ab8
 ahM:Meth K A.ac2 "do_by_kind" A.ab9
 ahN:Meth K A.ac4 "do_by_kind" A.ab9
 ahO:Meth K A.acX "held_behind" A.acd
 ahP:Meth K A.acY "held_behind" A.acf
 ahQ:Meth K A.acZ "held_behind" A.acg
 ahR:Meth K A.ac0 "held_behind" A.ach
 ahS:Meth K A.ac1 "held_behind" A.aci
 ahT:Meth K A.acW "held_behind" A.acj
 ahU:Meth K A.ac2 "held" A.acl
 ahV:Meth K A.ac4 "held" A.acl
 ahW:Meth K A.ac2 "do" A.acm
 ahX:Meth K A.ac4 "do" A.acm
 ahY:Meth K A.ac2 "sales" A.acu
 ahZ:Meth K A.ac4 "sales" A.acu
 ah0:Meth K A.ac5 "counted" A.acP
 ah1:Meth K A.ac2 "sums" A.acs
 ah2:Meth K A.ac4 "sums" A.acs
 ah3:aiu K A.acV "__init__" A.abe
 ah4:aiu K A.ac2 "__init__" A.aco
 ah5:kitOne K (.ref A.acX) (.ref A.acY)=some false/\kitOne K (.ref A.acX) (.ref A.acZ)=some false/\kitOne K (.ref A.acX) (.ref A.ac0)=some false/\kitOne K (.ref A.acX) (.ref A.ac1)=some false/\kitOne K (.ref A.acX) (.ref A.acW)=some false
 ah6:kitOne K (.ref A.acY) (.ref A.acX)=some false/\kitOne K (.ref A.acY) (.ref A.acZ)=some false/\kitOne K (.ref A.acY) (.ref A.ac0)=some false/\kitOne K (.ref A.acY) (.ref A.ac1)=some false/\kitOne K (.ref A.acY) (.ref A.acW)=some false
 ah7:kitOne K (.ref A.acZ) (.ref A.acX)=some false/\kitOne K (.ref A.acZ) (.ref A.acY)=some false/\kitOne K (.ref A.acZ) (.ref A.ac0)=some false/\kitOne K (.ref A.acZ) (.ref A.ac1)=some false/\kitOne K (.ref A.acZ) (.ref A.acW)=some false
 ah8:kitOne K (.ref A.ac0) (.ref A.acX)=some false/\kitOne K (.ref A.ac0) (.ref A.acY)=some false/\kitOne K (.ref A.ac0) (.ref A.acZ)=some false/\kitOne K (.ref A.ac0) (.ref A.ac1)=some false/\kitOne K (.ref A.ac0) (.ref A.acW)=some false
 ah9:kitOne K (.ref A.ac1) (.ref A.acX)=some false/\kitOne K (.ref A.ac1) (.ref A.acY)=some false/\kitOne K (.ref A.ac1) (.ref A.acZ)=some false/\kitOne K (.ref A.ac1) (.ref A.ac0)=some false/\kitOne K (.ref A.ac1) (.ref A.acW)=some false
 aia:kitOne K (.ref A.acW) (.ref A.acX)=some false/\kitOne K (.ref A.acW) (.ref A.acY)=some false/\kitOne K (.ref A.acW) (.ref A.acZ)=some false/\kitOne K (.ref A.acW) (.ref A.ac0)=some false/\kitOne K (.ref A.acW) (.ref A.ac1)=some false
local macro_rules | `(tactic| walk_at "s") => `(tactic| exact ⟨rfl, rfl, rfl, by decide +kernel, rfl, by decide +kernel, by decide +kernel⟩)
def Su:iT ["_law_cell"] ["_law_cell"] (iK DR):=by walk_at "s"
def Dt:iT ["value"] ["value"] (iK oW):=by walk_at "s"
def JW:iT ["what", "value", "least", "most"] ["what", "value", "least", "most"] (iK rN):=by walk_at "s"
def Wd:iT ["value"] ["value"] (iK JB):=by walk_at "s"
def Mu:iT ["what", "value"] ["what", "value"] (iK vV):=by walk_at "s"
def DQ:iT ["self", "day", "number", "ware"] ["self", "day", "number", "ware"] (iK pR):=by walk_at "s"
def Bl:iT ["self", "day", "number", "ware", "other", "share", "whole"] ["self", "day", "number", "ware", "other", "share", "whole"] (iK nW):=by walk_at "s"
def KY:iT ["pieces", "price", "fee"] ["pieces", "price", "fee"] (iK uI):=by walk_at "s"
def HF:iT ["self", "day", "number", "ware", "pieces", "price", "fee"] ["self", "day", "number", "ware", "pieces", "price", "fee"] (iK mG):=by walk_at "s"
def Kh:iT ["named", "pieces", "seen", "lot", "lot_pieces"] ["named", "pieces"] (iK uO):=by walk_at "s"
def Np:iT ["named"] ["named"] (iK wI):=by walk_at "s"
def FP:iT ["self", "day", "number", "ware", "pieces", "price", "fee", "named"] ["self", "day", "number", "ware", "pieces", "price", "fee", "named"] (iK lO):=by walk_at "s"
def FW:iT ["self", "day", "number", "ware", "pieces", "cost", "since"] ["self", "day", "number", "ware", "pieces", "cost", "since"] (iK qI):=by walk_at "s"
def Gb:iT ["self", "day", "number", "ware", "pieces", "named"] ["self", "day", "number", "ware", "pieces", "named"] (iK lQ):=by walk_at "s"
def Ef:iT ["self", "day", "number", "ware", "many", "of"] ["self", "day", "number", "ware", "many", "of"] (iK pL):=by walk_at "s"
def Ni:iT ["_law_row_here"] ["_law_row_here"] (iK wQ):=by walk_at "s"
def Jo:iT ["_law_script", "_law_k"] ["_law_script", "_law_k"] (iK sX):=by walk_at "s"
def nR:iT ["numbers", "rising", "ahead", "behind"] ["numbers"] (iK sV):=by walk_at "s"
def Rq:iT ["entry"] ["entry"] (iK DY):=by walk_at "s"
def RX:iT ["entries"] ["entries"] (iK Eh):=by walk_at "s"
def Kl:iT ["self", "ware"] ["self", "ware"] (iK uN):=by walk_at "s"
def Gy:iT ["self", "ware", "row"] ["self", "ware", "row"] (iK qF):=by walk_at "s"
def Ji:iT ["lot"] ["lot"] (iK tK):=by walk_at "s"
def Jl:iT ["self", "number", "since", "pieces", "cost"] ["self", "number", "since", "pieces", "cost"] (iK su):=by walk_at "s"
def FZ:iT ["self", "pieces", "cost"] ["self", "pieces", "cost"] (iK qH):=by walk_at "s"
def RD:iT ["lots", "lot"] ["lots", "lot"] (iK Eb):=by walk_at "s"
def uG:iT ["self", "ware", "lots", "row", "lot"] ["self", "ware", "lots"] (iK DW):=by walk_at "s"
def KC:iT ["self", "entry"] ["self", "entry"] (iK uE):=by walk_at "s"
def Gs:iT ["parts"] ["parts"] (iK ql):=by walk_at "s"
def QK:iT ["self"] ["self"] (iK Br):=by walk_at "s"
def Ik:iT ["sale"] ["sale"] (iK rW):=by walk_at "s"
def vM:iT ["self", "entry", "sale"] ["self", "entry", "sale"] (iK mV):=by walk_at "s"
def Gh:iT ["self", "number", "day", "ware", "proceeds", "parts", "laid_on"] ["self", "number", "day", "ware", "proceeds", "parts", "laid_on"] (iK qU):=by walk_at "s"
def Hu:iT ["sale", "number"] ["sale", "number"] (iK rR):=by walk_at "s"
def pU:iT ["self", "entry", "taken"] ["self", "entry"] (iK nJ):=by walk_at "s"
def Ai:iT ["self", "entry", "cost"] ["self", "entry"] (iK uM):=by walk_at "s"
def Hj:iT ["self", "entry"] ["self", "entry"] (iK sG):=by walk_at "s"
def tL:iT ["weights", "whole"] ["weights"] (iK pH):=by walk_at "s"
def Vc:iT ["amount", "part", "whole"] ["amount", "part", "whole"] (iK Hr):=by walk_at "s"
def qe:iT ["amount", "weights", "whole", "shares", "weight_till_here", "dealt_till_here", "weight", "dealt_with_it"] ["amount", "weights"] (iK RZ):=by walk_at "s"
def En:iT ["entry", "lots", "shares", "parts"] ["entry", "lots"] (iK Je):=by walk_at "s"
def JN:iT ["self", "lots"] ["self", "lots"] (iK rM):=by walk_at "s"
def VR:iT ["lots"] ["lots"] (iK Iv):=by walk_at "s"
def uY:iT ["self", "lots", "costs"] ["self", "lots"] (iK qR):=by walk_at "s"
def xx:iT ["self", "pieces", "cost", "gone"] ["self", "pieces"] (iK Bo):=by walk_at "s"
def lJ:iT ["lots", "picks", "left", "taken", "number", "pieces", "lot", "parts"] ["lots", "picks"] (iK uz):=by walk_at "s"
def lB:iT ["lots", "pieces", "picks", "wanted", "lot", "going"] ["lots", "pieces"] (iK qG):=by walk_at "s"
def HJ:iT ["self", "lots", "pieces"] ["self", "lots", "pieces"] (iK sU):=by walk_at "s"
def JK:iT ["self", "lots", "pieces"] ["self", "lots", "pieces"] (iK tG):=by walk_at "s"
def Gf:iT ["self", "other"] ["self", "other"] (iK qJ):=by walk_at "s"
def nG:iT ["lots", "turn", "lot", "cheaper"] ["lots"] (iK qy):=by walk_at "s"
def Gd:iT ["self", "lots", "pieces"] ["self", "lots", "pieces"] (iK qP):=by walk_at "s"
def wV:iT ["way", "lots", "pieces", "named", "row", "picks"] ["way", "lots", "pieces", "named"] (iK Bm):=by walk_at "s"
def ux:iT ["self", "entry", "gone"] ["self", "entry"] (iK pI):=by walk_at "s"
def Jt:iT ["self", "entry"] ["self", "entry"] (iK sY):=by walk_at "s"
def HN:iT ["self", "entry"] ["self", "entry"] (iK rQ):=by walk_at "s"
def kj:iT ["lots", "many", "of", "counts", "pieces_till_here", "split_till_here", "lot", "split_with_it"] ["lots", "many", "of"] (iK tE):=by walk_at "s"
def lX:iT ["lots", "many", "of", "row", "cost_of_gone", "lot", "pieces", "last"] ["lots", "many", "of"] (iK BW):=by walk_at "s"
def FQ:iT ["self", "entry"] ["self", "entry"] (iK qN):=by walk_at "s"
def qd:iT ["lots", "share", "whole", "parts", "going_on", "second"] ["lots", "share", "whole"] (iK xG):=by walk_at "s"
def rH:iT ["self", "entry", "rows"] ["self", "entry"] (iK oH):=by walk_at "s"
def Di:iT ["self", "entry"] ["self", "entry"] (iK oJ):=by walk_at "s"
def Fx:iT ["held", "ware", "pieces", "changed"] ["held", "ware", "pieces"] (iK Bt):=by walk_at "s"
def Et:iT ["held", "ware", "pieces"] ["held", "ware", "pieces"] (iK pO):=by walk_at "s"
def Cp:iT ["self", "held"] ["self", "held"] (iK oN):=by walk_at "s"
def rA:iT ["held", "ware", "pieces", "before"] ["held", "ware", "pieces"] (iK oR):=by walk_at "s"
def Cd:iT ["self", "held"] ["self", "held"] (iK ou):=by walk_at "s"
def Bd:iT ["self", "held"] ["self", "held"] (iK oA):=by walk_at "s"
def BX:iT ["self", "held"] ["self", "held"] (iK oh):=by walk_at "s"
def nj:iT ["self", "held", "before", "behind"] ["self", "held"] (iK nQ):=by walk_at "s"
def vJ:iT ["self", "held"] ["self", "held"] (iK mX):=by walk_at "s"
def QQ:iT ["lots"] ["lots"] (iK Bq):=by walk_at "s"
def NQ:iT ["self"] ["self"] (iK Bu):=by walk_at "s"
def Vl:iT ["self", "entry"] ["self", "entry"] (iK Jw):=by walk_at "s"
def vH:iT ["book", "entries", "entry"] ["book", "entries"] (iK qm):=by walk_at "s"
def Gv:iT ["self", "way"] ["self", "way"] (iK qK):=by walk_at "s"
def Vb:iT ["way", "entries"] ["way", "entries"] (iK JG):=by walk_at "s"
def vI:iT ["self", "way", "days"] ["self", "way", "days"] (iK mR):=by walk_at "s"
def Ec:iT ["way", "days", "entries"] ["way", "days", "entries"] (iK pJ):=by walk_at "s"
def Ow:iT ["self"] ["self"] (iK BR):=by walk_at "s"
def JP:iT ["sale"] ["sale"] (iK tH):=by walk_at "s"
def Mp:iT ["self"] ["self"] (iK xJ):=by walk_at "s"
def qg:iT ["_law_book", "_law_script", "_law_spans", "_law_sale", "_law_span"] ["_law_book", "_law_script"] (iK wF):=by walk_at "s"
def mY:iT ["_law_cell", "_law_k", "_law_number", "_law_j", "_law_here"] ["_law_cell", "_law_k"] (iK wW):=by walk_at "s"
def nY:iT ["_law_script", "_law_cells", "_law_many"] ["_law_script"] (iK sW):=by walk_at "s"
def Fz:iT ["_law_digits", "_law_many", "_law_found"] ["_law_digits", "_law_many"] (iK BZ):=by walk_at "s"
def oM:iT ["_law_day", "_law_number", "_law_ware", "_law_digits", "_law_here", "_law_many", "_law_of"] ["_law_day", "_law_number", "_law_ware", "_law_digits", "_law_here"] (iK pN):=by walk_at "s"
def mF:iT ["_law_day", "_law_number", "_law_wares", "_law_digits", "_law_counts", "_law_ware", "_law_other", "_law_whole_here", "_law_share"] ["_law_day", "_law_number", "_law_wares", "_law_digits", "_law_counts"] (iK qD):=by walk_at "s"
def PX:iT ["_law_digits", "_law_here"] ["_law_digits", "_law_here"] (iK Bg):=by walk_at "s"
def Mj:iT ["_law_digits"] ["_law_digits"] (iK wz):=by walk_at "s"
def KN:iT ["_law_digits"] ["_law_digits"] (iK uP):=by walk_at "s"
def kO:iT ["_law_raw_here", "_law_counts", "_law_giving", "_law_day", "_law_number", "_law_kind", "_law_at", "_law_rest", "_law_digits", "_law_wares", "_law_ware", "_law_here", "_law_other", "_law_cost"] ["_law_raw_here", "_law_counts", "_law_giving"] (iK Ej):=by walk_at "s"
def mQ:iT ["_law_counts", "_law_row_here", "_law_word", "_law_ware", "_law_here", "_law_after"] ["_law_counts", "_law_row_here"] (iK sI):=by walk_at "s"
def nH:iT ["_law_source", "_law_k", "_law_digits", "_law_kind", "_law_at", "_law_day", "_law_number"] ["_law_source", "_law_k"] (iK Ep):=by walk_at "s"
def jZ:iT ["_law_script", "_law_giving", "_law_counts", "_law_rows", "_law_sources_here", "_law_raw_here", "_law_row_here", "_law_more"] ["_law_script", "_law_giving"] (iK tD):=by walk_at "s"
def lG:iT ["_law_book", "_law_long", "_law_due_here", "_law_sale", "_law_lot", "_law_since", "_law_pieces_here", "_law_cost", "_law_share", "_law_gain"] ["_law_book", "_law_long"] (iK Eg):=by walk_at "s"
def qL:iT ["sale", "part", "cost", "share"] ["sale", "part"] (iK sS):=by walk_at "s"
def nC:iT ["sale", "part", "long", "lot", "since", "pieces", "kind"] ["sale", "part", "long"] (iK uJ):=by walk_at "s"
def Jr:iT ["sale", "long"] ["sale", "long"] (iK rY):=by walk_at "s"
def wJ:iT ["book", "long", "rows", "sale"] ["book", "long"] (iK Bh):=by walk_at "s"
def Nt:iT ["_law_found"] ["_law_found"] (iK xq):=by walk_at "s"
def CZ:iT ["_law_found", "_law_due_here", "_law_row_here"] ["_law_found", "_law_due_here"] (iK wK):=by walk_at "s"
def Jd:iT ["self"] ["self"] (iK rO):=by walk_at "s"
def rD:iT ["_law_book", "_law_long", "_law_due_here", "_law_found", "_law_sale"] ["_law_book", "_law_long"] (iK BJ):=by walk_at "s"
def Lh:iT ["_law_script", "_law_entries", "_law_way_here", "_law_book", "_law_sums", "_law_long"] ["_law_script"] (iK Zx):=by walk_at "s"
section
variable{P:Program}{w:World}{K:Fg_}{mg:Str->Option Value}{base:Heap}{A:Adr}{D:Fds}
def Vf(T:Txt K mg A D):Binds K D.aa9 ["_law_cell"] []:=T.adh.F.binds λ_ _ _ _ _ _=>ln1 λ_=>rfl
def DX(T:Txt K mg A D):Binds K D.aba ["value"] []:=T.adi.F.binds λ_ _ _ _ _ _=>ln1 λ_=>rfl
def jH(T:Txt K mg A D):Binds K D.abb ["what", "value", "least", "most"] []:=T.adj.F.binds λ_ _ _ _ _ _=>ln4 λ_ _ _ _=>rfl
def WQ(T:Txt K mg A D):Binds K D.abc ["value"] []:=T.adk.F.binds λ_ _ _ _ _ _=>ln1 λ_=>rfl
def Fv(T:Txt K mg A D):Binds K D.abd ["what", "value"] []:=T.adl.F.binds λ_ _ _ _ _ _=>ln2 λ_ _=>rfl
def lC(T:Txt K mg A D):Binds K D.abe ["self", "day", "number", "ware"] []:=T.adm.binds λ_ _ _ _ _ _=>ln4 λ_ _ _ _=>rfl
def CW(T:Txt K mg A D):Binds K D.abf ["self", "day", "number", "ware", "other", "share", "whole"] []:=T.adn.binds λ_ _ _ _ _ _=>ln7 λ_ _ _ _ _ _ _=>rfl
def Dp(T:Txt K mg A D):Binds K D.abg ["pieces", "price", "fee"] []:=T.ado.F.binds λ_ _ _ _ _ _=>ln3 λ_ _ _=>rfl
def Ds(T:Txt K mg A D):Binds K D.abi ["named", "pieces"] []:=T.adq.F.binds λ_ _ _ _ _ _=>ln2 λ_ _=>rfl
def Fd(T:Txt K mg A D):Binds K D.abj ["named"] []:=T.adr.F.binds λ_ _ _ _ _ _=>ln1 λ_=>rfl
def Jq(T:Txt K mg A D):Binds K D.abl ["self", "day", "number", "ware", "pieces", "cost", "since"] []:=T.adt.binds λ_ _ _ _ _ _=>ln7 λ_ _ _ _ _ _ _=>rfl
def Gn(T:Txt K mg A D):Binds K D.abn ["self", "day", "number", "ware", "many", "of"] []:=T.adv.binds λ_ _ _ _ _ _=>ln6 λ_ _ _ _ _ _=>rfl
def Qg(T:Txt K mg A D):Binds K D.abo ["_law_row_here"] []:=T.adw.F.binds λ_ _ _ _ _ _=>ln1 λ_=>rfl
def lK(T:Txt K mg A D):Binds K D.abp ["_law_script", "_law_k"] []:=T.adx.F.binds λ_ _ _ _ _ _=>ln2 λ_ _=>rfl
def Kp(T:Txt K mg A D):Binds K D.abq ["numbers"] []:=T.ady.F.binds λ_ _ _ _ _ _=>ln1 λ_=>rfl
def Ed(T:Txt K mg A D):Binds K D.abr ["entry"] []:=T.adz.F.binds λ_ _ _ _ _ _=>ln1 λ_=>rfl
def Wg(T:Txt K mg A D):Binds K D.abt ["entries"] []:=T.adA.F.binds λ_ _ _ _ _ _=>ln1 λ_=>rfl
def lD(T:Txt K mg A D):Binds K D.abu ["self", "ware"] []:=T.adB.binds λ_ _ _ _ _ _=>ln2 λ_ _=>rfl
def kh(T:Txt K mg A D):Binds K D.abv ["self", "ware", "row"] []:=T.adC.binds λ_ _ _ _ _ _=>ln3 λ_ _ _=>rfl
def Ky(T:Txt K mg A D):Binds K D.abw ["lot"] []:=T.adD.F.binds λ_ _ _ _ _ _=>ln1 λ_=>rfl
def jY(T:Txt K mg A D):Binds K D.abx ["self", "number", "since", "pieces", "cost"] []:=T.adE.binds λ_ _ _ _ _ _=>ln5 λ_ _ _ _ _=>rfl
def wG(T:Txt K mg A D):Binds K D.aby ["self", "pieces", "cost"] []:=T.adF.binds λ_ _ _ _ _ _=>ln3 λ_ _ _=>rfl
def Va(T:Txt K mg A D):Binds K D.abz ["lots", "lot"] []:=T.adG.F.binds λ_ _ _ _ _ _=>ln2 λ_ _=>rfl
def qj(T:Txt K mg A D):Binds K D.abA ["self", "ware", "lots"] []:=T.adH.binds λ_ _ _ _ _ _=>ln3 λ_ _ _=>rfl
def Nq(T:Txt K mg A D):Binds K D.abB ["self", "entry"] []:=T.adI.binds λ_ _ _ _ _ _=>ln2 λ_ _=>rfl
def vW(T:Txt K mg A D):Binds K D.abC ["parts"] []:=T.adJ.F.binds λ_ _ _ _ _ _=>ln1 λ_=>rfl
def qw(T:Txt K mg A D):Binds K D.abD ["self"] []:=T.adK.binds λ_ _ _ _ _ _=>ln1 λ_=>rfl
def Ko(T:Txt K mg A D):Binds K D.abE ["sale"] []:=T.adL.F.binds λ_ _ _ _ _ _=>ln1 λ_=>rfl
def pF(T:Txt K mg A D):Binds K D.abF ["self", "entry", "sale"] []:=T.adM.binds λ_ _ _ _ _ _=>ln3 λ_ _ _=>rfl
def qM(T:Txt K mg A D):Binds K D.abG ["self", "number", "day", "ware", "proceeds", "parts", "laid_on"] []:=T.adN.binds λ_ _ _ _ _ _=>ln7 λ_ _ _ _ _ _ _=>rfl
def Le(T:Txt K mg A D):Binds K D.abH ["sale", "number"] []:=T.adO.F.binds λ_ _ _ _ _ _=>ln2 λ_ _=>rfl
def Bx(T:Txt K mg A D):Binds K D.abI ["self", "entry"] []:=T.adP.binds λ_ _ _ _ _ _=>ln2 λ_ _=>rfl
def Df(T:Txt K mg A D):Binds K D.abJ ["self", "entry"] []:=T.adQ.binds λ_ _ _ _ _ _=>ln2 λ_ _=>rfl
def Am(T:Txt K mg A D):Binds K D.abK ["self", "entry"] []:=T.adR.binds λ_ _ _ _ _ _=>ln2 λ_ _=>rfl
def Gw(T:Txt K mg A D):Binds K D.abL ["weights"] []:=T.adS.F.binds λ_ _ _ _ _ _=>ln1 λ_=>rfl
def Jy(T:Txt K mg A D):Binds K D.abM ["amount", "part", "whole"] []:=T.adT.F.binds λ_ _ _ _ _ _=>ln3 λ_ _ _=>rfl
def WP(T:Txt K mg A D):Binds K D.abN ["amount", "weights"] []:=T.adU.F.binds λ_ _ _ _ _ _=>ln2 λ_ _=>rfl
def Xc(T:Txt K mg A D):Binds K D.abO ["entry", "lots"] []:=T.adV.F.binds λ_ _ _ _ _ _=>ln2 λ_ _=>rfl
def rT(T:Txt K mg A D):Binds K D.abP ["self", "lots"] []:=T.adW.binds λ_ _ _ _ _ _=>ln2 λ_ _=>rfl
def JZ(T:Txt K mg A D):Binds K D.abQ ["lots"] []:=T.adX.F.binds λ_ _ _ _ _ _=>ln1 λ_=>rfl
def Hi(T:Txt K mg A D):Binds K D.abR ["self", "lots"] []:=T.adY.binds λ_ _ _ _ _ _=>ln2 λ_ _=>rfl
def Ry(T:Txt K mg A D):Binds K D.abS ["self", "pieces"] []:=T.adZ.binds λ_ _ _ _ _ _=>ln2 λ_ _=>rfl
def Nu(T:Txt K mg A D):Binds K D.abT ["lots", "picks"] []:=T.ad0.F.binds λ_ _ _ _ _ _=>ln2 λ_ _=>rfl
def qp(T:Txt K mg A D):Binds K D.abU ["lots", "pieces"] []:=T.ad1.F.binds λ_ _ _ _ _ _=>ln2 λ_ _=>rfl
def Ah(T:Txt K mg A D):Binds K D.abV ["self", "lots", "pieces"] []:=T.ad2.binds λ_ _ _ _ _ _=>ln3 λ_ _ _=>rfl
def KR(T:Txt K mg A D):Binds K D.abW ["self", "lots", "pieces"] []:=T.ad3.binds λ_ _ _ _ _ _=>ln3 λ_ _ _=>rfl
def Ht(T:Txt K mg A D):Binds K D.abX ["self", "other"] []:=T.ad4.binds λ_ _ _ _ _ _=>ln2 λ_ _=>rfl
def Jx(T:Txt K mg A D):Binds K D.abY ["lots"] []:=T.ad5.F.binds λ_ _ _ _ _ _=>ln1 λ_=>rfl
def Jg(T:Txt K mg A D):Binds K D.abZ ["self", "lots", "pieces"] []:=T.ad6.binds λ_ _ _ _ _ _=>ln3 λ_ _ _=>rfl
def Rt(T:Txt K mg A D):Binds K D.ab0 ["way", "lots", "pieces", "named"] []:=T.ad7.F.binds λ_ _ _ _ _ _=>ln4 λ_ _ _ _=>rfl
def nF(T:Txt K mg A D):Binds K D.ab1 ["self", "entry"] []:=T.ad8.binds λ_ _ _ _ _ _=>ln2 λ_ _=>rfl
def Aj(T:Txt K mg A D):Binds K D.ab2 ["self", "entry"] []:=T.ad9.binds λ_ _ _ _ _ _=>ln2 λ_ _=>rfl
def Ao(T:Txt K mg A D):Binds K D.ab3 ["self", "entry"] []:=T.aea.binds λ_ _ _ _ _ _=>ln2 λ_ _=>rfl
def Kf(T:Txt K mg A D):Binds K D.ab4 ["lots", "many", "of"] []:=T.aeb.F.binds λ_ _ _ _ _ _=>ln3 λ_ _ _=>rfl
def QX(T:Txt K mg A D):Binds K D.ab5 ["lots", "many", "of"] []:=T.aec.F.binds λ_ _ _ _ _ _=>ln3 λ_ _ _=>rfl
def wY(T:Txt K mg A D):Binds K D.ab6 ["self", "entry"] []:=T.aed.binds λ_ _ _ _ _ _=>ln2 λ_ _=>rfl
def Qq(T:Txt K mg A D):Binds K D.ab7 ["lots", "share", "whole"] []:=T.aee.F.binds λ_ _ _ _ _ _=>ln3 λ_ _ _=>rfl
def uv(T:Txt K mg A D):Binds K D.ab8 ["self", "entry"] []:=T.aef.binds λ_ _ _ _ _ _=>ln2 λ_ _=>rfl
def tM(T:Txt K mg A D):Binds K D.ab9 ["self", "entry"] []:=T.aeg.binds λ_ _ _ _ _ _=>ln2 λ_ _=>rfl
def Bp(T:Txt K mg A D):Binds K D.aca ["held", "ware", "pieces"] []:=T.aeh.F.binds λ_ _ _ _ _ _=>ln3 λ_ _ _=>rfl
def pP(T:Txt K mg A D):Binds K D.acb ["held", "ware", "pieces"] []:=T.aei.F.binds λ_ _ _ _ _ _=>ln3 λ_ _ _=>rfl
def Eu(T:Txt K mg A D):Binds K D.acd ["self", "held"] []:=T.aej.binds λ_ _ _ _ _ _=>ln2 λ_ _=>rfl
def tZ(T:Txt K mg A D):Binds K D.ace ["held", "ware", "pieces"] []:=T.aek.F.binds λ_ _ _ _ _ _=>ln3 λ_ _ _=>rfl
def Dr(T:Txt K mg A D):Binds K D.acf ["self", "held"] []:=T.ael.binds λ_ _ _ _ _ _=>ln2 λ_ _=>rfl
def Dq(T:Txt K mg A D):Binds K D.acg ["self", "held"] []:=T.aem.binds λ_ _ _ _ _ _=>ln2 λ_ _=>rfl
def Cj(T:Txt K mg A D):Binds K D.ach ["self", "held"] []:=T.aen.binds λ_ _ _ _ _ _=>ln2 λ_ _=>rfl
def Ca(T:Txt K mg A D):Binds K D.aci ["self", "held"] []:=T.aeo.binds λ_ _ _ _ _ _=>ln2 λ_ _=>rfl
def wC(T:Txt K mg A D):Binds K D.acj ["self", "held"] []:=T.aep.binds λ_ _ _ _ _ _=>ln2 λ_ _=>rfl
def Sd(T:Txt K mg A D):Binds K D.ack ["lots"] []:=T.aeq.F.binds λ_ _ _ _ _ _=>ln1 λ_=>rfl
def Js(T:Txt K mg A D):Binds K D.acl ["self"] []:=T.aer.binds λ_ _ _ _ _ _=>ln1 λ_=>rfl
def Qx(T:Txt K mg A D):Binds K D.acm ["self", "entry"] []:=T.aes.binds λ_ _ _ _ _ _=>ln2 λ_ _=>rfl
def wN(T:Txt K mg A D):Binds K D.acn ["book", "entries"] []:=T.aet.F.binds λ_ _ _ _ _ _=>ln2 λ_ _=>rfl
def wL(T:Txt K mg A D):Binds K D.aco ["self", "way"] []:=T.aeu.binds λ_ _ _ _ _ _=>ln2 λ_ _=>rfl
def Xx(T:Txt K mg A D):Binds K D.acp ["way", "entries"] []:=T.aev.F.binds λ_ _ _ _ _ _=>ln2 λ_ _=>rfl
def xu(T:Txt K mg A D):Binds K D.acq ["self", "way", "days"] []:=T.aew.binds λ_ _ _ _ _ _=>ln3 λ_ _ _=>rfl
def Gu(T:Txt K mg A D):Binds K D.acr ["way", "days", "entries"] []:=T.aex.F.binds λ_ _ _ _ _ _=>ln3 λ_ _ _=>rfl
def uD(T:Txt K mg A D):Binds K D.acs ["self"] []:=T.aey.binds λ_ _ _ _ _ _=>ln1 λ_=>rfl
def La(T:Txt K mg A D):Binds K D.act ["sale"] []:=T.aez.F.binds λ_ _ _ _ _ _=>ln1 λ_=>rfl
def lW(T:Txt K mg A D):Binds K D.acu ["self"] []:=T.aeA.binds λ_ _ _ _ _ _=>ln1 λ_=>rfl
def QS(T:Txt K mg A D):Binds K D.acv ["_law_book", "_law_script"] []:=T.aeB.F.binds λ_ _ _ _ _ _=>ln2 λ_ _=>rfl
def Qj(T:Txt K mg A D):Binds K D.acw ["_law_cell", "_law_k"] []:=T.aeC.F.binds λ_ _ _ _ _ _=>ln2 λ_ _=>rfl
def Kq(T:Txt K mg A D):Binds K D.acx ["_law_script"] []:=T.aeD.F.binds λ_ _ _ _ _ _=>ln1 λ_=>rfl
def jw(T:Txt K mg A D):Binds K D.acy ["_law_digits", "_law_many"] []:=T.aeE.F.binds λ_ _ _ _ _ _=>ln2 λ_ _=>rfl
def FT(T:Txt K mg A D):Binds K D.acz ["_law_day", "_law_number", "_law_ware", "_law_digits", "_law_here"] []:=T.aeF.F.binds λ_ _ _ _ _ _=>ln5 λ_ _ _ _ _=>rfl
def Jk(T:Txt K mg A D):Binds K D.acA ["_law_day", "_law_number", "_law_wares", "_law_digits", "_law_counts"] []:=T.aeG.F.binds λ_ _ _ _ _ _=>ln5 λ_ _ _ _ _=>rfl
def HD(T:Txt K mg A D):Binds K D.acB ["_law_digits", "_law_here"] []:=T.aeH.F.binds λ_ _ _ _ _ _=>ln2 λ_ _=>rfl
def Fw(T:Txt K mg A D):Binds K D.acC ["_law_digits"] []:=T.aeI.F.binds λ_ _ _ _ _ _=>ln1 λ_=>rfl
def Dl(T:Txt K mg A D):Binds K D.acD ["_law_digits"] []:=T.aeJ.F.binds λ_ _ _ _ _ _=>ln1 λ_=>rfl
def UT(T:Txt K mg A D):Binds K D.acE ["_law_raw_here", "_law_counts", "_law_giving"] []:=T.aeK.F.binds λ_ _ _ _ _ _=>ln3 λ_ _ _=>rfl
def Ku(T:Txt K mg A D):Binds K D.acF ["_law_counts", "_law_row_here"] []:=T.aeL.F.binds λ_ _ _ _ _ _=>ln2 λ_ _=>rfl
def VN(T:Txt K mg A D):Binds K D.acG ["_law_source", "_law_k"] []:=T.aeM.F.binds λ_ _ _ _ _ _=>ln2 λ_ _=>rfl
def Kv(T:Txt K mg A D):Binds K D.acH ["_law_script", "_law_giving"] []:=T.aeN.F.binds λ_ _ _ _ _ _=>ln2 λ_ _=>rfl
def Vd(T:Txt K mg A D):Binds K D.acI ["_law_book", "_law_long"] []:=T.aeO.F.binds λ_ _ _ _ _ _=>ln2 λ_ _=>rfl
def Ks(T:Txt K mg A D):Binds K D.acJ ["sale", "part"] []:=T.aeP.F.binds λ_ _ _ _ _ _=>ln2 λ_ _=>rfl
def Mz(T:Txt K mg A D):Binds K D.acK ["sale", "part", "long"] []:=T.aeQ.F.binds λ_ _ _ _ _ _=>ln3 λ_ _ _=>rfl
def Ld(T:Txt K mg A D):Binds K D.acL ["sale", "long"] []:=T.aeR.F.binds λ_ _ _ _ _ _=>ln2 λ_ _=>rfl
def Ij(T:Txt K mg A D):Binds K D.acM ["book", "long"] []:=T.aeS.F.binds λ_ _ _ _ _ _=>ln2 λ_ _=>rfl
def Qy(T:Txt K mg A D):Binds K D.acN ["_law_found"] []:=T.aeT.F.binds λ_ _ _ _ _ _=>ln1 λ_=>rfl
def PQ(T:Txt K mg A D):Binds K D.acO ["_law_found", "_law_due_here"] []:=T.aeU.F.binds λ_ _ _ _ _ _=>ln2 λ_ _=>rfl
def KZ(T:Txt K mg A D):Binds K D.acP ["self"] []:=T.aeV.binds λ_ _ _ _ _ _=>ln1 λ_=>rfl
def Rp(T:Txt K mg A D):Binds K D.acQ ["_law_book", "_law_long"] []:=T.aeW.F.binds λ_ _ _ _ _ _=>ln2 λ_ _=>rfl
def vz(T:Txt K mg A D):∃ds,Binds K D.abh ["self", "day", "number", "ware", "pieces", "price", "fee"] ds/\Vals (([V.int 0]:List V).drop 1) ds:=T.adp.binds (ps:=["self", "day", "number", "ware", "pieces", "price", "fee"]) 1 λTd kV q pm an aa ct its us h1 h2=>by
  revert us;revert h1;revert its;refine ln1 λi0 us h2=>?_;have z:us.length=7:=by simpa using h2
  clear h2;revert z;revert us;exact ln7 λ_ _ _ _ _ _ _=>⟨_,rfl,rfl⟩
def tW(T:Txt K mg A D):∃ds,Binds K D.abm ["self", "day", "number", "ware", "pieces", "named"] ds/\Vals (([V.non]:List V).drop 1) ds:=T.adu.binds (ps:=["self", "day", "number", "ware", "pieces", "named"]) 1 λTd kV q pm an aa ct its us h1 h2=>by
  revert us;revert h1;revert its;refine ln1 λi0 us h2=>?_;have z:us.length=6:=by simpa using h2
  clear h2;revert z;revert us;exact ln6 λ_ _ _ _ _ _=>⟨_,rfl,rfl⟩
def uf(T:Txt K mg A D):∃ds,Binds K D.abk ["self", "day", "number", "ware", "pieces", "price", "fee", "named"] ds/\Vals (([V.int 0,V.non]:List V).drop 2) ds:=T.ads.binds (ps:=["self", "day", "number", "ware", "pieces", "price", "fee", "named"]) 2 λTd kV q pm an aa ct its us h1 h2=>by
  revert us;revert h1;revert its;refine ln2 λi0 i1 us h2=>?_;have z:us.length=8:=by simpa using h2
  clear h2;revert z;revert us;exact ln8 λ_ _ _ _ _ _ _ _=>⟨_,rfl,rfl⟩
end
end My
namespace My
open PySem L2 PyProof.Rows
open PySem.W (codeIn findCls findIn fnOf hasDictIn isFn keepIn kitOne makesIn mg_none_of mg_of mroIn nsIn plainGet plainOver readsIn specialIn takesIn)
end My
namespace My
open PySem L2 PyProof.Rows
open PySem.W (codeIn findCls findIn fnOf hasDictIn isFn keepIn kitOne makesIn mg_none_of mg_of mroIn nsIn plainGet plainOver readsIn specialIn takesIn)
section
variable{P:Program}{w:World}{K:Fg_}{mg:Str->Option Value}{base:Heap}{A:Adr}{D:Fds}
def jK{t u:TS}{D:_}{σ:L2.St}{H:Hp}(h:∀v,v=u->Yt t v D σ H):Yt t u D σ H:=h u rfl
def rm{wi:TI}{g:TG}{tb:TS}{D:_}{σ:L2.St}{H:Hp}(h:∀v,v=tb->alp wi g v D σ H):alp wi g tb D σ H:=h tb rfl
def Gg.listN{K:Fg_}{a:Addr}{xs:List V}{g:TG}{tb:TS}{D:_}{σ:L2.St}{H:Hp}(z:Nat->L2.St->Hp->Prop)(h0:z 0 σ H)(hl:∀i σ H,i<=xs.length->z i σ H->SqL K H a xs)(hs:∀i x σ H,xs[i]? =some x->z i σ H->∀N:L2.St->Hp->Prop,(∀σ H,z (i+1) σ H->N σ H)->g x σ H λσ2 H2=>tb {D with nx:=N,ct:=N,bk:=D.nx} σ2 H2)(hd:∀σ H,z xs.length σ H->D.nx σ H):Gg (Itl K a) g tb D σ H:=
 tY z h0 hl (λi x σ H h p=>hs i x σ H h p _ λ_ _ q=>q) hd
def Gg.zipN{K:Fg_}{a b:Addr}{xs ys:List V}{g:TG}{tb:TS}{D:_}{σ:L2.St}{H:Hp}(Pv:Nat->L2.St->Hp->Prop)(aa:xs.length=ys.length)(h0:Pv 0 σ H)(hl:∀i σ H,i<=xs.length->Pv i σ H->SqL K H a xs/\SqL K H b ys)(hs:∀i x y σ H p,xs[i]? =some x->ys[i]? =some y->Pv i σ H->H p=none->∀N:L2.St->Hp->Prop,(∀σ H,Pv (i+1) σ H->N σ H)->g (.ref p) σ (upd H p (.tup [x,y])) λσ2 H2=>tb {D with nx:=N,ct:=N,bk:=D.nx} σ2 H2)(hd:∀σ H,Pv xs.length σ H->D.nx σ H):Gg (Itz K a b) g tb D σ H:=
 Gg.zip Pv aa h0 hl (λi x y σ H p h1 h2 q h3=>hs i x y σ H p h1 h2 q h3 _ λ_ _ z=>z) hd
def ZF{x:Int}{m k:Nat}(q:x.natAbs<2^m)(h:m<=k):x.natAbs<2^k:=zG q (yI (by decide) h)
def Bf{ns:List Int}{i:Nat}{y:V}(h:(ns.map V.int)[i]? =some y):∃z,y=V.int z/\ns[i]? =some z:=by
 rw[zd]at h
 cases e:ns[i]? with
 |none=>rw[e]at h;cases h
 |some z=>rw[e]at h;exact⟨z,(zw h).symm,rfl⟩
def tyL{K:Fg_}{H:Hp}{p:Addr}{xs:List V}(h:SqL K H p xs):tyV K "list" (.ref p) H:=.inl ⟨rfl,_,h⟩
inductive CV(vs:List V)(H:Hp)(Q:VK)(E:XK):Prop
 |mk (i) (_:vs=[.int i]) (_:Q (.bl true) H):CV vs H Q E
def NK(T:Txt K mg A D):jQ P w K mg base CX0 1 A.acN D.acN ["_law_found"] CV:=by
 refine T.aeT.F.okv Nt λ_ _ _ _ H vs Q E q h=>?_
 ·obtain⟨i,rfl,k⟩:=h
  refine⟨_,(iG (iY (Qv (jt (pC (K:=K)) (by rfl) T.aeY (by decide+kernel) (pav 0 (iz (Pa "int" (by rfl) T.aeZ (by decide+kernel)) iD))) (Tw (aim (jt (pC (K:=K)) (by rfl) T.aeY (by decide+kernel) (pav 0 (iz (Pa "bool" (by rfl) T.ae0 (by decide+kernel)) iD)))))))),?_⟩;walk_at "a";refine⟨_,.int i,true,by with_unfolding_all rfl,?_⟩;walk_at "a";refine⟨_,.int i,false,by with_unfolding_all rfl,?_⟩;walk_at "a";exact k
inductive xr(K:Fg_)(vs:List V)(H:Hp)(Q:VK)(E:XK):Prop
 |mk (a:Addr) (ns:List Int) (k:Nat) (_:vs=[.ref a,.int k]) (_:SqL K H a (ns.map V.int)) (_:Q (.int (ns.getD k 0)) H):xr K vs H Q E
def lw(T:Txt K mg A D):jQ P w K mg base CX0 1 A.abp D.abp ["_law_script", "_law_k"] (xr K):=by
 refine T.adx.F.okv Jo λ_ _ _ _ H vs Q E hr h=>?_
 ·obtain⟨a,ns,q,rfl,z,k⟩:=h
  refine ⟨_,(iB (jX (jl (Qz) (pvD 1) (jt (nA (K:=K)) (by rfl) T.ae3 (by decide+kernel) (pav 0 iD)) (jr _)) (iG (iY (jF (mC (K:=K)) (pvD 0) (pvD 1) (λ_ _=>rfl)))) jx)
   (iG (iY iJ))),?_⟩
  walk_at "a";refine⟨_,.inl z,?_⟩;rw[za];by_cases h:q<ns.length
  ·rw[zo (by omega)]
   refine⟨_,z,_,Jb (j:=q) (v:=.int (ns.getD q 0)) ?_,k⟩;rw[zd,zh h,zzN,zh h];rfl
  ·rw[ze (by omega)]
   rw[zzN,zX (by omega)]at k;exact k
def Ua(xs:List V)(n:Nat):Ox xs (some (n:Int)) none=xs.drop n:=by
 unfold Ox;rw[HT.sIx_none,HT.sIx_nat];rcases Nat.le_total n xs.length with h|h
 ·rw[Nat.min_eq_left h,zT (by rw[yw];exact zg _)]
 ·rw[Nat.min_eq_right h,zzt (zg _),zzt h,List.take_nil]
noncomputable def Nm(z:Str):Prop:=1<=z.length/\z.length<=8/\∀c∈z.cps.toList,97<=c/\c<=122
inductive rF(vs:List V)(H:Hp)(Q:VK)(E:XK):Prop
 |mk (i:Int) (_:vs=[.int i]) (_:Q (.bl true) H):rF vs H Q E
def Dd(T:Txt K mg A D):jQ P w K mg base CX0 1 A.aba D.aba ["value"] rF:=by
 refine T.adi.F.okv Dt λ_ _ _ _ H vs Q E q h=>?_
 ·obtain⟨i,rfl,k⟩:=h
  refine⟨_,(iG (iY (Qv (jt (pC (K:=K)) (by rfl) T.aeY (by decide+kernel) (pav 0 (iz (Pa "int" (by rfl) T.aeZ (by decide+kernel)) iD))) (Tw (aim (jt (pC (K:=K)) (by rfl) T.aeY (by decide+kernel) (pav 0 (iz (Pa "bool" (by rfl) T.ae0 (by decide+kernel)) iD)))))))),?_⟩;walk_at "a";refine⟨_,.int i,true,by with_unfolding_all rfl,?_⟩;walk_at "a";refine⟨_,.int i,false,by with_unfolding_all rfl,?_⟩;walk_at "a";exact k
inductive xj(vs:List V)(H:Hp)(Q:VK)(E:XK):Prop
 |mk (z:Str) (i lo hi:Int) (_:vs=[.str z,.int i,.int lo,.int hi]) (_:lo<=i) (_:i<=hi) (_:Q .non H):xj vs H Q E
def jC(T:Txt K mg A D):jQ P w K mg base CX0 2 A.abb D.abb ["what", "value", "least", "most"] xj:=by
 refine T.adj.F.okv JW λ_ _ _ _ H vs Q E q h=>?_
 ·obtain⟨z,i,lo,hi,rfl,h1,h2,k⟩:=h
  refine⟨_,(iG (jX (PW.pt (Ey (Ae (nD (pcg (Dd T) q T.adi (DX T) (pav 1 iD)))) (Ey (jl (Qz) (pvD 1) (pvD 2) (jr _)) (Ag (jl (Ke) (pvD 1) (pvD 3) (jr _)))))) (iG (mJ)) jx)),?_⟩;walk_at "a";refine⟨i,rfl,?_⟩;walk_at "a";rw[ze (by omega),ze (by omega)];exact k
inductive Ly(vs:List V)(H:Hp)(Q:VK)(E:XK):Prop
 |mk (z:Str) (_:vs=[.str z]) (_:Nm z) (_:∀H',Same H H'->Q (.bl true) H'):Ly vs H Q E
def VL(T:Txt K mg A D):jQ P w K mg base CX0 1 A.abc D.abc ["value"] Ly:=by
 refine T.adk.F.okv Wd λ_ _ _ _ H vs Q E hr h=>?_
 ·obtain⟨z,rfl,⟨n1,n2,n3⟩,k⟩:=h
  refine ⟨_,(iB (jX (PW.pt (Ey (Ae (nD (jt (pC (K:=K)) (by rfl) T.aeY (by decide+kernel) (pav 0 (iz (Pa "str" (by rfl) T.ae2 (by decide+kernel)) iD))))) (Ey (jl (Qz) (jt Fi (by rfl) T.ae3 (by decide+kernel) (pav 0 iD)) iJ (jr _)) (Ag (jl (Ke) (jt Fi (by rfl) T.ae3 (by decide+kernel) (pav 0 iD)) (lZ (v:=V.int 8) (by rfl) T.afv ⟨_,rfl⟩) (jr _)))))) (iG (iY Jz)) jx)
   (iG (iY (jt (Ze (K:=K) rfl) (by rfl) T.ae1 (by decide+kernel) (iz (jO (cap:=[none]) (N':=["sign"]) rfl (by walk_at "c") (ajX (pvD 0)) (λ_ _ _ _=>(iW (i:=0) nd1 rfl orl orr)) (λ_ _ _ _=>jP) (λ_ _ _ _=>(aaz (Od) (Od) jG (pvD 0) jG))) iD))))),?_⟩
  walk_at "a";refine⟨_,.str z,true,by with_unfolding_all rfl,?_⟩;walk_at "a";have hz:z.length<=sizeLine:=by rw[zq];omega
  iterate 2 (refine⟨hz,?_⟩;rw[ze (by omega)])
  refine lu.str (λσ=>∃v,σ=[v]) (λ_=>true) (λ_=> .bl true) ⟨none,rfl⟩ hz ?_ ?_
  ·rintro x hx σ H5 R1 R2 ⟨v,rfl⟩ q k1 k2
   obtain⟨c,hc,rfl⟩:=zi.mp hx;obtain⟨c1,c2⟩:=n3 c hc;walk_at "a";have ea:(Str.ofString "a").cps.toList=[97]:=by decide+kernel
   have ez:(Str.ofString "z").cps.toList=[122]:=by decide+kernel
   rw[ea,ez]
   have h1:¬[c]<[97]:=λh=>by
    rcases List.cons_lt_cons_iff.mp h with h|h
    ·omega
    ·exact absurd h.2 (List.not_lt_nil _)
   have h2:¬[122]<[c]:=λh=>by
    rcases List.cons_lt_cons_iff.mp h with h|h
    ·omega
    ·exact absurd h.2 (List.not_lt_nil _)
   rw[zo h1,zI h2];exact k1 rfl _ _ ⟨_,rfl⟩ (same_refl _)
  ·intro Da H' hD q e
   rw[Ir]at e;walk_at "a";refine⟨(L2.signs z).map λ_=>true,iQ (by rw[e,zx];rfl),?_⟩;have:((L2.signs z).map λ_=>true).all id=true:=by simp
   rw[this];exact k H' q
inductive CJ(vs:List V)(H:Hp)(Q:VK)(E:XK):Prop
 |mk (t z:Str) (_:vs=[.str t,.str z]) (_:Nm z) (_:∀H',Same H H'->Q .non H'):CJ vs H Q E
def Ck(T:Txt K mg A D):jQ P w K mg base CX0 2 A.abd D.abd ["what", "value"] CJ:=by
 refine T.adl.F.okv Mu λ_ _ _ _ H vs Q E q h=>?_
 ·obtain⟨t,z,rfl,hn,k⟩:=h
  refine⟨_,(iG (jX (Ae (nD (pcg (VL T) q T.adk (WQ T) (pav 1 iD)))) (iG (mJ)) jx)),?_⟩;walk_at "a";refine⟨z,rfl,hn,λH' sm=>?_⟩;walk_at "a";exact k H' sm
inductive Ax(vs:List V)(H:Hp)(Q:VK)(E:XK):Prop
 |mk (p r f:Int) (_:vs=[.int p,.int r,.int f]) (_:(1<=p/\p<=1000000000)) (_:(0<=r/\r<=1000000000)) (_:(0<=f/\f<=1000000000)) (_:Q .non H):Ax vs H Q E
def Ba(T:Txt K mg A D):jQ P w K mg base CX0 3 A.abg D.abg ["pieces", "price", "fee"] Ax:=by
 refine T.ado.F.ok KY (by walk_at "v") (λ_ _ _ s H vs Q E q h=>?_)
 ·obtain⟨p,r,f,rfl,h1,h2,z,k⟩:=h
  refine ⟨_,(iB (jo (pcg (jC T) q T.adj (jH T) (iz jG (pav 0 (iz iJ (iz (lZ (v:=V.int 1000000000) (by rfl) T.afz ⟨_,rfl⟩) iD))))))
   (iB (jo (pcg (jC T) q T.adj (jH T) (iz jG (pav 1 (iz iJ (iz (lZ (v:=V.int 1000000000) (by rfl) T.afA ⟨_,rfl⟩) iD))))))
   (iG (jo (pcg (jC T) q T.adj (jH T) (iz jG (pav 2 (iz iJ (iz (lZ (v:=V.int 1000000000) (by rfl) T.afB ⟨_,rfl⟩) iD))))))))),?_⟩
  walk_at "a";refine⟨_,_,_,_,rfl,h1.1,h1.2,?_⟩;walk_at "a";refine⟨_,_,_,_,rfl,h2.1,h2.2,?_⟩;walk_at "a";refine⟨_,_,_,_,rfl,z.1,z.2,?_⟩;exact k
def mj{f:Str}{v:V}{fs:List (Str×V)}(ns:List Str)(e:fs.map (·.1)=ns:=by rfl)(h:ns.contains f=false:=by decide+kernel):DP f v fs=fs++[(f,v)]:=xR f v (e▸h)
noncomputable def fsE(d n:Int)(w:Str):List (Str×V):=[("day",.int d),("number",.int n),("ware",.str w)]
structure Base(d n:Int)(w:Str):Prop where
 d0:0<=d
 d1:d<=1000000
 n0:0<=n
 n1:n<=1000000
 w:Nm w
structure CE(K:Fg_)(C:Addr):Prop where
 c:Cls K C
 d:jg K C "day"
 n:jg K C "number"
 w:jg K C "ware"
structure New(B H:Hp)(x:Addr)(C dx:Addr)(fs:List (Str×V)):Prop where
 s:Same B H
 n:B x=none
 h:H x=some (.ins C dx fs)
def New.put{B H:Hp}{x C dx:Addr}{fs gs:List (Str×V)}(h:New B H x C dx fs)(e:gs=gs):New B (upd H x (.ins C dx gs)) x C dx gs:=⟨h.s.upd h.n,h.n,iH⟩
def New.same{B H H':Hp}{x C dx:Addr}{fs:List (Str×V)}(h:New B H x C dx fs)(e:Same H H'):New B H' x C dx fs:=⟨h.s.trans e,h.n,e _ _ h.h⟩
inductive ug(K:Fg_)(vs:List V)(H:Hp)(Q:VK)(E:XK):Prop
 |mk (x:Addr) (d n:Int) (w:Str) (B:Hp) (C dx:Addr) (_:vs=[.ref x,.int d,.int n,.str w]) (_:New B H x C dx []) (_:CE K C) (_:Base d n w) (_:∀H',New B H' x C dx (fsE d n w)->Q .non H'):ug K vs H Q E
def lq(T:Txt K mg A D):jQ P w K mg base CX0 3 A.abe D.abe ["self", "day", "number", "ware"] (ug K):=by
 refine T.adm.okv DQ λ_ _ _ _ H vs Q E hr h=>?_
 ·obtain⟨x,d,n,w,B,C,dx,rfl,q,z,hB,k⟩:=h
  refine ⟨_,(iB (jo (pcg (jC T) hr T.adj (jH T) (iz jG (pav 1 (iz iJ (iz (lZ (v:=V.int 1000000) (by rfl) T.afw ⟨_,rfl⟩) iD))))))
   (iB (jo (pcg (jC T) hr T.adj (jH T) (iz jG (pav 2 (iz iJ (iz (lZ (v:=V.int 1000000) (by rfl) T.afx ⟨_,rfl⟩) iD))))))
   (iB (jo (pcg (Ck T) hr T.adl (Fv T) (iz jG (pav 3 iD))))
   (iB (jA (K:=K) (pv 0) (pvD 1) rfl)
   (iB (jA (K:=K) (pv 0) (pvD 2) rfl)
   (iG (jA (K:=K) (pv 0) (pvD 3) rfl))))))),?_⟩
  walk_at "a";refine⟨_,_,_,_,rfl,hB.d0,hB.d1,?_⟩;walk_at "a";refine⟨_,_,_,_,rfl,hB.n0,hB.n1,?_⟩;walk_at "a";refine⟨_,_,rfl,hB.w,λH' sm=>?_⟩;walk_at "a";have q:=q.same sm;refine sw q.h z.c z.d (by decide) (?_);rw[xR _ _ (by decide+kernel)];have q:=q.put (gs:=[]++[(Str.ofString "day",V.int d)]) rfl;refine sw q.h z.c z.n (by simp) (?_);rw[mj (f:=Str.ofString "number") ["day"]];have q:=q.put (gs:=([]++[(Str.ofString "day",V.int d)])++[(Str.ofString "number",V.int n)]) rfl;refine sw q.h z.c z.w (by simp) (?_);rw[mj (f:=Str.ofString "ware") ["day", "number"]];exact k _ (q.put rfl)
abbrev Rs:=List (Addr×Int×Int)
noncomputable def refs(rs:Rs):List V:=rs.map λr=>V.ref r.1
noncomputable def aaS(H:Hp)(rs:Rs):Prop:=∀r∈rs,H r.1=some (.tup [.int r.2.1,.int r.2.2])
def aaS.same{H H':Hp}{rs:Rs}(h:aaS H rs)(s:Same H H'):aaS H' rs:=λr q=>s _ _ (h r q)
structure als(rs:Rs)(p:Int):Prop where
 l:rs.length<=5
 b:∀r∈rs,0<=r.2.1/\r.2.1<=1000000/\1<=r.2.2/\r.2.2<=p
 u:(rs.map (·.2.1)).Nodup
 s:(rs.map (·.2.2)).sum=p
noncomputable def NL(H:Hp)(v:V):Option Rs->Prop
 |none=>v=.non
 |some rs=>∃l,v=.ref l/\H l=some (.lst (refs rs))/\aaS H rs
noncomputable def akI(p:Int):Option Rs->Prop
 |none=>True
 |some rs=>als rs p
theorem NL.same{H H':Hp}{v:V}{o:Option Rs}(h:NL H v o)(s:Same H H'):NL H' v o:=by
 cases o with
 |none=>exact h
 |some rs=>obtain⟨l,e,h1,h2⟩:=h;exact⟨l,e,s _ _ h1,h2.same s⟩
inductive Bb(vs:List V)(H:Hp)(Q:VK)(E:XK):Prop
 |mk (p:Int) (_:vs=[.non,.int p]) (_:Q .non H):Bb vs H Q E
def Az(T:Txt K mg A D):jQ P w K mg base CX0 1 A.abi D.abi ["named", "pieces"] Bb:=by
 refine T.adq.F.okv Kh λ_ _ _ _ H vs Q E q h=>?_
 ·obtain⟨p,rfl,k⟩:=h
  refine ⟨_,(iB (jX (jl (Fy) (pvD 0) nu (jr _)) (iG (ajE)) jx)
   (iB (mJ)
   (iB (mJ)
   (iB (mJ)
   (iG (mJ)))))),?_⟩
  simp only[start_eq];walk_at "a";exact k
inductive Cv(vs:List V)(H:Hp)(Q:VK)(E:XK):Prop
 |mk (_:vs=[.non]) (_:Q .non H):Cv vs H Q E
def Dv(T:Txt K mg A D):jQ P w K mg base CX0 1 A.abj D.abj ["named"] Cv:=by
 refine T.adr.F.okv Np λ_ _ _ _ H vs Q E q h=>?_
 ·obtain⟨rfl,k⟩:=h
  refine⟨_,(iG (iY (uR (jl (Fy) (pvD 0) nu (jr _)) nu (nq (xU (K:=K)) (by rfl) T.ae4 (by decide+kernel) (pav 0 iD))))),?_⟩;simp only[start_eq];walk_at "a";exact k
noncomputable def NT(H:Hp)(v:V):Option Rs->Prop
 |none=>v=.non
 |some rs=>∃l,v=.ref l/\H l=some (.tup (refs rs))/\aaS H rs
theorem NT.same{H H':Hp}{v:V}{o:Option Rs}(h:NT H v o)(s:Same H H'):NT H' v o:=by
 cases o with
 |none=>exact h
 |some rs=>obtain⟨l,e,h1,h2⟩:=h;exact⟨l,e,s _ _ h1,h2.same s⟩
local macro_rules | `(tactic| walk_at "n") => `(tactic| ((try dsimp only); refine jK fun u hu => ?_; rw [ap_seq]; walk_at "i"; subst hu))
inductive Ent where
 |buy (d n:Int) (w:Str) (p r f:Int)
 |sell (d n:Int) (w:Str) (p r f:Int) (o:Option Rs)
 |gift (d n:Int) (w:Str) (p c s:Int)
 |give (d n:Int) (w:Str) (p:Int) (o:Option Rs)
 |split (d n:Int) (w:Str) (m f:Int)
 |part (d n:Int) (w u:Str) (s t:Int)
noncomputable def Rg(lo hi x:Int):Prop:=lo<=x/\x<=hi
noncomputable def Ent.good:Ent->Prop
 |.buy d n w p r f=>Base d n w/\Rg 1 1000000000 p/\Rg 0 1000000000 r/\Rg 0 1000000000 f
 |.sell d n w p r f o=>Base d n w/\Rg 1 1000000000 p/\Rg 0 1000000000 r/\Rg 0 1000000000 f/\akI p o
 |.gift d n w p c s=>Base d n w/\Rg 1 1000000000 p/\Rg 0 1000000000000000000 c/\Rg 0 d s
 |.give d n w p o=>Base d n w/\Rg 1 1000000000 p/\akI p o
 |.split d n w m f=>Base d n w/\Rg 1 1000 m/\Rg 1 1000 f
 |.part d n w u s t=>Base d n w/\Nm u/\u≠w/\Rg 1 1000000 t/\Rg 0 t s
noncomputable def Ent.fs(nv:V):Ent->List (Str×V)
 |.buy d n w p r f=>[("day",.int d),("number",.int n),("ware",.str w),("pieces",.int p),("price",.int r),("fee",.int f),("cost",.int (p*r+f))]
 |.sell d n w p r f _=>[("day",.int d),("number",.int n),("ware",.str w),("pieces",.int p),("price",.int r),("fee",.int f),("named",nv),("proceeds",.int (p*r - f))]
 |.gift d n w p c s=>[("day",.int d),("number",.int n),("ware",.str w),("pieces",.int p),("cost",.int c),("since",.int s)]
 |.give d n w p _=>[("day",.int d),("number",.int n),("ware",.str w),("pieces",.int p),("named",nv)]
 |.split d n w m f=>[("day",.int d),("number",.int n),("ware",.str w),("many",.int m),("of",.int f)]
 |.part d n w u s t=>[("day",.int d),("number",.int n),("ware",.str w),("other",.str u),("share",.int s),("whole",.int t)]
noncomputable def Ent.word:Ent->Str
 |.buy ..=> "buy"
 |.sell ..=> "sell"
 |.gift ..=> "gift"
 |.give ..=> "give"
 |.split ..=> "split"
 |.part ..=> "part"
noncomputable def Ent.args(nv:V):Ent->List V
 |.buy d n w p r f=>[.int d,.int n,.str w,.int p,.int r,.int f]
 |.sell d n w p r f _=>[.int d,.int n,.str w,.int p,.int r,.int f,nv]
 |.gift d n w p c s=>[.int d,.int n,.str w,.int p,.int c,.int s]
 |.give d n w p _=>[.int d,.int n,.str w,.int p,nv]
 |.split d n w m f=>[.int d,.int n,.str w,.int m,.int f]
 |.part d n w u s t=>[.int d,.int n,.str w,.str u,.int s,.int t]
noncomputable def Ent.lots:Ent->Option Rs
 |.sell _ _ _ _ _ _ o=>o
 |.give _ _ _ _ o=>o
 |_=>none
noncomputable def Ent.cls(A:Adr):Ent->Addr
 |.buy ..=>A.acX
 |.sell ..=>A.acY
 |.gift ..=>A.acZ
 |.give ..=>A.ac0
 |.split ..=>A.ac1
 |.part ..=>A.acW
noncomputable def Made(A:Adr)(B H:Hp)(x:Addr)(e:Ent):Prop:=∃dx nv,New B H x (e.cls A) dx (e.fs nv)/\NL H nv e.lots/\∀q,nv=.ref q->B q=none
noncomputable def IsE(A:Adr)(H:Hp)(x:Addr)(e:Ent):Prop:=∃dx nv,H x=some (.ins (e.cls A) dx (e.fs nv))/\NL H nv e.lots
theorem IsE.same{A:Adr}{H H':Hp}{x:Addr}{e:Ent}(s:Same H H'):IsE A H x e->IsE A H' x e:=fun⟨dx,q,h,n⟩=>⟨dx,q,s _ _ h,n.same s⟩
def MN{B H:Hp}{x C dx:Addr}{gs:List (Str×V)}{f:Str}{v:V}{R:Hp->Prop}(ks:List Str)(z:New B H x C dx gs)(c:Cls K C)(n:jg K C f)(e:gs.map (·.1)=ks)(h:ks.contains f=false)(q:ks.length<1000)(k:∀H',New B H' x C dx (gs++[(f,v)])->R H'):∃C dx fs,H x=some (.ins C dx fs)/\Cls K C/\jg K C f/\fs.length<1000/\R (upd H x (.ins C dx (DP f v fs))):=by
 refine⟨C,dx,gs,z.h,c,n,by rw[<-e,za]at q;exact q,?_⟩;rw[mj ks e h];exact k _ (z.put rfl)
def aaG{p r:Int}(h1:Rg 1 1000000000 p)(h2:Rg 0 1000000000 r):Ab p r:=Ab.big (yx (show p.natAbs<=1000000000 from by unfold Rg at h1;omega) (by decide)) (yx (show r.natAbs<=1000000000 from by unfold Rg at h2;omega) (by decide))
noncomputable def Bc:Ent->Bool:=λe=>match e with|.buy ..=>true|_=>false
def aaO(T:Txt K mg A D):CE K A.acX:=⟨T.afQ,T.afS,T.afT,T.afU⟩
noncomputable def rP:Ent->Bool:=λe=>match e with|.sell ..=>true|_=>false
def Yv(T:Txt K mg A D):CE K A.acY:=⟨T.afZ,T.af1,T.af2,T.af3⟩
noncomputable def sJ:Ent->Bool:=λe=>match e with|.gift ..=>true|_=>false
def Wx(T:Txt K mg A D):CE K A.acZ:=⟨T.af9,T.agb,T.agc,T.agd⟩
noncomputable def sO:Ent->Bool:=λe=>match e with|.give ..=>true|_=>false
def Wn(T:Txt K mg A D):CE K A.ac0:=⟨T.agh,T.agj,T.agk,T.agl⟩
noncomputable def oZ:Ent->Bool:=λe=>match e with|.split ..=>true|_=>false
def Tv(T:Txt K mg A D):CE K A.ac1:=⟨T.ago,T.agq,T.agr,T.ags⟩
noncomputable def sZ:Ent->Bool:=λe=>match e with|.part ..=>true|_=>false
def Mf(T:Txt K mg A D):CE K A.acW:=⟨T.afI,T.afK,T.afL,T.afM⟩
inductive Yx(A:Adr)(vs:List V)(H:Hp)(Q:VK)(E:XK):Prop
 |mk (x:Addr) (d n p r f:Int) (w:Str) (B:Hp) (dx:Addr) (_:vs=[.ref x,.int d,.int n,.str w,.int p,.int r,.int f]) (_:New B H x A.acX dx []) (_:(Ent.good (.buy d n w p r f))) (_:∀H',Made A B H' x (.buy d n w p r f)->Q .non H'):Yx A vs H Q E
def HB(T:Txt K mg A D):jQ P w K mg base CX0 4 A.abh D.abh ["self", "day", "number", "ware", "pieces", "price", "fee"] (Yx A):=by
 refine T.adp.okv HF λ_ _ _ _ H vs Q E hr h=>?_
 ·obtain⟨x,d,n,p,r,f,w,B,dx,rfl,z,hg,k⟩:=h
  refine ⟨_,(iB (jo (oX T.ah3 (lq (K:=K) T) (hr.mono (by decide)) (by rfl) T.afk T.adm.kp (lC T) .nil jL (pav 0 (pav 1 (pav 2 (pav 3 iD))))))
   (iB (jo (pcg (Ba T) hr T.ado (Dp T) (pav 4 (pav 5 (pav 6 iD)))))
   (iB (jA (K:=K) (pv 0) (pvD 4) rfl)
   (iB (jA (K:=K) (pv 0) (pvD 5) rfl)
   (iB (jA (K:=K) (pv 0) (pvD 6) rfl)
   (iG (jA (K:=K) (pv 0) (ju kE (ju mH (pvD 4) (pvD 5)) (pvD 6)) rfl))))))),?_⟩
  simp only[start_eq];walk_at "n";refine⟨x,d,n,w,B,_,dx,rfl,z,aaO T,hg.1,λH1 z=>?_⟩;walk_at "n";refine⟨_,_,_,rfl,hg.2.1,hg.2.2.1,hg.2.2.2,?_⟩;walk_at "n";refine MN ["day", "number", "ware"] z T.afQ T.afV rfl (by decide+kernel) (by decide) λH2 z=>?_;walk_at "n";refine MN ["day", "number", "ware", "pieces"] z T.afQ T.afW rfl (by decide+kernel) (by decide) λH2 z=>?_;walk_at "n";refine MN ["day", "number", "ware", "pieces", "price"] z T.afQ T.afX rfl (by decide+kernel) (by decide) λH2 z=>?_;walk_at "a";exact⟨aaG hg.2.1 hg.2.2.1,MN ["day", "number", "ware", "pieces", "price", "fee"] z T.afQ T.afY rfl (by decide+kernel) (by decide) λH2 z=>k H2 ⟨dx,.non,z,rfl,λq e=>by cases e⟩⟩
inductive SX(A:Adr)(vs:List V)(H:Hp)(Q:VK)(E:XK):Prop
 |mk (x:Addr) (d n p r f:Int) (w:Str) (B:Hp) (dx:Addr) (_:vs=[.ref x,.int d,.int n,.str w,.int p,.int r,.int f,.non]) (_:New B H x A.acY dx []) (_:(Ent.good (.sell d n w p r f none))) (_:∀H',Made A B H' x (.sell d n w p r f none)->Q .non H'):SX A vs H Q E
def Gi(T:Txt K mg A D):jQ P w K mg base CX0 4 A.abk D.abk ["self", "day", "number", "ware", "pieces", "price", "fee", "named"] (SX A):=by
 refine T.ads.okv FP λ_ _ _ _ H vs Q E hr h=>?_
 ·obtain⟨x,d,n,p,r,f,w,B,dx,rfl,z,hg,k⟩:=h
  refine ⟨_,(iB (jo (oX T.ah3 (lq (K:=K) T) (hr.mono (by decide)) (by rfl) T.afk T.adm.kp (lC T) .nil jL (pav 0 (pav 1 (pav 2 (pav 3 iD))))))
   (iB (jo (pcg (Ba T) hr T.ado (Dp T) (pav 4 (pav 5 (pav 6 iD)))))
   (iB (jo (pcg (Az T) hr T.adq (Ds T) (pav 7 (pav 4 iD))))
   (iB (jA (K:=K) (pv 0) (pvD 4) rfl)
   (iB (jA (K:=K) (pv 0) (pvD 5) rfl)
   (iB (jA (K:=K) (pv 0) (pvD 6) rfl)
   (iB (jA (K:=K) (pv 0) (pcg (Dv T) hr T.adr (Fd T) (pav 7 iD)) rfl)
   (iG (jA (K:=K) (pv 0) (ju pY (ju mH (pvD 4) (pvD 5)) (pvD 6)) rfl))))))))),?_⟩
  simp only[start_eq];walk_at "n";refine⟨x,d,n,w,B,_,dx,rfl,z,Yv T,hg.1,λH1 z=>?_⟩;walk_at "n";refine⟨_,_,_,rfl,hg.2.1,hg.2.2.1,hg.2.2.2.1,?_⟩;walk_at "n";refine⟨_,rfl,?_⟩;walk_at "n";refine MN ["day", "number", "ware"] z T.afZ T.af4 rfl (by decide+kernel) (by decide) λH2 z=>?_;walk_at "n";refine MN ["day", "number", "ware", "pieces"] z T.afZ T.af5 rfl (by decide+kernel) (by decide) λH2 z=>?_;walk_at "n";refine MN ["day", "number", "ware", "pieces", "price"] z T.afZ T.af6 rfl (by decide+kernel) (by decide) λH2 z=>?_;walk_at "n";refine⟨rfl,MN ["day", "number", "ware", "pieces", "price", "fee"] z T.afZ T.af7 rfl (by decide+kernel) (by decide) λH2 z=>?_⟩;walk_at "a";exact⟨aaG hg.2.1 hg.2.2.1,MN ["day", "number", "ware", "pieces", "price", "fee", "named"] z T.afZ T.af8 rfl (by decide+kernel) (by decide) λH2 z=>k H2 ⟨dx,.non,z,rfl,λq e=>by cases e⟩⟩
inductive Ut(A:Adr)(vs:List V)(H:Hp)(Q:VK)(E:XK):Prop
 |mk (x:Addr) (d n p c s:Int) (w:Str) (B:Hp) (dx:Addr) (_:vs=[.ref x,.int d,.int n,.str w,.int p,.int c,.int s]) (_:New B H x A.acZ dx []) (_:(Ent.good (.gift d n w p c s))) (_:∀H',Made A B H' x (.gift d n w p c s)->Q .non H'):Ut A vs H Q E
def Gx(T:Txt K mg A D):jQ P w K mg base CX0 4 A.abl D.abl ["self", "day", "number", "ware", "pieces", "cost", "since"] (Ut A):=by
 refine T.adt.okv FW λ_ _ _ _ H vs Q E hr h=>?_
 ·obtain⟨x,d,n,p,c,s,w,B,dx,rfl,z,hg,k⟩:=h
  refine ⟨_,(iB (jo (oX T.ah3 (lq (K:=K) T) (hr.mono (by decide)) (by rfl) T.afk T.adm.kp (lC T) .nil jL (pav 0 (pav 1 (pav 2 (pav 3 iD))))))
   (iB (jo (pcg (jC T) hr T.adj (jH T) (iz jG (pav 4 (iz iJ (iz (lZ (v:=V.int 1000000000) (by rfl) T.afz ⟨_,rfl⟩) iD))))))
   (iB (jo (pcg (jC T) hr T.adj (jH T) (iz jG (pav 5 (iz iJ (iz (lZ (v:=V.int 1000000000000000000) (by rfl) T.afC ⟨_,rfl⟩) iD))))))
   (iB (jo (pcg (jC T) hr T.adj (jH T) (iz jG (pav 6 (iz iJ (pav 1 iD))))))
   (iB (jA (K:=K) (pv 0) (pvD 4) rfl)
   (iB (jA (K:=K) (pv 0) (pvD 5) rfl)
   (iG (jA (K:=K) (pv 0) (pvD 6) rfl)))))))),?_⟩
  simp only[start_eq];walk_at "n";refine⟨x,d,n,w,B,_,dx,rfl,z,Wx T,hg.1,λH1 z=>?_⟩;walk_at "n";refine⟨_,_,_,_,rfl,hg.2.1.1,hg.2.1.2,?_⟩;walk_at "n";refine⟨_,_,_,_,rfl,hg.2.2.1.1,hg.2.2.1.2,?_⟩;walk_at "n";refine⟨_,_,_,_,rfl,hg.2.2.2.1,hg.2.2.2.2,?_⟩;walk_at "n";refine MN ["day", "number", "ware"] z T.af9 T.age rfl (by decide+kernel) (by decide) λH2 z=>?_;walk_at "n";refine MN ["day", "number", "ware", "pieces"] z T.af9 T.agf rfl (by decide+kernel) (by decide) λH2 z=>?_;walk_at "a";exact MN ["day", "number", "ware", "pieces", "cost"] z T.af9 T.agg rfl (by decide+kernel) (by decide) λH2 z=>k H2 ⟨dx,.non,z,rfl,λq e=>by cases e⟩
inductive SJ(A:Adr)(vs:List V)(H:Hp)(Q:VK)(E:XK):Prop
 |mk (x:Addr) (d n p:Int) (w:Str) (B:Hp) (dx:Addr) (_:vs=[.ref x,.int d,.int n,.str w,.int p,.non]) (_:New B H x A.ac0 dx []) (_:(Ent.good (.give d n w p none))) (_:∀H',Made A B H' x (.give d n w p none)->Q .non H'):SJ A vs H Q E
def Gq(T:Txt K mg A D):jQ P w K mg base CX0 4 A.abm D.abm ["self", "day", "number", "ware", "pieces", "named"] (SJ A):=by
 refine T.adu.okv Gb λ_ _ _ _ H vs Q E hr h=>?_
 ·obtain⟨x,d,n,p,w,B,dx,rfl,z,hg,k⟩:=h
  refine ⟨_,(iB (jo (oX T.ah3 (lq (K:=K) T) (hr.mono (by decide)) (by rfl) T.afk T.adm.kp (lC T) .nil jL (pav 0 (pav 1 (pav 2 (pav 3 iD))))))
   (iB (jo (pcg (jC T) hr T.adj (jH T) (iz jG (pav 4 (iz iJ (iz (lZ (v:=V.int 1000000000) (by rfl) T.afz ⟨_,rfl⟩) iD))))))
   (iB (jo (pcg (Az T) hr T.adq (Ds T) (pav 5 (pav 4 iD))))
   (iB (jA (K:=K) (pv 0) (pvD 4) rfl)
   (iG (jA (K:=K) (pv 0) (pcg (Dv T) hr T.adr (Fd T) (pav 5 iD)) rfl)))))),?_⟩
  simp only[start_eq];walk_at "n";refine⟨x,d,n,w,B,_,dx,rfl,z,Wn T,hg.1,λH1 z=>?_⟩;walk_at "n";refine⟨_,_,_,_,rfl,hg.2.1.1,hg.2.1.2,?_⟩;walk_at "n";refine⟨_,rfl,?_⟩;walk_at "n";refine MN ["day", "number", "ware"] z T.agh T.agm rfl (by decide+kernel) (by decide) λH2 z=>?_;walk_at "a";exact⟨rfl,MN ["day", "number", "ware", "pieces"] z T.agh T.agn rfl (by decide+kernel) (by decide) λH2 z=>k H2 ⟨dx,.non,z,rfl,λq e=>by cases e⟩⟩
inductive Oc(A:Adr)(vs:List V)(H:Hp)(Q:VK)(E:XK):Prop
 |mk (x:Addr) (d n m f:Int) (w:Str) (B:Hp) (dx:Addr) (_:vs=[.ref x,.int d,.int n,.str w,.int m,.int f]) (_:New B H x A.ac1 dx []) (_:(Ent.good (.split d n w m f))) (_:∀H',Made A B H' x (.split d n w m f)->Q .non H'):Oc A vs H Q E
def Eo(T:Txt K mg A D):jQ P w K mg base CX0 4 A.abn D.abn ["self", "day", "number", "ware", "many", "of"] (Oc A):=by
 refine T.adv.okv Ef λ_ _ _ _ H vs Q E hr h=>?_
 ·obtain⟨x,d,n,m,f,w,B,dx,rfl,z,hg,k⟩:=h
  refine ⟨_,(iB (jo (oX T.ah3 (lq (K:=K) T) (hr.mono (by decide)) (by rfl) T.afk T.adm.kp (lC T) .nil jL (pav 0 (pav 1 (pav 2 (pav 3 iD))))))
   (iB (jo (pcg (jC T) hr T.adj (jH T) (iz jG (pav 4 (iz iJ (iz (lZ (v:=V.int 1000) (by rfl) T.afD ⟨_,rfl⟩) iD))))))
   (iB (jo (pcg (jC T) hr T.adj (jH T) (iz jG (pav 5 (iz iJ (iz (lZ (v:=V.int 1000) (by rfl) T.afD ⟨_,rfl⟩) iD))))))
   (iB (jA (K:=K) (pv 0) (pvD 4) rfl)
   (iG (jA (K:=K) (pv 0) (pvD 5) rfl)))))),?_⟩
  simp only[start_eq];walk_at "n";refine⟨x,d,n,w,B,_,dx,rfl,z,Tv T,hg.1,λH1 z=>?_⟩;walk_at "n";refine⟨_,_,_,_,rfl,hg.2.1.1,hg.2.1.2,?_⟩;walk_at "n";refine⟨_,_,_,_,rfl,hg.2.2.1,hg.2.2.2,?_⟩;walk_at "n";refine MN ["day", "number", "ware"] z T.ago T.agt rfl (by decide+kernel) (by decide) λH2 z=>?_;walk_at "a";exact MN ["day", "number", "ware", "many"] z T.ago T.agu rfl (by decide+kernel) (by decide) λH2 z=>k H2 ⟨dx,.non,z,rfl,λq e=>by cases e⟩
inductive GZ(A:Adr)(vs:List V)(H:Hp)(Q:VK)(E:XK):Prop
 |mk (x:Addr) (d n s t:Int) (w u:Str) (B:Hp) (dx:Addr) (_:vs=[.ref x,.int d,.int n,.str w,.str u,.int s,.int t]) (_:New B H x A.acW dx []) (_:(Ent.good (.part d n w u s t))) (_:∀H',Made A B H' x (.part d n w u s t)->Q .non H'):GZ A vs H Q E
def Bk(T:Txt K mg A D):jQ P w K mg base CX0 4 A.abf D.abf ["self", "day", "number", "ware", "other", "share", "whole"] (GZ A):=by
 refine T.adn.okv Bl λ_ _ _ _ H vs Q E hr h=>?_
 ·obtain⟨x,d,n,s,t,w,u,B,dx,rfl,z,hg,k⟩:=h
  refine ⟨_,(iB (jo (oX T.ah3 (lq (K:=K) T) (hr.mono (by decide)) (by rfl) T.afk T.adm.kp (lC T) .nil jL (pav 0 (pav 1 (pav 2 (pav 3 iD))))))
   (iB (jo (pcg (Ck T) hr T.adl (Fv T) (iz jG (pav 4 iD))))
   (iB (jX (jl (mW) (pvD 4) (pvD 3) (jr _)) (iG (mJ)) jx)
   (iB (jo (pcg (jC T) hr T.adj (jH T) (iz jG (pav 6 (iz iJ (iz (lZ (v:=V.int 1000000) (by rfl) T.afy ⟨_,rfl⟩) iD))))))
   (iB (jo (pcg (jC T) hr T.adj (jH T) (iz jG (pav 5 (iz iJ (pav 6 iD))))))
   (iB (jA (K:=K) (pv 0) (pvD 4) rfl)
   (iB (jA (K:=K) (pv 0) (pvD 5) rfl)
   (iG (jA (K:=K) (pv 0) (pvD 6) rfl))))))))),?_⟩
  simp only[start_eq];walk_at "n";refine⟨x,d,n,w,B,_,dx,rfl,z,Mf T,hg.1,λH1 z=>?_⟩;walk_at "n";refine⟨_,_,rfl,hg.2.1,λH2 sm=>?_⟩;have z:=z.same sm;walk_at "n";rw[ze hg.2.2.1];walk_at "n";refine⟨_,_,_,_,rfl,hg.2.2.2.1.1,hg.2.2.2.1.2,?_⟩;walk_at "n";refine⟨_,_,_,_,rfl,hg.2.2.2.2.1,hg.2.2.2.2.2,?_⟩;walk_at "n";refine MN ["day", "number", "ware"] z T.afI T.afN rfl (by decide+kernel) (by decide) λH2 z=>?_;walk_at "n";refine MN ["day", "number", "ware", "other"] z T.afI T.afO rfl (by decide+kernel) (by decide) λH2 z=>?_;walk_at "a";exact MN ["day", "number", "ware", "other", "share"] z T.afI T.afP rfl (by decide+kernel) (by decide) λH2 z=>k H2 ⟨dx,.non,z,rfl,λq e=>by cases e⟩
local macro_rules | `(tactic| walk_at "m") => `(tactic| ((try dsimp only); rw [ap_seq]; walk_at "i"))
noncomputable def aii(H:Hp)(t:Addr)(e:Ent):Prop:=∃nt,H t=some (.tup (.str e.word::e.args nt))/\NT H nt e.lots
theorem aii.same{H H':Hp}{t:Addr}{e:Ent}(s:Same H H'):aii H t e->aii H' t e:=fun⟨q,h,n⟩=>⟨q,s _ _ h,n.same s⟩
def pX{H:Hp}{x dx C:Addr}(z:H x=none)(q:H dx=none):New H (upd (upd H dx (.own x)) x (.ins C dx [])) x C dx []:=⟨(iM q).upd z,z,iH⟩
noncomputable def Ent.day:Ent->Int
 |.buy d ..=>d
 |.sell d ..=>d
 |.gift d ..=>d
 |.give d ..=>d
 |.split d ..=>d
 |.part d ..=>d
noncomputable def Ent.num:Ent->Int
 |.buy _ n ..=>n
 |.sell _ n ..=>n
 |.gift _ n ..=>n
 |.give _ n ..=>n
 |.split _ n ..=>n
 |.part _ n ..=>n
noncomputable def Ent.ware:Ent->Str
 |.buy _ _ w ..=>w
 |.sell _ _ w ..=>w
 |.gift _ _ w ..=>w
 |.give _ _ w ..=>w
 |.split _ _ w ..=>w
 |.part _ _ w ..=>w
def aie(T:Txt K mg A D)(e:Ent):CE K (e.cls A):=by
 cases e with
 |buy=>exact aaO T
 |sell=>exact Yv T
 |gift=>exact Wx T
 |give=>exact Wn T
 |split=>exact Tv T
 |part=>exact Mf T
def Uh(e:Ent)(q:V):(e.fs q).lookup (Str.ofString "day")=some (.int e.day):=by cases e<;>rfl
def Bj(e:Ent)(q:V):(e.fs q).lookup (Str.ofString "number")=some (.int e.num):=by cases e<;>rfl
def aaS.put{H:Hp}{rs:Rs}{l:Addr}{xs:List V}{u:HO}(h:aaS H rs)(hl:H l=some (.lst xs)):aaS (upd H l u) rs:=λr q=>by
 have h2:=h r q;rw[iU (λz=>by rw[z,hl]at h2;cases h2)];exact h2
theorem NT.put{H:Hp}{v:V}{o:Option Rs}{l:Addr}{xs:List V}{u:HO}(h:NT H v o)(hl:H l=some (.lst xs)):NT (upd H l u) v o:=by
 cases o with
 |none=>exact h
 |some rs=>
  obtain⟨q,rfl,h1,h2⟩:=h;refine⟨q,rfl,?_,h2.put hl⟩;rw[iU (λz=>by rw[z,hl]at h1;cases h1)];exact h1
theorem aii.put{H:Hp}{t:Addr}{e:Ent}{l:Addr}{xs:List V}{u:HO}(h:aii H t e)(q:H l=some (.lst xs)):aii (upd H l u) t e:=by
 obtain⟨nt,h1,h2⟩:=h;refine⟨nt,?_,h2.put q⟩;rw[iU (λz=>by rw[z,q]at h1;cases h1)];exact h1
local macro_rules | `(tactic| walk_at "l") => `(tactic| (rw [ap_seq]; walk_at "i"))
def at3{a b c i:Int}{lo hi:Int}(h0:0<=i)(h1:i<3)(ha:Rg lo hi a)(z:Rg lo hi b)(q:Rg lo hi c):∃v,atI [V.int a,V.int b,V.int c] i=some (.int v)/\Rg lo hi v:=by
 have h:i=0\/i=1\/i=2:=by omega
 rcases h with h|h|h<;>rw[h]
 ·exact⟨a,rfl,ha⟩
 ·exact⟨b,rfl,z⟩
 ·exact⟨c,rfl,q⟩
def vp{lo hi x m:Int}(hm:0<m)(q:lo<=0)(z:m - 1<=hi):Rg lo hi (x%m):=⟨by have:=z6 x (show m≠0 by omega);omega,by have:=zY x hm;omega⟩
def Wt{ws:List Str}{i:Int}(z:0<=i)(h1:i<ws.length):∃w,atI (ws.map V.str) i=some (.str w)/\ws[i.toNat]? =some w:=by
 have q:i.toNat<ws.length:=by omega
 refine⟨ws[i.toNat],?_,zh q⟩;have e:((i.toNat:Nat):Int)=i:=by omega
 have h:=Jb (xs:=ws.map V.str) (j:=i.toNat) (v:=.str ws[i.toNat]) (by rw[zd,zh q];rfl)
 rwa [e]at h
def aiK{ws:List Str}(q:ws.Nodup){i j:Nat}{u v:Str}(hi:ws[i]? =some u)(z:ws[j]? =some v)(h:i≠j):u≠v:=λe=>by
 subst e;have h1:=(zk.mp hi);have h2:=(zk.mp z);exact h ((zzZ (xs:=ws) q (h₀:=h1.1) (h₁:=h2.1)).mp (h1.2.trans h2.2.symm))
def e6:(10:Int)^Int.toNat 6=1000000:=by decide
def aai{a b L:Int}(a0:0<=a)(a1:a<L)(z:0<=b)(q:b<L - 1):(a+1+b)%L≠a:=by
 by_cases h:a+1+b<L
 ·rw[Int.emod_eq_of_lt (by omega) h];omega
 ·have e:(a+1+b)%L=(a+1+b - L)%L:=by
   have:=Int.add_emod_right (a+1+b - L) L;rw[Int.sub_add_cancel]at this;exact this
  rw[e,Int.emod_eq_of_lt (by omega) (by omega)];omega
def aiC{J:It}{cap:List (Option Nat)}{g:TG}{te:TE}{σ:L2.St}{H:Hp}{Q:VK}(n:Nat)(Xs:Nat->V->Prop)(Sσ:L2.St->Prop)(F:Nat->V->Hp->Prop)(h0:Sσ (pD σ cap))(hz:n<=sizeLine)
  (af:∀i q,i<n->Same H q->J.go i q/\∀y H',J.yld i q y H'->H'=q/\Xs i y) (ah:∀q,Same H q->J.stop n q)
  (hs:∀D i x,i<n->Xs i x->∀(σ:L2.St)(q:Hp)(R:L2.St->VK),Sσ σ->Same H q->H D=none->(∃acc,q D=some (.lst acc))->(∀v σ4 H6,Sσ σ4->Same q H6->(∀H',But D H6 H'->F i v H')->R σ4 v H6)->g x σ q λσ4 H4=>te σ4 H4 (R σ4))
  (k:∀D H' acc,H D=none->Same H H'->H' D=some (.lst acc)->acc.length=n->(∀(i:Nat) v,acc[i]? =some v->F i v H')->Q (.ref D) H'):lu cap J g Kr te σ H Q:=by
 intro D hD;refine⟨λi m acc σ H2=>m=n - i/\i<=n/\Sσ σ/\Same H H2/\acc.length=i/\∀(j:Nat) v,acc[j]? =some v->∀H',But D H2 H'->F j v H',⟨n,rfl,zJ _,h0,iM hD,rfl,λj v e=>by simp at e⟩,?_⟩;rintro i m acc σ1 H2 ⟨rfl,hi,hσ,sm,ab,hF⟩ hA;by_cases aa:i<n
 ·obtain⟨g1,g2⟩:=af i H2 aa sm
  refine .inr ⟨g1,λy H3 hy=>?_⟩;obtain⟨e3,hx⟩:=g2 y H3 hy;subst e3;simp only[ap_noIf,if_true];refine hs D i _ aa hx σ1 H3 _ hσ sm hD ⟨_,hA⟩ λv σ4 H6 ai s6 ag=>?_;have aj:=s6 _ _ hA;refine⟨acc,aj,by omega,n - (i+1),by omega,rfl,aa,ai,(sm.trans s6).upd hD,by rw[zA,ab];rfl,λj u hj H' hb=>?_⟩;have ac:But D H6 H':=λb o z e=>hb b o z ((iU z).trans e);by_cases ad:j<acc.length
  ·rw[z9 ad]at hj
   exact hF j u hj H' λb o z e=>ac b o z (s6 _ _ e)
  ·rw[z7 (by omega)]at hj
   have ae:j - acc.length=0:=by
    have:=(zk.mp hj).1;simp at this;omega
   rw[ae]at hj;cases hj;obtain rfl:j=i:=by omega
   exact ag H' ac
 ·obtain rfl:i=n:=by omega
  exact .inl ⟨ah H2 sm,k D H2 acc hD sm hA ab λj v e=>hF j v e H2 λb o _ e=>e⟩
def akr{lo:Int}{cap:List (Option Nat)}{g:TG}{te:TE}{σ:L2.St}{H:Hp}{Q:VK}{n:Nat}(Sσ:L2.St->Prop)(F:Nat->V->Hp->Prop)(h0:Sσ (pD σ cap))(hz:n<=sizeLine)
  (hs:∀D i,i<n->∀(σ:L2.St)(z:Hp)(R:L2.St->VK),Sσ σ->Same H z->H D=none->(∃acc,z D=some (.lst acc))->(∀v q H6,Sσ q->Same z H6->(∀H',But D H6 H'->F i v H')->R q v H6)->g (.int (lo+i)) σ z λq H4=>te q H4 (R q))
  (k:∀D H' acc,H D=none->Same H H'->H' D=some (.lst acc)->acc.length=n->(∀(i:Nat) v,acc[i]? =some v->F i v H')->Q (.ref D) H'):lu cap (Itr lo n) g Kr te σ H Q:=
 aiC n (λi x=>x=.int (lo+i)) Sσ F h0 hz (λi z hi _=>⟨hi,λy H' hy=>⟨hy.1,hy.2⟩⟩) (λ_ _=>zg n) (λD i x hi hx=>by subst hx;exact hs D i hi) k
def aar{a:Addr}{o:Obj}{kvs:List (Key×V)}{cap:List (Option Nat)}{g:TG}{te:TE}{σ:L2.St}{H:Hp}{Q:VK}(Sσ:L2.St->Prop)(F:Nat->V->Hp->Prop)(hH:H a=some (.frz o (.dK kvs)))(h0:Sσ (pD σ cap))(hz:kvs.length<=sizeLine)
  (hs:∀D i q,kvs[i]? =some q->∀(σ:L2.St)(H5:Hp)(R:L2.St->VK),Sσ σ->Same H H5->H D=none->(∃acc,H5 D=some (.lst acc))->(∀v z H6,Sσ z->Same H5 H6->(∀H',But D H6 H'->F i v H')->R z v H6)->g (kV q.1) σ H5 λz H4=>te z H4 (R z))
  (k:∀D H' acc,H D=none->Same H H'->H' D=some (.lst acc)->acc.length=kvs.length->(∀(i:Nat) v,acc[i]? =some v->F i v H')->Q (.ref D) H'):lu cap (Itk a o kvs) g Kr te σ H Q:=
 aiC kvs.length (λi x=>∃q,kvs[i]? =some q/\x=kV q.1) Sσ F h0 hz (λi H5 hi s=>⟨⟨s _ _ hH,hi⟩,λy H' hy=>hy⟩) (λ_ s=>⟨s _ _ hH,zg _⟩) (λD i x hi ⟨q,e,hx⟩=>by subst hx;exact hs D i q e) k
def aav{a:Addr}{o:Obj}{kvs:List (Key×V)}{cap:List (Option Nat)}{g:TG}{te:TE}{σ:L2.St}{H:Hp}{Q:VK}(Sσ:L2.St->Prop)(F:Nat->V->Hp->Prop)(hH:H a=some (.frz o (.dK kvs)))(h0:Sσ (pD σ cap))(hz:kvs.length<=sizeLine)
  (hs:∀D i q,kvs[i]? =some q->∀(σ:L2.St)(H5:Hp)(R:L2.St->VK),Sσ σ->Same H H5->H D=none->(∃acc,H5 D=some (.lst acc))->(∀v z H6,Sσ z->Same H5 H6->(∀H',But D H6 H'->F i v H')->R z v H6)->g q.2 σ H5 λz H4=>te z H4 (R z))
  (k:∀D H' acc,H D=none->Same H H'->H' D=some (.lst acc)->acc.length=kvs.length->(∀(i:Nat) v,acc[i]? =some v->F i v H')->Q (.ref D) H'):lu cap (Itv a o kvs) g Kr te σ H Q:=
 aiC kvs.length (λi x=>∃q,kvs[i]? =some q/\x=q.2) Sσ F h0 hz (λi H5 hi s=>⟨⟨s _ _ hH,hi⟩,λy H' hy=>⟨hy.1,by
  obtain⟨_,h⟩:=hy;rw[zd]at h
  cases e:kvs[i]? with
  |none=>rw[e]at h;cases h
  |some q=>rw[e]at h;exact⟨q,rfl,(zw h).symm⟩⟩⟩) (λ_ s=>⟨s _ _ hH,zg _⟩) (λD i x hi ⟨q,e,hx⟩=>by subst hx;exact hs D i q e) k
noncomputable def jJ(kvs:List (Key×V))(z:Str):Int:=match pG kvs (Sum.inr z)with
 |some (.int i)=>i
 |_=>0
theorem El:∀{kvs:List (Key×V)}{k:Key}{v:V},pG kvs k=some v->(k,v)∈kvs
 |[],_,_,h=>by cases h
 |p::kvs,k,v,h=>by
  by_cases e:p.1=k
  ·rw[lN e]at h
   cases h;rw[<-e];exact zj
  ·rw[lE e]at h
   exact zp _ (El h)
def Lr{kvs:List (Key×V)}{k:Key}{v:V}(q:(kvs.map (·.1)).Nodup)(h:(k,v)∈kvs):pG kvs k=some v:=by
 induction kvs with
 |nil=>exact(zn h).elim
 |cons p kvs ih=>
  rw[zl,zP]at q;rcases zu.mp h with e|h
  ·subst e
   exact lN rfl
  ·have:p.1≠k:=λe=>q.1 (by rw[e];exact zi.mpr ⟨(k,v),h,rfl⟩)
   rw[lE this];exact ih q.2 h
def Oh{kvs:List (Key×V)}{k:Key}{v:V}(z:(kvs.map (·.1)).Nodup):((putK kvs k v).map (·.1)).Nodup:=by
 cases e:pG kvs k with
 |none=>exact aiE v z e
 |some w=>
  unfold putK;rw[zo (by rw[oY,e];rfl),zx]
  have:((λx:Key×V=>x.1)∘λq:Key×V=>if q.1=k then(q.1,v)else q)=λx=>x.1:=by
   funext q;show(if q.1=k then(q.1,v)else q).1=q.1;split<;>rfl
  rw[this];exact z
def RB{kvs:List (Key×V)}{k:Key}{v:V}{p:Key×V}(h:p∈putK kvs k v):p=(k,v)\/p∈kvs:=by
 unfold putK at h;split at h
 ·obtain⟨q,z,rfl⟩:=zi.mp h
  split
  ·rename_i e
   exact .inl (by rw[e])
  ·exact .inr z
 ·rcases zK.mp h with h|h
  ·exact .inr h
  ·exact .inl (zC.mp h)
structure Cnt(kvs:List (Key×V)):Prop where
 k:∀kv∈kvs,∃(z:Str)(i:Int),kv=(Sum.inr z,.int i)/\0<=i
 u:(kvs.map (·.1)).Nodup
theorem Cnt.nil:Cnt []:=⟨λq h=>(zn h).elim,.nil⟩
def Cnt.get{kvs:List (Key×V)}(h:Cnt kvs)(z:Str):(pG kvs (Sum.inr z)).getD (.int 0)=.int (jJ kvs z)/\0<=jJ kvs z:=by
 unfold jJ
 cases e:pG kvs (Sum.inr z)with
 |none=>exact⟨rfl,zzT _⟩
 |some v=>
  obtain⟨y,i,q,hi⟩:=h.k _ (El e);cases q;exact⟨rfl,hi⟩
def Cnt.put{kvs:List (Key×V)}(h:Cnt kvs)(z:Str){n:Int}(hn:0<=n):Cnt (putK kvs (Sum.inr z) (.int n)):=
 ⟨λkv q=>(RB q).elim (λe=>⟨z,n,e,hn⟩) (h.k kv),Oh h.u⟩
theorem GD{α:Type}{f:α->α}:∀{l:List α},(∀x∈l,f x=x)->l.map f=l
 |[],_=>rfl
 |x::l,h=>by rw[zl,h x (.head _),GD λy q=>h y (.tail _ q)]
def VF{i:Nat}{σ:L2.St}{H:Hp}{c w:Str}{Q:Bool->Hp->Prop}(h:σ[i]? =some (some (.str w)))(k:Q (decide (V.str w=V.str c)) H):Cr (tOp rEq (tV i) (tC (.str c))) σ H Q:=by
 unfold Cr tOp tV tC atV rEq;rw[h];exact⟨rfl,_,rfl,k⟩
def aln{w c:Str}(n:w≠c):decide (V.str w=V.str c)=false:=zI λe=>n (V.str.inj e)
def sk1{i:Nat}{σ:L2.St}{H:Hp}{c w:Str}{s u:TS}{D:_}(h:σ[i]? =some (some (.str w)))(n:w≠c)(k:u D σ H):Yt (Wl (Cr (tOp rEq (tV i) (tC (.str c)))) s Pu) u D σ H:=by
 refine VF h ?_;rw[aln n];exact k
def sk2{i:Nat}{σ:L2.St}{H:Hp}{c d w:Str}{s u:TS}{D:_}(h:σ[i]? =some (some (.str w)))(n:w≠c)(m:w≠d)(k:u D σ H):Yt (Wl (tOr (Cr (tOp rEq (tV i) (tC (.str c)))) (Cr (tOp rEq (tV i) (tC (.str d))))) s Pu) u D σ H:=by
 refine VF h ?_;rw[aln n];refine VF h ?_;rw[aln m];exact k
def go1{i:Nat}{σ:L2.St}{H:Hp}{c:Str}{s u:TS}{D:_}(h:σ[i]? =some (some (.str c)))(k:s {D with nx:=u D} σ H):Yt (Wl (Cr (tOp rEq (tV i) (tC (.str c)))) s Pu) u D σ H:=by
 refine VF h ?_;rw[zE rfl];exact k
def go2{i:Nat}{σ:L2.St}{H:Hp}{c d w:Str}{s u:TS}{D:_}(h:σ[i]? =some (some (.str w)))(n:w=c\/w=d)(k:s {D with nx:=u D} σ H):Yt (Wl (tOr (Cr (tOp rEq (tV i) (tC (.str c)))) (Cr (tOp rEq (tV i) (tC (.str d))))) s Pu) u D σ H:=by
 refine VF h ?_;by_cases e:V.str w=V.str c
 ·rw[zE e]
  exact k
 ·rw[zI e]
  refine VF h ?_;rw[zE (show V.str w=V.str d from congrArg V.str (n.resolve_left λz=>e (congrArg V.str z)))];exact k
def akX{i:Nat}{σ:L2.St}{H:Hp}{a:Addr}{vs:List V}{c w:Str}{Q:Bool->Hp->Prop}(h:σ[i]? =some (some (.ref a)))(q:H a=some (.tup vs))(a0:atI vs 0=some (.str w))(k:Q (decide (V.str w=V.str c)) H):Cr (tOp rEq (tOp (aik K) (tV i) (tC (.int 0))) (tC (.str c))) σ H Q:=by
 unfold Cr tOp tV tC atV rEq aik;rw[h];exact⟨_,_,_,_,rfl,rfl,jD q,a0,rfl,_,rfl,k⟩
def si1{i:Nat}{σ:L2.St}{H:Hp}{a:Addr}{vs:List V}{c w:Str}{s u:TS}{D:_}(h:σ[i]? =some (some (.ref a)))(q:H a=some (.tup vs))(a0:atI vs 0=some (.str w))(n:w≠c)(k:u D σ H):Yt (Wl (Cr (tOp rEq (tOp (aik K) (tV i) (tC (.int 0))) (tC (.str c)))) s Pu) u D σ H:=by
 refine akX h q a0 ?_;rw[aln n];exact k
def gi1{i:Nat}{σ:L2.St}{H:Hp}{a:Addr}{vs:List V}{c:Str}{s u:TS}{D:_}(h:σ[i]? =some (some (.ref a)))(q:H a=some (.tup vs))(a0:atI vs 0=some (.str c))(k:s {D with nx:=u D} σ H):Yt (Wl (Cr (tOp rEq (tOp (aik K) (tV i) (tC (.int 0))) (tC (.str c)))) s Pu) u D σ H:=by
 refine akX h q a0 ?_;rw[zE rfl];exact k
def sc0{i:Nat}{σ:L2.St}{H:Hp}{x:V}{t:Value}{C:Addr}{s u:TS}{D:_}(h:σ[i]? =some (some x))(ty:Kd K H x t)(e:kitOne K t (.ref C)=some false)(k:u D σ H):Wl (tB (tCB (ajH K) (Ei (tV i) (Ei (tC (.ref C)) Xo)))) s u D σ H:=by
 unfold Wl tB tCB Ei tV tC Xo atV ajH;rw[h];exact⟨_,_,_,_,rfl,ty,e,_,rfl,k⟩
def sc1{i:Nat}{σ:L2.St}{H:Hp}{x:V}{t:Value}{C:Addr}{s u:TS}{D:_}(h:σ[i]? =some (some x))(ty:Kd K H x t)(e:kitOne K t (.ref C)=some true)(k:s D σ H):Wl (tB (tCB (ajH K) (Ei (tV i) (Ei (tC (.ref C)) Xo)))) s u D σ H:=by
 unfold Wl tB tCB Ei tV tC Xo atV ajH;rw[h];exact⟨_,_,_,_,rfl,ty,e,_,rfl,k⟩
abbrev EL:=List (Addr×Ent)
noncomputable def CQ(es:EL):List V:=es.map λr=>V.ref r.1
noncomputable def Nz(A:Adr)(H:Hp)(es:EL):Prop:=∀r∈es,IsE A H r.1 r.2
theorem Nz.same{H H':Hp}{es:EL}(h:Nz A H es)(s:Same H H'):Nz A H' es:=λr q=>(h r q).same s
def wO(es:EL):(CQ es).length=es.length:=by unfold CQ;rw[za]
def OJ{rs:EL}{i:Nat}{y:V}(h:(CQ rs)[i]? =some y):∃r,rs[i]? =some r/\y=.ref r.1:=by
 unfold CQ at h;rw[zd]at h
 cases e:rs[i]? with
 |none=>rw[e]at h;cases h
 |some r=>rw[e]at h;exact⟨r,rfl,(zw h).symm⟩
def aao{f:Addr×Ent->Int}{rs:EL}:∀{acc:List V},acc.length=rs.length->(∀(i:Nat) v,acc[i]? =some v->∃l,rs[i]? =some l/\v=.int (f l))->acc=(rs.map f).map V.int:=by
 intro acc q h;refine yX λi=>?_;rw[zd,zd];by_cases hi:i<acc.length
 ·obtain⟨l,h1,h2⟩:=h i _ (zh hi)
  rw[zh hi,h2,h1];rfl
 ·rw[zX (by omega),zX (by omega)]
  rfl
def aat(T:Txt K mg A D){H:Hp}{q:Addr}{es:EL}{Q:VK}{σ:L2.St}(hq:H q=some (.lst (CQ es)))(hE:Nz A H es)(hl:es.length<=100)
  (k:∀D H',H D=none->Same H H'->H' D=some (.lst ((es.map λl=>l.2.num).map V.int))->Q (.ref D) H'):lu [none] (Itl K q) (Vv 0) Kr (tFV K 0 "number") σ H Q:=by
 refine lu.listE (K:=K) (λσ=>∃a,σ=[a]) (λi v _=>∃l,es[i]? =some l/\v=.int l.2.num) (iQ hq) ⟨_,rfl⟩ (by rw[wO,zq];omega) ?_ ?_
 ·rintro Da i x hx σ H5 R ⟨_,rfl⟩ sm hD _ kk
  obtain⟨l,aa,rfl⟩:=OJ hx;obtain⟨dx,nv,ab,hn⟩:=(hE l (zm aa)).same sm;have hC:=aie T l.2;walk_at "i";exact rd ab hC.c hC.n (Bj l.2 nv) (kk _ _ H5 ⟨_,rfl⟩ (same_refl _) λH' _=>⟨l,aa,rfl⟩)
 ·intro Da H' acc hD sm hA z hF
  rw[aao (f:=λl=>l.2.num) (by rw[z,wO]) hF]at hA;exact k Da H' hD sm hA
def amw{g:TG}{tb:TS}{D:Ends}{σ:L2.St}{H:Hp}{a b:Addr}{xs ys:List V}(q:Nat->L2.St->Hp->Prop)(n:Nat)(ab:n<=xs.length)(ac:n<=ys.length)(z:xs.length<=n\/ys.length<=n)(h0:q 0 σ H)(hl:∀i σ H,i<=n->q i σ H->SqL K H a xs/\SqL K H b ys)
  (hs:∀i x y σ H p,xs[i]? =some x->ys[i]? =some y->q i σ H->H p=none->g (.ref p) σ (upd H p (.tup [x,y])) λσ2 H2=>tb {D with nx:=q (i+1),ct:=q (i+1),bk:=D.nx} σ2 H2) (hd:∀σ H,q n σ H->D.nx σ H):Gg (Itz K a b) g tb D σ H:=by
 refine⟨λi m σ H=>m=n - i/\i<=n/\q i σ H,⟨n,by simp,zJ _,h0⟩,?_⟩;rintro i m σ H ⟨rfl,hi,p⟩;obtain⟨q1,q2⟩:=hl i σ H hi p;by_cases aa:i<n
 ·have h1:i<xs.length:=by omega
  have h2:i<ys.length:=by omega
  refine .inr ⟨⟨xs,ys,xs[i],ys[i],q1,q2,by simp,by simp⟩,q (i+1),λσ' H' p'=>⟨n - (i+1),by omega,rfl,aa,p'⟩,λv H' y=>?_⟩;obtain⟨pp,x,y,hp,rfl,rfl,e1,e2⟩:=y;exact hs i x y σ _ pp (e1 xs q1) (e2 ys q2) p hp
 ·have e:i=n:=by omega
  subst e;exact .inl ⟨⟨xs,ys,q1,q2,z⟩,hd σ H p⟩
inductive wk(K:Fg_)(vs:List V)(H:Hp)(Q:VK)(E:XK):Prop
 |mk (a:Addr) (ns:List Int) (_:vs=[.ref a]) (_:SqL K H a (ns.map V.int)) (_:ns.length<64) (_:ns.Nodup) (_:∀H',Same H H'->Q .non H'):wk K vs H Q E
def Ie(T:Txt K mg A D):jQ P w K mg base CX0 1 A.abq D.abq ["numbers"] (wk K):=by
 refine T.ady.F.okv nR λ_ _ _ _ H vs Q E hr h=>?_
 ·obtain⟨a,ns,rfl,hS,hl,hu,k⟩:=h
  refine ⟨_,(iB (ji (i:=1) nR.nd rfl orl (jt (RM (K:=K)) (by rfl) T.ae5 (by decide+kernel) (pav 0 iD)))
   (iG (oE zQ rfl (Lf (K:=K) (by rfl) T.ae6 (pav 1 (iz (GX (Uk (K:=K)) (pvD 1) (JV iJ) RV) iD))) (nO (K:=K) (n:=2) rfl (jy (iW (i:=2) nR.nd rfl orl) (jy (iW (i:=3) nR.nd rfl orl) nM)))
    (iG (jX (jl (mW) (pvD 2) (pvD 3) (jr _)) (iG (mJ)) jx))))),?_⟩
  simp only[start_eq];walk_at "m";refine⟨ns,hS,hl,λp q hp ad ah=>?_⟩;have ac:q.Nodup:=ad.nodup_iff.mpr hu;have S1:=iM (o:=.lst (q.map V.int)) hp;have h1:(upd H p (.lst (q.map V.int))) p=some (.lst (q.map V.int)):=iH;generalize upd H p (.lst (q.map V.int))=H1 at S1 h1
  try dsimp only
  rw[ap_for];walk_at "i";refine⟨_,iQ h1,λpc ab=>?_⟩;rw[show Ox (q.map V.int) (some 1) none=(q.drop 1).map V.int by rw[List.map_drop];exact Ua (q.map V.int) 1];have S2:=S1.trans (iM (o:=.lst ((q.drop 1).map V.int)) ab);have h2:(upd H1 pc (.lst ((q.drop 1).map V.int))) pc=some (.lst ((q.drop 1).map V.int)):=iH;have z:=iM (o:=.lst ((q.drop 1).map V.int)) ab _ _ h1;generalize upd H1 pc (.lst ((q.drop 1).map V.int))=H2 at S2 h2 z;refine⟨⟨_,iQ z⟩,⟨_,iQ h2⟩,?_⟩
  refine amw (K:=K) (a:=p) (b:=pc) (xs:=q.map V.int) (ys:=(q.drop 1).map V.int) (λi σ Hx=>(∃v2 v3,σ=[some (.ref a),some (.ref p),v2,v3])/\Same H2 Hx) (q.length - 1) (by rw[za];omega) (by rw[za,yw];omega) (.inr (by rw[za,yw];omega))
   ⟨⟨_,_,rfl⟩,same_refl _⟩ (λi σ Hx _ ⟨_,s⟩=>⟨s.seq (iQ z),s.seq (iQ h2)⟩) ?_ ?_
  ·rintro i x y σ H3 pt hx hy ⟨⟨v2,v3,rfl⟩,s3⟩ ag
   rw[zd]at hx hy;obtain⟨m1,af,rfl⟩:=zzr.mp hx;obtain⟨m2,aa,rfl⟩:=zzr.mp hy;rw[List.getElem?_drop]at aa
   have ae:m1≠m2:=by
    obtain⟨q1,e1⟩:=zk.mp af;obtain⟨q2,e2⟩:=zk.mp aa;have:=yu.mp ac i (1+i) q1 q2 (by omega);rw[e1,e2]at this;exact this
   have S3:=s3.trans (iM (o:=.tup [V.int m1,V.int m2]) ag);have h3:(upd H3 pt (.tup [V.int m1,V.int m2])) pt=some (.tup [V.int m1,V.int m2]):=iH;generalize upd H3 pt (.tup [V.int m1,V.int m2])=H4 at S3 h3;walk_at "i";refine⟨_,jD h3,rfl,_,_,rfl,_,_,rfl,rfl,?_⟩;refine⟨rfl,?_⟩;rw[ze (λe=>ae (by cases e;rfl))];exact S3
  ·rintro σ H3 ⟨⟨v2,v3,rfl⟩,s3⟩
   exact k _ (S2.trans s3)
inductive Ia(A:Adr)(vs:List V)(H:Hp)(Q:VK)(E:XK):Prop
 |mk (x:Addr) (e:Ent) (_:vs=[.ref x]) (_:IsE A H x e) (_:∀t,H t=none->Q (.ref t) (upd H t (.tup [.int e.day,.int e.num]))):Ia A vs H Q E
def Bw(T:Txt K mg A D):jQ P w K mg base CX0 1 A.abr D.abr ["entry"] (Ia A):=by
 refine T.adz.F.okv Rq λ_ _ _ _ H vs Q E hr h=>?_
 ·obtain⟨x,e,rfl,⟨dx,nv,z,hn⟩,k⟩:=h
  refine⟨_,(iG (iY (lY (iz (fv K 0) (iz (fv K 0) iD))))),?_⟩;have q:=aie T e;walk_at "a";exact rd z q.c q.d (Uh e nv) (rd z q.c q.n (Bj e nv) ⟨sz,λt ht=>k t ht⟩)
noncomputable def alZ:V->Int
 |.int i=>i
 |_=>0
noncomputable def kfE(H:Hp):V->List Int
 |.ref b=>match H b with
  |some (.ins _ _ fs)=>[alZ ((fs.lookup (Str.ofString "day")).getD .non),alZ ((fs.lookup (Str.ofString "number")).getD .non)]
  |_=>[]
 |_=>[]
def Iu{H:Hp}{b:Addr}{e:Ent}(h:IsE A H b e):kfE H (.ref b)=[e.day,e.num]:=by
 obtain⟨dx,z,q,_⟩:=h;unfold kfE;dsimp only;rw[q];dsimp only;rw[Uh,Bj];rfl
noncomputable def BfE(d e:Ent):Prop:=d.day<e.day\/(d.day=e.day/\d.num<e.num)
def BfE.asym{d e:Ent}(h:BfE d e)(h':BfE e d):False:=by
 unfold BfE at h h';omega
def aja{d e:Ent}(h:vP [d.day,d.num] [e.day,e.num] false=true)(hn:d.num≠e.num):BfE d e:=by
 rw[vP]at h;by_cases q:d.day=e.day
 ·rw[zo q,vP,ze hn]at h
  exact .inr ⟨q,z8 h⟩
 ·rw[ze q]at h
  exact .inl (z8 h)
def ajN{l k:List Ent}(h:l.Perm k)(h1:l.Pairwise BfE)(h2:k.Pairwise BfE):l=k:=List.Perm.eq_of_pairwise (λa b _ _ x y=>(x.asym y).elim) h1 h2 h
def Es{α:Type}{f:α->V}:∀{zs ys:List V},zs.Perm ys->∀{rs:List α},ys=rs.map f->∃q:List α,zs=q.map f/\q.Perm rs:=by
 intro zs ys h
 induction h with
 |nil=>intro rs e;exact⟨[],rfl,by cases rs with|nil=>exact .nil|cons _ _=>cases e⟩
 |cons x _ ih=>
  intro rs e
  cases rs with
  |nil=>cases e
  |cons r rs=>
   rw[zl]at e;obtain⟨e1,z⟩:=yT e;obtain⟨q,a1,a2⟩:=ih z;exact⟨r::q,by rw[zl,<-a1,e1],a2.cons r⟩
 |swap x y l=>
  intro rs e
  cases rs with
  |nil=>cases e
  |cons r rs=>cases rs with
   |nil=>cases e
   |cons r2 rs=>
    rw[zl,zl]at e;obtain⟨e1,z⟩:=yT e;obtain⟨e3,e4⟩:=yT z;exact⟨r2::r::rs,by rw[zl,zl,e1,e3,e4],.swap _ _ _⟩
 |trans _ _ ih1 ih2=>
  intro rs e;obtain⟨r2,a1,a2⟩:=ih2 e;obtain⟨r3,b1,b2⟩:=ih1 a1;exact⟨r3,b1,b2.trans a2⟩
inductive Ig(A:Adr)(vs:List V)(H:Hp)(Q:VK)(E:XK):Prop
 |mk (q:Addr) (es:EL) (_:vs=[.ref q]) (_:H q=some (.lst (CQ es))) (_:Nz A H es) (_:es.length<64) (_:(es.map (·.2.num)).Nodup) (_:∀p es' H',Same H H'->H p=none->H' p=some (.lst (CQ es'))->es'.Perm es->(es'.map (·.2)).Pairwise BfE->Q (.ref p) H'):Ig A vs H Q E
def Rj(T:Txt K mg A D):jQ P w K mg base CX0 4 A.abt D.abt ["entries"] (Ig A):=by
 refine T.adA.F.okv RX λ_ _ _ _ H vs Q E hr h=>?_
 ·obtain⟨q,es,rfl,hq,hE,hl,hu,k⟩:=h
  refine ⟨_,(iB (jo (pcg (Ie T) hr T.ady (Kp T) (iz (jO (cap:=[none]) (N':=["entry"]) rfl (by walk_at "c") (jW (K:=K) (pv 0)) (λ_ _ _ _=>(iW (i:=0) nd1 rfl orl orr)) (λ_ _ _ _=>jP) (λ_ _ _ _=>(fv K 0))) iD)))
   (iG (iY (Iz (K:=K) (by rfl) (Lz (Bw (K:=K) T) (hr.mono (by decide)) (Ed T) (by rfl) T.ae5 (by decide+kernel) (by rfl) T.adz.m (pav 0 iD)))))),?_⟩
  simp only[start_eq];walk_at "m";refine⟨⟨_,iQ hq⟩,aat T hq hE (by omega) λD1 H1 ah s1 h1=>?_⟩;refine⟨D1,_,rfl,iQ h1,by rw[za];exact hl,hu,λH2 s2=>?_⟩;have S2:=s1.trans s2;have aa:=hE.same S2;walk_at "i";refine⟨_,iQ (S2 _ _ hq),by rw[wO];exact hl,kfE H2,λy hy=>?_,λp zs H3 s3 hn hz ac ad=>?_⟩
  ·obtain⟨o,ho,rfl⟩:=zi.mp hy
   rw[Iu (aa o ho)];refine⟨by simp,λH5 s5 R hR=>⟨o.1,o.2,rfl,(aa o ho).same s5,λt ht=>hR t _ (iM ht) ?_⟩⟩;rw[Iu (aa o ho)];exact iH
  ·obtain⟨os,rfl,ab⟩:=Es (f:=λr:Addr×Ent=>V.ref r.1) ac rfl
   have ae:es.Pairwise λa b=>a.2.num≠b.2.num:=zW.mp hu
   have hou':os.Pairwise λa b=>a.2.num≠b.2.num:=by
    have:(os.map λr=>r.2.num).Nodup:=(ab.map λr=>r.2.num).nodup_iff.mpr hu;exact zW.mp this
   have ag:=ad 2 (λy hy=>by
    obtain⟨r,hr,rfl⟩:=zi.mp hy;rw[Iu (aa r hr)];rfl) (by
    refine zW.mpr (zW.mpr (yL (fun{a b} ha hb af z=>af ?_) ae));rw[Iu (aa a ha),Iu (aa b hb)]at z;exact(yT (yT z).2).1)
   refine k p os H3 (S2.trans s3) (S2.free hn) hz ab ?_;refine zW.mpr (yL (fun{a b} ha hb h=>?_) ((zW.mp ag).and hou'));have h1:=h.1;rw[Iu (aa a (ab.mem_iff.mp ha)),Iu (aa b (ab.mem_iff.mp hb))]at h1;exact aja h1 h.2
structure jz where
 n:Int
 s:Int
 p:Int
 c:Int
noncomputable def jz.fs(d:jz):List (Str×V):=[("number",.int d.n),("since",.int d.s),("pieces",.int d.p),("cost",.int d.c)]
noncomputable def jz.vs(d:jz):List V:=[.int d.n,.int d.s,.int d.p,.int d.c]
noncomputable def mL(A:Adr)(H:Hp)(x:Addr)(d:jz):Prop:=∃dx,H x=some (.ins A.ac3 dx d.fs)
def mL.same{H H':Hp}{x:Addr}{d:jz}(h:mL A H x d)(s:Same H H'):mL A H' x d:=let⟨dx,e⟩:=h;⟨dx,s _ _ e⟩
def mL.but{H H':Hp}{D:Addr}{x:Addr}{d:jz}(h:mL A H x d)(q:x≠D)(s:But D H H'):mL A H' x d:=let⟨dx,e⟩:=h;⟨dx,s _ _ q e⟩
inductive qz(A:Adr)(vs:List V)(H:Hp)(Q:VK)(E:XK):Prop
 |mk (x:Addr) (d:jz) (B:Hp) (dx:Addr) (_:vs=.ref x::d.vs) (_:New B H x A.ac3 dx []) (_:∀H',New B H' x A.ac3 dx d.fs->Q .non H'):qz A vs H Q E
def jT(T:Txt K mg A D):jQ P w K mg base CX0 1 A.abx D.abx ["self", "number", "since", "pieces", "cost"] (qz A):=by
 refine T.adE.ok Jl (by walk_at "v") (λ_ _ _ s H vs Q E z h=>?_)
 ·obtain⟨x,⟨n,s,p,c⟩,B,dx,rfl,q,k⟩:=h
  refine ⟨_,(iB (jA (K:=K) (pv 0) (pvD 1) rfl)
   (iB (jA (K:=K) (pv 0) (pvD 2) rfl)
   (iB (jA (K:=K) (pv 0) (pvD 3) rfl)
   (iG (jA (K:=K) (pv 0) (pvD 4) rfl))))),?_⟩
  simp only[jz.vs];walk_at "a";refine sw q.h T.agD T.agE (by decide) (?_);rw[xR _ _ (by decide+kernel)];have q:=q.put (gs:=[]++[(Str.ofString "number",V.int n)]) rfl;refine sw q.h T.agD T.agF (by simp) (?_);rw[mj (f:=Str.ofString "since") ["number"]];have q:=q.put (gs:=([]++[(Str.ofString "number",V.int n)])++[(Str.ofString "since",V.int s)]) rfl;refine sw q.h T.agD T.agG (by simp) (?_);rw[mj (f:=Str.ofString "pieces") ["number", "since"]];have q:=q.put (gs:=(([]++[(Str.ofString "number",V.int n)])++[(Str.ofString "since",V.int s)])++[(Str.ofString "pieces",V.int p)]) rfl;refine sw q.h T.agD T.agH (by simp) (?_);rw[mj (f:=Str.ofString "cost") ["number", "since", "pieces"]];exact k _ (q.put rfl)
def qb{R:Hp->Prop}{E:XK}{H:Hp}{x dx:Addr}(d:jz)(hx:H x=none)(q:H dx=none)(k:∀H',Same H H'->mL A H' x d->R H'):
  qz A (.ref x::d.vs) (upd (upd H dx (.own x)) x (.ins A.ac3 dx [])) (λv H2=>v=.non/\R H2) E:=
 ⟨x,d,H,dx,rfl,pX hx q,λH' z=>⟨rfl,k H' z.s ⟨dx,z.h⟩⟩⟩
abbrev RL:=List (Addr×jz)
noncomputable def jB(rs:RL):List V:=rs.map λr=>V.ref r.1
noncomputable def kY(A:Adr)(H:Hp)(rs:RL):Prop:=∀r∈rs,mL A H r.1 r.2
theorem kY.same{H H':Hp}{rs:RL}(h:kY A H rs)(s:Same H H'):kY A H' rs:=λr q=>(h r q).same s
structure Good(d:jz):Prop where
 n:0<=d.n/\d.n<=1000000
 s:0<=d.s/\d.s<=1000000
 p:1<=d.p/\d.p<=1000000000
 c:0<=d.c/\d.c<=1000000000000000000
def jU{rs:RL}{i:Nat}{y:V}(h:(jB rs)[i]? =some y):∃r,rs[i]? =some r/\y=.ref r.1:=by
 unfold jB at h;rw[zd]at h
 cases e:rs[i]? with
 |none=>rw[e]at h;cases h
 |some r=>rw[e]at h;exact⟨r,rfl,(zw h).symm⟩
def jc(rs:RL):(jB rs).length=rs.length:=by unfold jB;rw[za]
def get_mem{rs:RL}{i:Nat}{r:Addr×jz}(h:rs[i]? =some r):r∈rs:=zm h
def Rr(F:V->Hp->Addr×jz->Prop){acc:List V}{H:Hp}:∀{ds:List jz},acc.length=ds.length->(∀(i:Nat) v,acc[i]? =some v->∃b d,ds[i]? =some d/\v=.ref b/\F v H (b,d))->
  ∃rs:RL,acc=jB rs/\rs.map (·.2)=ds/\∀r∈rs,F (.ref r.1) H r:=by
 induction acc with
 |nil=>
  intro ds q _
  cases ds with
  |nil=>exact⟨[],rfl,rfl,λr h=>by cases h⟩
  |cons _ _=>simp at q
 |cons v acc ih=>
  intro ds q h
  cases ds with
  |nil=>simp at q
  |cons d ds=>
   obtain⟨b,d',e,rfl,hf⟩:=h 0 v rfl;cases e;obtain⟨rs,e1,e2,e3⟩:=ih (ds:=ds) (by simpa using q) λi v hv=>h (i+1) v hv;refine⟨(b,d)::rs,by rw[e1];rfl,by rw[zl,e2],λr z=>?_⟩;rcases zu.mp z with rfl|z
   ·exact hf
   ·exact e3 r z
noncomputable def Wv(H:Hp)(Q:VK)(ns:List Int):Prop:=∀p H',Same H H'->H p=none->H' p=some (.lst (ns.map V.int))->Q (.ref p) H'
def Uo{z q:List Int}(h:z.Perm q):z.sum=q.sum:=by
 induction h with
 |nil=>rfl
 |cons x _ ih=>rw[zO,zO,ih]
 |swap x y l=>rw[zO,zO,zO,zO];omega
 |trans _ _ ih1 ih2=>rw[ih1,ih2]
noncomputable def pcs(ls:RL):Int:=(ls.map (·.2.p)).sum
structure Shp(ns:List Int)(ls:RL):Prop where
 u:(ls.map (·.2.n)).Nodup
 p:∀l∈ls,1<=l.2.p
 m:∀l∈ls,l.2.n∈ns
noncomputable def VP(l:Addr×jz):Int×Int:=(l.2.n,l.2.p)
noncomputable def Sim(ls ms:RL):Prop:=ms.map VP=ls.map VP
def Sim.len{ls q:RL}(h:Sim ls q):q.length=ls.length:=by simpa using congrArg List.length h
def Sim.ns{ls q:RL}(h:Sim ls q):q.map (·.2.n)=ls.map (·.2.n):=by
 have:=congrArg (List.map Prod.fst) h
 rwa [zx,zx]at this
def Sim.ps{ls q:RL}(h:Sim ls q):q.map (·.2.p)=ls.map (·.2.p):=by
 have:=congrArg (List.map Prod.snd) h
 rwa [zx,zx]at this
theorem Sim.pcs{ls q:RL}(h:Sim ls q):pcs q=pcs ls:=by unfold My.pcs;rw[h.ps]
def Sim.shp{ns:List Int}{ls z:RL}(h:Sim ls z)(s:Shp ns ls):Shp ns z:=by
 refine⟨by rw[h.ns];exact s.u,λl hl=>?_,λl hl=>?_⟩
 ·have:l.2.p∈z.map (·.2.p):=zi.mpr ⟨l,hl,rfl⟩
  rw[h.ps]at this;obtain⟨q,hq,e⟩:=zi.mp this;exact e▸s.p q hq
 ·have:l.2.n∈z.map (·.2.n):=zi.mpr ⟨l,hl,rfl⟩
  rw[h.ns]at this;obtain⟨q,hq,e⟩:=zi.mp this;exact e▸s.m q hq
theorem Shp.nil{ns:List Int}:Shp ns []:=⟨.nil,λl h=>(zn h).elim,λl h=>(zn h).elim⟩
theorem Nr{α:Type} [DecidableEq α]:∀{l k:List α},l.Nodup->(∀x∈l,x∈k)->l.length<=k.length
 |[],_,_,_=>zJ _
 |x::l,k,h,s=>by
  have h':=zP.mp h;have z:x∈k:=s x (.head _);have:=Nr (l:=l) (k:=k.erase x) h'.2 λy q=>(List.mem_erase_of_ne (λe=>by subst e;exact h'.1 q)).mpr (s y (.tail _ q));rw[List.length_erase_of_mem z]at this;have hp:0<k.length:=List.length_pos_of_mem z;rw[zL];omega
def Shp.len{ns:List Int}{ls:RL}(s:Shp ns ls):ls.length<=ns.length:=by
 have:=Nr s.u λn hn=>by
  obtain⟨l,q,rfl⟩:=zi.mp hn;exact s.m l q
 rwa [za]at this
def Nk(l:Addr×jz)(ls:RL):pcs (l::ls)=l.2.p+pcs ls:=zO
def aiU(a b:RL):pcs (a++b)=pcs a+pcs b:=by unfold pcs;rw[zv,yG]
theorem Bs:∀{ls:RL},(∀l∈ls,1<=l.2.p)->(ls.length:Int)<=pcs ls
 |[],_=>zzT _
 |l::ls,h=>by
  have h1:=h l (.head _);have h2:=Bs (ls:=ls) λq z=>h q (.tail _ z);rw[Nk,zL];omega
theorem RT:∀{ls:RL}{l:Addr×jz},(∀l∈ls,1<=l.2.p)->l∈ls->l.2.p<=pcs ls
 |q::ls,l,h,z=>by
  rw[Nk];have h2:=Bs (ls:=ls) λq hq=>h q (.tail _ hq);rcases zu.mp z with rfl|z
  ·omega
  ·have:=RT (ls:=ls) (λq hq=>h q (.tail _ hq)) z
   have:=h q (.head _);omega
def Tq{a b:RL}(h:a.Perm b):pcs a=pcs b:=Uo (h.map (λl:Addr×jz=>l.2.p))
inductive LR(vs:List V)(H:Hp)(Q:VK)(E:XK):Prop
 |mk (a p w:Int) (_:vs=[.int a,.int p,.int w]) (_:Ab a p) (_:Qa 0 w) (_:Q (.int (a*p/w)) H):LR vs H Q E
def Ew(T:Txt K mg A D):jQ P w K mg base CX0 1 A.abM D.abM ["amount", "part", "whole"] LR:=by
 refine T.adT.F.okv Vc λ_ _ _ _ H vs Q E q h=>?_
 ·obtain⟨a,p,z,rfl,h1,h2,k⟩:=h
  refine⟨_,(iG (iY (ju rK (ju mH (pvD 0) (pvD 1)) (pvD 2)))),?_⟩;walk_at "a";exact⟨h1,h2,k⟩
inductive Fo(A:Adr)(vs:List V)(H:Hp)(Q:VK)(E:XK):Prop
 |mk (x:Addr) (d:jz) (p:Int) (_:vs=[.ref x,.int p]) (_:mL A H x d) (_:Ab d.c p) (_:Qa 0 d.p) (_:∀t y v H',Same H H'->H t=none->H' t=some (.tup [.ref y,v])->mL A H' y ⟨d.n,d.s,p,d.c*p/d.p⟩->(p=d.p->v=.non)->(p≠d.p->∃z,v=.ref z/\mL A H' z ⟨d.n,d.s,d.p - p,d.c - d.c*p/d.p⟩)->Q (.ref t) H'):Fo A vs H Q E
def PB(T:Txt K mg A D):jQ P w K mg base CX0 3 A.abS D.abS ["self", "pieces"] (Fo A):=by
 refine T.adZ.ok xx (by walk_at "v") (λ_ _ _ s H vs Q E hr h=>?_)
 ·obtain⟨x,⟨n,s,p,c⟩,p',rfl,⟨dx,hx⟩,m1,m2,k⟩:=h
  refine ⟨_,(iB (ji (i:=2) xx.nd rfl orl (pcg (Ew T) hr T.adT (Jy T) (iz (fv K 0) (pav 1 (iz (fv K 0) iD)))))
   (iB (ji (i:=3) xx.nd rfl orl (lR T.ag5 (jT (K:=K) T) (hr.mono (by decide)) (by rfl) T.afs (jY T) .nil jL (iz (fv K 0) (iz (fv K 0) (pav 1 (pav 2 iD))))))
   (iB (jX (jl (mW) (pvD 1) (fv K 0) (jr _)) (iG (iY (lY (pav 3 (iz nu iD))))) jx)
   (iG (iY (lY (pav 3 (iz (lR T.ag5 (jT (K:=K) T) (hr.mono (by decide)) (by rfl) T.afs (jY T) .nil jL (iz (fv K 0) (iz (fv K 0) (iz (ju pY (fv K 0) (pvD 1)) (iz (ju pY (fv K 0) (pvD 2)) iD))))) iD)))))))),?_⟩
  simp only[start_eq];walk_at "m";refine rd hx T.agD T.agH (by rfl) (rd hx T.agD T.agG (by rfl) ⟨c,p',p,rfl,m1,m2,?_⟩);walk_at "m";refine rd hx T.agD T.agE (by rfl) (rd hx T.agD T.agF (by rfl) (λy dy hy ab _=>?_));refine qb (A:=A) ⟨n,s,p',c*p'/p⟩ hy ab λH1 s1 hY=>?_;have q:=s1 _ _ hx;walk_at "m";refine rd q T.agD T.agG (by rfl) ⟨rfl,?_⟩;by_cases e:p'=p
  ·rw[zo (by simp[e])]
   refine⟨sz,λt ht=>k t y .non _ (s1.trans (iM ht)) (s1.free ht) iH (hY.same (iM ht)) (λ_=>rfl) λh=>(h e).elim⟩
  ·rw[ze (by simp[e])]
   refine rd q T.agD T.agE (by rfl) (rd q T.agD T.agF (by rfl) (rd q T.agD T.agG (by rfl) ⟨_,rfl,rd q T.agD T.agH (by rfl) ⟨_,rfl,λz dz hz aa _=>?_⟩⟩));refine qb (A:=A) ⟨n,s,p - p',c - c*p'/p⟩ hz aa λH2 s2 hZ=>⟨sz,λt ht=>?_⟩;exact k t y (.ref z) _ (s1.trans (s2.trans (iM ht))) ((s1.trans s2).free ht) iH (hY.same (s2.trans (iM ht))) (λh=>(e h).elim) λ_=>⟨z,rfl,hZ.same (iM ht)⟩
noncomputable def shares(a W:Int):Int->List Int->List Int
 |_,[]=>[]
 |t,w::r=>(a*(t+w)/W - a*t/W)::shares a W (t+w) r
theorem HY(a W:Int):∀(t:Int)(l:List Int)(x:Int),shares a W t (l++[x])=shares a W t l++[a*(t+l.sum+x)/W - a*(t+l.sum)/W]
 |t,[],x=>by simp[shares]
 |t,y::r,x=>by
  show _::shares a W (t+y) (r++[x])=_::shares a W (t+y) r++_;rw[HY a W (t+y) r x,zO,Int.add_assoc t y r.sum];rfl
theorem xY(a W:Int):∀(t:Int)(l:List Int),(shares a W t l).length=l.length
 |_,[]=>rfl
 |t,y::r=>congrArg (·+1) (xY a W (t+y) r)
theorem Lp(a W:Int):∀(t:Int)(l:List Int),(shares a W t l).sum=a*(t+l.sum)/W - a*t/W
 |t,[]=>by simp[shares]
 |t,y::r=>by
  show((a*(t+y)/W - a*t/W)::shares a W (t+y) r).sum=_;rw[zO,Lp a W (t+y) r,zO,Int.add_assoc t y r.sum];omega
theorem Em:∀{l:List Int},(∀x∈l,0<=x)->0<=l.sum
 |[],_=>by simp
 |x::r,h=>by
  have h1:=h x zj;have h2:=Em (l:=r) λy q=>h y (zp _ q);rw[zO];omega
def Sh{l:List Int}(h:∀x∈l,0<=x)(i:Nat):0<=(l.take i).sum/\(l.take i).sum<=l.sum:=by
 have h1:0<=(l.take i).sum:=Em λx q=>h x (y6 q);have h2:0<=(l.drop i).sum:=Em λx q=>h x (List.mem_of_mem_drop q);have z:l.sum=(l.take i).sum+(l.drop i).sum:=by rw[<-yG,yV]
 omega
inductive ul(K:Fg_)(vs:List V)(H:Hp)(Q:VK)(E:XK):Prop
 |mk (l:Addr) (ws:List Int) (_:vs=[.ref l]) (_:SqL K H l (ws.map V.int)) (_:(∀x∈ws,0<=x)) (_:0<ws.sum) (_:ws.length<=1000) (_:∀H',Same H H'->Q (.int ws.sum) H'):ul K vs H Q E
def Ea(T:Txt K mg A D):jQ P w K mg base CX0 1 A.abL D.abL ["weights"] (ul K):=by
 refine T.adS.F.okv tL λ_ _ _ _ H vs Q E hr h=>?_
 ·obtain⟨l,ws,rfl,hS,h0,hp,hl,k⟩:=h
  refine ⟨_,(iB (jX (nD (jt (Qs (K:=K) rfl) (by rfl) T.ae7 (by decide+kernel) (iz (jO (cap:=[none]) (N':=["weight"]) rfl (by walk_at "c") (jW (K:=K) (pv 0)) (λ_ _ _ _=>(iW (i:=0) nd1 rfl orl orr)) (λ_ _ _ _=>jP) (λ_ _ _ _=>(uU (Qz) (pvD 0) iJ (jr _)))) iD))) (iG (mJ)) jx)
   (iB (ji (i:=1) tL.nd rfl orl (jt (mO (K:=K) rfl) (by rfl) T.ae8 (by decide+kernel) (pav 0 iD)))
   (iB (jX (jl (mW) (pvD 1) iJ (jr _)) (iG (mJ)) jx)
   (iG (iY (pvD 1)))))),?_⟩
  walk_at "a";refine⟨⟨_,hS⟩,?_⟩;refine lu.list (xs:=ws.map V.int) (λσ=>∃v,σ=[v]) (λ_=>true) (λv=>match v with|.int z=> .bl (decide (z<0))|_=> .non) hS ⟨none,rfl⟩ (by rw[za,zq];omega) ?_ ?_
  ·rintro x hx σ H5 R1 R2 ⟨v,rfl⟩ sm k1 k2
   obtain⟨c,_,rfl⟩:=zi.mp hx;walk_at "a";exact k1 rfl _ _ ⟨_,rfl⟩ (same_refl _)
  ·intro Da H' hD sm e
   rw[Ir,zx]at e;walk_at "i";refine⟨ws.map λz=>decide (z<0),iQ (by rw[e,zx];rfl),?_⟩
   have q:(ws.map λz=>decide (z<0)).any id=false:=by
    rw[List.any_eq_false];intro b hb;obtain⟨z,hz,rfl⟩:=zi.mp hb;have:=h0 z hz;simp only[id,decide_eq_true_eq];omega
   rw[q];walk_at "a";refine⟨ws,sm.seq hS,?_⟩;rw[ze (by omega)];exact k H' sm
inductive TJ(K:Fg_)(vs:List V)(H:Hp)(Q:VK)(E:XK):Prop
 |mk (a:Int) (l:Addr) (ws:List Int) (_:vs=[.int a,.ref l]) (_:SqL K H l (ws.map V.int)) (_:(∀x∈ws,0<=x)) (_:0<ws.sum) (_:ws.length<=1000) (_:ws.sum<2^63) (_:Wv H Q (shares a ws.sum 0 ws)):TJ K vs H Q E
def Ux(T:Txt K mg A D):jQ P w K mg base CX0 2 A.abN D.abN ["amount", "weights"] (TJ K):=by
 refine T.adU.F.okv qe λ_ _ _ _ H vs Q E hr h=>?_
 ·obtain⟨a,l,ws,rfl,hS,h0,hp,hl,hw,k⟩:=h
  refine ⟨_,(iB (ji (i:=2) qe.nd rfl orl (pcg (Ea T) hr T.adS (Gw T) (pav 1 iD)))
   (iB (ji (i:=3) qe.nd rfl orl (kW iD))
   (iB (ji (i:=4) qe.nd rfl orl iJ)
   (iB (ji (i:=5) qe.nd rfl orl iJ)
   (iB (oE zQ rfl (jW (K:=K) (pv 1)) (iW (i:=6) qe.nd rfl orl)
    (iB (ji (i:=4) qe.nd rfl orl (ju kE (pvD 4) (pvD 6)))
    (iB (ji (i:=7) qe.nd rfl orl (pcg (Ew T) hr T.adT (Jy T) (pav 0 (pav 4 (pav 2 iD)))))
    (iB (jo (qx (K:=K) zH zR zS mD (pvD 3) (iz (ju pY (pvD 7) (pvD 5)) iD)))
    (iG (ji (i:=5) qe.nd rfl orl (pvD 7)))))))
   (iG (iY (pvD 3)))))))),?_⟩
  walk_at "a";refine⟨l,ws,rfl,hS,h0,hp,hl,λH1 s1=>?_⟩;walk_at "a";refine⟨zJ _,λp aa=>⟨⟨_,(s1.trans (iM aa)).seq hS⟩,?_⟩⟩;have q:H p=none:=s1.free aa;have hd:Qa 0 ws.sum:=⟨hp,ZF (show ws.sum.natAbs<2^63 by omega) (by decide)⟩
  refine tY (xs:=ws.map V.int) (λi σ H2=>(∃v6 v7,σ=[some (.int a),some (.ref l),some (.int ws.sum),some (.ref p),some (.int (ws.take i).sum),some (.int (a*(ws.take i).sum/ws.sum)),v6,v7])/\Same H H2/\H2 p=some (.lst ((shares a ws.sum 0 (ws.take i)).map V.int)))
   ⟨⟨none,none,by simp⟩,s1.upd q,by rw[iH];simp[shares]⟩ (λi σ H2 _ ⟨_,s2,_⟩=>s2.seq hS) ?_ ?_
  ·rintro i y σ H2 hi ⟨⟨v6,v7,rfl⟩,s2,h2⟩
   obtain⟨x,rfl,ab⟩:=Bf hi;have ac:i<ws.length:=(zk.mp ab).1;have ht:ws.take (i+1)=ws.take i++[x]:=by rw[zN,ab];rfl
   have z:(ws.take (i+1)).sum=(ws.take i).sum+x:=by rw[ht,yG];simp
   have hb:=Sh h0 (i+1);rw[z]at hb;walk_at "a";refine⟨a,(ws.take i).sum+x,ws.sum,rfl,vd (by omega) (by omega),hd,?_⟩;walk_at "a";refine⟨tyL (iQ h2),_,h2,?_,by rw[z],by rw[z],s2.upd q,?_⟩
   ·rw[za,xY,zU]
    exact XX (by omega)
   ·rw[iH,ht,HY,zv,zz9]
    rfl
  ·rintro σ H2 ⟨⟨v6,v7,rfl⟩,s2,h2⟩
   rw[za,z0]at h2;walk_at "a";exact k p H2 s2 q h2
def Cy{ls:RL}{f:Addr×jz->Int}{acc:List V}(z:acc.length=ls.length)(h:∀(i:Nat) v,acc[i]? =some v->∃l,ls[i]? =some l/\v=.int (f l)):acc=(ls.map f).map V.int:=by
 refine zzC (by simp[z]) λi h1 h2=>?_;obtain⟨l,q,e2⟩:=h i acc[i] (by simp);rw[e2];have h3:i<ls.length:=by omega
 have:ls[i]=l:=by
  rw[zh h3]at q;exact zw q
 simp[this]
inductive Ma(A:Adr)(vs:List V)(H:Hp)(Q:VK)(E:XK):Prop
 |mk (q:Addr) (ls:RL) (_:vs=[.ref q]) (_:H q=some (.lst (jB ls))) (_:kY A H ls) (_:ls.length<=100) (_:∀H',Same H H'->Q (.int ((ls.map (·.2)).map jz.c).sum) H'):Ma A vs H Q E
def Er(T:Txt K mg A D):jQ P w K mg base CX0 1 A.abQ D.abQ ["lots"] (Ma A):=by
 refine T.adX.F.okv VR λ_ _ _ _ H vs Q E hr h=>?_
 ·obtain⟨q,ls,rfl,hq,hL,hl,k⟩:=h
  refine⟨_,(iG (iY (jt (mO (K:=K) rfl) (by rfl) T.ae8 (by decide+kernel) (iz (jO (cap:=[none]) (N':=["lot"]) rfl (by walk_at "c") (jW (K:=K) (pv 0)) (λ_ _ _ _=>(iW (i:=0) nd1 rfl orl orr)) (λ_ _ _ _=>jP) (λ_ _ _ _=>(fv K 0))) iD)))),?_⟩;walk_at "a";refine⟨⟨_,iQ hq⟩,?_⟩;refine lu.listE (K:=K) (λσ=>∃a,σ=[a]) (λi v _=>∃l,ls[i]? =some l/\v=.int l.2.c) (iQ hq) ⟨_,rfl⟩ (by rw[jc,zq];omega) ?_ ?_
  ·rintro Da i x hx σ H5 R ⟨_,rfl⟩ sm hD _ kk
   obtain⟨l,z,rfl⟩:=jU hx;obtain⟨dx,ab⟩:=(hL l (get_mem z)).same sm;walk_at "i";exact rd ab T.agD T.agH (by rfl) (kk _ _ H5 ⟨_,rfl⟩ (same_refl _) λH' _=>⟨l,z,rfl⟩)
  ·intro Da H' acc hD sm hA aa hF
   rw[Cy (f:=λl=>l.2.c) (by rw[aa,jc]) hF]at hA;have ec:(ls.map (·.2)).map jz.c=ls.map (λl=>l.2.c):=by rw[zx];rfl
   rw[ec]at k;walk_at "a";exact⟨_,iQ hA,k H' sm⟩
inductive Fq(A:Adr)(vs:List V)(H:Hp)(Q:VK)(E:XK):Prop
 |mk (q:Addr) (ls:RL) (_:vs=[.ref q]) (_:H q=some (.lst (jB ls))) (_:kY A H ls) (_:ls.length<=100) (_:∀H',Same H H'->Q (.int ((ls.map (·.2)).map jz.p).sum) H'):Fq A vs H Q E
def Ou(T:Txt K mg A D):jQ P w K mg base CX0 1 A.ack D.ack ["lots"] (Fq A):=by
 refine T.aeq.F.okv QQ λ_ _ _ _ H vs Q E hr h=>?_
 ·obtain⟨q,ls,rfl,hq,hL,hl,k⟩:=h
  refine⟨_,(iG (iY (jt (mO (K:=K) rfl) (by rfl) T.ae8 (by decide+kernel) (iz (jO (cap:=[none]) (N':=["lot"]) rfl (by walk_at "c") (jW (K:=K) (pv 0)) (λ_ _ _ _=>(iW (i:=0) nd1 rfl orl orr)) (λ_ _ _ _=>jP) (λ_ _ _ _=>(fv K 0))) iD)))),?_⟩;walk_at "a";refine⟨⟨_,iQ hq⟩,?_⟩;refine lu.listE (K:=K) (λσ=>∃a,σ=[a]) (λi v _=>∃l,ls[i]? =some l/\v=.int l.2.p) (iQ hq) ⟨_,rfl⟩ (by rw[jc,zq];omega) ?_ ?_
  ·rintro Da i x hx σ H5 R ⟨_,rfl⟩ sm hD _ kk
   obtain⟨l,z,rfl⟩:=jU hx;obtain⟨dx,ab⟩:=(hL l (get_mem z)).same sm;walk_at "i";exact rd ab T.agD T.agG (by rfl) (kk _ _ H5 ⟨_,rfl⟩ (same_refl _) λH' _=>⟨l,z,rfl⟩)
  ·intro Da H' acc hD sm hA aa hF
   rw[Cy (f:=λl=>l.2.p) (by rw[aa,jc]) hF]at hA;have ec:(ls.map (·.2)).map jz.p=ls.map (λl=>l.2.p):=by rw[zx];rfl
   rw[ec]at k;walk_at "a";exact⟨_,iQ hA,k H' sm⟩
theorem ail{H:Hp}:∀{acc:List V}{ls:RL},acc.length=ls.length->(∀(i:Nat) v,acc[i]? =some v->∃b l d,ls[i]? =some l/\v=.ref b/\mL A H b d/\d.n=l.2.n/\d.p=l.2.p)->∃q:RL,acc=jB q/\kY A H q/\Sim ls q
 |[],ls,hl,_=>by
  cases ls with
  |nil=>exact⟨[],rfl,λr h=>(zn h).elim,rfl⟩
  |cons _ _=>simp at hl
 |v::acc,ls,hl,h=>by
  cases ls with
  |nil=>simp at hl
  |cons l ls=>
   obtain⟨b,l',d,e,rfl,hb,e1,e2⟩:=h 0 v rfl;cases e;obtain⟨q,g1,g2,g3⟩:=ail (acc:=acc) (ls:=ls) (by simpa using hl) λi v hv=>h (i+1) v hv;refine⟨(b,d)::q,by rw[g1];rfl,λr z=>?_,?_⟩
   ·rcases zu.mp z with rfl|z
    ·exact hb
    ·exact g2 r z
   ·show VP (b,d)::q.map VP=VP l::ls.map VP
    rw[g3];unfold VP;rw[e1,e2]
inductive Oe(A:Adr)(vs:List V)(H:Hp)(Q:VK)(E:XK):Prop
 |mk (x q:Addr) (ls:RL) (_:vs=[.ref x,.ref q]) (_:H q=some (.lst (jB ls))) (_:kY A H ls) (_:ls.length<=100) (_:(∀l∈ls,1<=l.2.p)) (_:pcs ls<2^60) (_:∀p ms H',Same H H'->H p=none->H' p=some (.lst (jB ms))->kY A H' ms->Sim ls ms->Q (.ref p) H'):Oe A vs H Q E
def qC(T:Txt K mg A D):jQ P w K mg base CX0 1 A.abP D.abP ["self", "lots"] (Oe A):=by
 refine T.adW.okv JN λ_ _ _ _ H vs Q E hr h=>?_
 ·obtain⟨x,q,ls,rfl,hq,hL,hl,z,hs,k⟩:=h
  refine⟨_,(iG (iY (nq (xU (K:=K)) (by rfl) T.ae4 (by decide+kernel) (pav 1 iD)))),?_⟩;simp only[start_eq];walk_at "i";exact⟨_,.inl (iQ hq),λp z=>k p ls _ (iM z) z iH (hL.same (iM z)) rfl⟩
def Ga(T:Txt K mg A D):jQ P w K mg base CX0 3 A.abR D.abR ["self", "lots"] (Oe A):=by
 refine T.adY.okv uY λ_ _ _ _ H vs Q E hr h=>?_
 ·obtain⟨x,q,ls,rfl,hq,hL,hl,hp,hs,k⟩:=h
  refine ⟨_,(iB (jX (jl (mW) (jt (nA (K:=K)) (by rfl) T.ae3 (by decide+kernel) (pav 1 iD)) iJ (jr _)) (iG (iY (kW iD))) jx)
   (iB (ji (i:=2) uY.nd rfl orl (pcg (Ux T) hr T.adU (WP T) (iz (pcg (Er T) hr T.adX (JZ T) (pav 1 iD)) (iz (jO (cap:=[none]) (N':=["lot"]) rfl (by walk_at "c") (jW (K:=K) (pv 1)) (λ_ _ _ _=>(iW (i:=0) nd1 rfl orl orr)) (λ_ _ _ _=>jP) (λ_ _ _ _=>(fv K 0))) iD))))
   (iG (iY (jO (cap:=[none,none]) (N':=["lot", "cost"]) rfl (by walk_at "c") (Lf (K:=K) (by rfl) T.ae6 (pav 1 (pav 2 iD))) (λ_ _ _ _=>(nO (K:=K) (n:=2) rfl (jy (iW (i:=0) (show(["lot", "cost"]:List Str).Nodup from by decide+kernel) rfl orl orr) (jy (iW (i:=1) (show(["lot", "cost"]:List Str).Nodup from by decide+kernel) rfl orl orr) nM)))) (λ_ _ _ _=>jP) (λ_ _ _ _=>(lR T.ag5 (jT (K:=K) T) (hr.mono (by decide)) (by rfl) T.afs (jY T) .nil jL (iz (fv K 0) (iz (fv K 0) (iz (fv K 0) (pav 1 iD))))))))))),?_⟩
  simp only[start_eq];walk_at "n";refine⟨_,.inl (iQ hq),?_⟩;rw[jc];have lz:∀n:Nat,n<=1000->n<=sizeLine:=λn h=>by rw[zq];omega
  by_cases h0:ls=[]
  ·subst h0
   rw[zo (by simp)];exact⟨lz _ (by decide),λp hp=>k p [] _ (iM hp) hp iH (λr h=>(zn h).elim) rfl⟩
  ·have ar:0<ls.length:=yt.mpr h0
   rw[ze (by omega)];have ad:=Bs hp;walk_at "n";refine⟨q,ls,rfl,hq,hL,hl,λH1 s1=>⟨⟨_,iQ (s1 _ _ hq)⟩,?_⟩⟩;refine lu.listE (K:=K) (λσ=>∃a,σ=[a]) (λi v _=>∃l,ls[i]? =some l/\v=.int l.2.p) (iQ (s1 _ _ hq)) ⟨_,rfl⟩ (lz _ (by rw[jc];omega)) ?_ ?_
   ·rintro Da i x hx σ H5 R ⟨_,rfl⟩ sm hD _ kk
    obtain⟨l,ab,rfl⟩:=jU hx;obtain⟨dx,aa⟩:=(hL l (get_mem ab)).same (s1.trans sm);walk_at "i";exact rd aa T.agD T.agG (by rfl) (kk _ _ H5 ⟨_,rfl⟩ (same_refl _) λH' _=>⟨l,ab,rfl⟩)
   ·intro Da H2 acc hD sm hA af an
    rw[Cy (f:=λl=>l.2.p) (by rw[af,jc]) an]at hA;have S2:=s1.trans sm;refine⟨_,Da,_,rfl,iQ hA,λy hy=>?_,by show 0<pcs ls;omega,by rw[za];omega,by show pcs ls<2^63;omega,λpc H3 s3 au ae=>?_⟩
    ·obtain⟨l,ab,rfl⟩:=zi.mp hy
     have:=hp l ab;omega
    have S3:=S2.trans s3
    try dsimp only
    rw[ap_ret];walk_at "i";refine⟨⟨_,iQ (S3 _ _ hq)⟩,⟨_,iQ ae⟩,?_⟩;obtain⟨cs,ai⟩:∃cs,cs=shares ((ls.map (·.2)).map jz.c).sum (ls.map λl=>l.2.p).sum 0 (ls.map λl=>l.2.p):=⟨_,rfl⟩;have aj:cs.length=ls.length:=by rw[ai,xY,za]
    rw[<-ai]at ae;refine lu.zipE (K:=K) (λσ=>∃a b,σ=[a,b]) (λi v H'=>∃b l d,ls[i]? =some l/\v=.ref b/\mL A H' b d/\d.n=l.2.n/\d.p=l.2.p) (iQ (S3 _ _ hq)) (iQ ae) (by rw[jc,za,aj]) ⟨_,_,rfl⟩ (lz _ (by rw[jc];omega)) ?_ ?_
    ·rintro Db i x y hx hy σ H5 p R ⟨_,_,rfl⟩ ak ah ⟨ajr,am⟩ hp kk
     obtain⟨l,ab,rfl⟩:=jU hx;obtain⟨c,rfl,hc⟩:=Bf hy;obtain⟨dx,aa⟩:=(hL l (get_mem ab)).same (S3.trans ak);have aa:=iM (o:=.tup [V.ref l.1,V.int c]) hp _ _ aa;have ad:(upd H5 p (.tup [V.ref l.1,V.int c])) p=some (.tup [V.ref l.1,V.int c]):=iH;have ag:=iM (o:=.tup [V.ref l.1,V.int c]) hp _ _ am;generalize upd H5 p (.tup [V.ref l.1,V.int c])=H6 at aa ad ag kk;walk_at "i";refine⟨_,jD ad,rfl,_,_,rfl,_,_,rfl,rfl,?_⟩;refine rd aa T.agD T.agE (by rfl) (rd aa T.agD T.agF (by rfl) (rd aa T.agD T.agG (by rfl) (λz dz hz ap _=>?_)));exact qb (A:=A) ⟨l.2.n,l.2.s,l.2.p,c⟩ hz ap λH7 s7 hZ=>kk (.ref z) _ H7 ⟨_,_,rfl⟩ s7 λH' hb=>⟨z,l,_,ab,rfl,hZ.but (λe=>by rw[e,ag]at hz;cases hz) hb,rfl,rfl⟩
    ·intro Db H4 as ah aq al ac ao
     rw[jc]at ac;obtain⟨ms,q1,q2,q3⟩:=ail ac ao;exact k Db ms H4 (S3.trans aq) (S3.free ah) (q1▸al) q2 q3
inductive vh(A:Adr)(vs:List V)(H:Hp)(Q:VK)(E:XK):Prop
 |mk (x y:Addr) (d e:jz) (_:vs=[.ref x,.ref y]) (_:mL A H x d) (_:mL A H y e) (_:Ab d.c e.p) (_:Ab e.c d.p) (_:Q (.bl (decide (d.c*e.p>e.c*d.p))) H):vh A vs H Q E
def GC(T:Txt K mg A D):jQ P w K mg base CX0 1 A.abX D.abX ["self", "other"] (vh A):=by
 refine T.ad4.ok Gf (by walk_at "v") (λ_ _ _ s H vs Q E hr h=>?_)
 ·obtain⟨x,y,⟨n,s,p,c⟩,⟨n',s',p',c'⟩,rfl,⟨dx,z⟩,⟨dy,q⟩,m1,m2,k⟩:=h
  refine⟨_,(iG (iY (uU (Ke) (ju mH (fv K 0) (fv K 1)) (ju mH (fv K 1) (fv K 0)) (jr _)))),?_⟩;walk_at "a";refine rd z T.agD T.agH (by rfl) (?_);refine rd q T.agD T.agG (by rfl) (?_);exact⟨_,rfl,_,rfl,m1,rd q T.agD T.agH (by rfl) (rd z T.agD T.agG (by rfl) ⟨_,rfl,_,rfl,m2,k⟩)⟩
abbrev PL:=List (Addr×Int×Int)
noncomputable def Lb(ps:PL):List V:=ps.map λr=>V.ref r.1
noncomputable def alk(H:Hp)(ps:PL):Prop:=∀r∈ps,H r.1=some (.tup [.int r.2.1,.int r.2.2])
def Yq{ps:PL}{i:Nat}{y:V}(h:(Lb ps)[i]? =some y):∃r,ps[i]? =some r/\y=.ref r.1:=by
 unfold Lb at h;rw[zd]at h
 cases e:ps[i]? with
 |none=>rw[e]at h;cases h
 |some r=>rw[e]at h;exact⟨r,rfl,(zw h).symm⟩
def NZ(ps:PL):(Lb ps).length=ps.length:=by unfold Lb;rw[za]
noncomputable def Km:List jz->Int->List (Int×Int)
 |[],_=>[]
 |d::ds,w=>if w<=0 then[]else(d.n,min d.p w)::Km ds (w - min d.p w)
def Zj{ds:List jz}{w:Int}(h:w<=0):Km ds w=[]:=by
 cases ds with
 |nil=>rfl
 |cons d ds=>rw[Km,zo h]
inductive uW(A:Adr)(vs:List V)(H:Hp)(Q:VK)(E:XK):Prop
 |mk (q:Addr) (ls:RL) (w:Int) (_:vs=[.ref q,.int w]) (_:H q=some (.lst (jB ls))) (_:kY A H ls) (_:ls.length<=100) (_:∀pk ps H',Same H H'->H pk=none->H' pk=some (.lst (Lb ps))->alk H' ps->ps.map (·.2)=Km (ls.map (·.2)) w->Q (.ref pk) H'):uW A vs H Q E
def pM(T:Txt K mg A D):jQ P w K mg base CX0 1 A.abU D.abU ["lots", "pieces"] (uW A):=by
 refine T.ad1.F.okv lB λ_ _ _ _ H vs Q E hr h=>?_
 ·obtain⟨q,ls,w,rfl,hq,hL,hl,k⟩:=h
  refine ⟨_,(iB (ji (i:=2) lB.nd rfl orl (kW iD))
   (iB (ji (i:=3) lB.nd rfl orl (pvD 1))
   (iB (oE zQ rfl (jW (K:=K) (pv 0)) (iW (i:=4) lB.nd rfl orl)
    (iB (jX (jl (aiy) (pvD 3) iJ (jr _)) (iG (aaD)) jx)
    (iB (ji (i:=5) lB.nd rfl orl (jt (Qp rfl) (by rfl) T.afa (by decide+kernel) (iz (fv K 4) (pav 3 iD))))
    (iB (jo (qx (K:=K) zH zR zS mD (pvD 2) (iz (lY (iz (fv K 4) (pav 5 iD))) iD)))
    (iG (ji (i:=3) lB.nd rfl orl (ju pY (pvD 3) (pvD 5))))))))
   (iG (iY (pvD 2)))))),?_⟩
  simp only[start_eq];walk_at "m";refine⟨sz,λpk aa=>?_⟩;have S1:=iM (o:=.lst []) aa;have h1:(upd H pk (.lst [])) pk=some (.lst []):=iH;generalize upd H pk (.lst [])=H1 at S1 h1;walk_at "m";rw[ap_seq,ap_for];walk_at "i";refine⟨⟨_,iQ (S1 _ _ hq)⟩,?_⟩
  refine Gg.listN (K:=K) (a:=q) (xs:=jB ls) (λi σ Hx=>∃(ps:PL)(wx:Int)(v4 v5:Option V),σ=[some (.ref q),some (.int w),some (.ref pk),some (.int wx),v4,v5]/\Same H Hx/\Hx pk=some (.lst (Lb ps))/\alk Hx ps/\ps.length=i/\ps.map (·.2)++Km ((ls.map (·.2)).drop i) wx=Km (ls.map (·.2)) w)
   ⟨[],w,_,_,rfl,S1,h1,λr h=>(zn h).elim,rfl,rfl⟩ (λi σ Hx _ ⟨_,_,_,_,_,s,_⟩=>iQ (s _ _ hq)) ?_ ?_
  ·rintro i y σ Hx hy ⟨ps,wx,v4,v5,rfl,Sx,z,hP,ad,he⟩ N hN
   obtain⟨l,ac,rfl⟩:=jU hy;obtain⟨dy,ae⟩:=(hL l (get_mem ac)).same Sx;have af:i<ls.length:=(zk.mp ac).1
   have hd:(ls.map (·.2)).drop i=l.2::(ls.map (·.2)).drop (i+1):=by
    rw[zzQ (by simpa using af)];congr 1;rw[yE,(zk.mp ac).2]
   walk_at "i";walk_at "m";by_cases hw:wx<=0
   ·rw[zo hw]
    refine k pk ps Hx Sx aa z hP ?_;rw[Zj hw,z5]at he;exact he
   ·rw[ze hw]
    walk_at "m";refine rd ae T.agD T.agG (by rfl) (?_);refine⟨_,_,rfl,?_⟩;walk_at "m";refine⟨.inl ⟨rfl,_,iQ z⟩,rd ae T.agD T.agE (by rfl) ⟨sz,λt ht=>⟨_,iM ht _ _ z,by rw[NZ,zq];omega,?_⟩⟩⟩;have em:(if wx<l.2.p then wx else l.2.p)=min l.2.p wx:=by split<;>omega
    rw[em];have ab:=iM (o:=.tup [V.int l.2.n,V.int (min l.2.p wx)]) ht;have ag:pk≠t:=jN z ht;refine hN _ _ ⟨ps++[(t,l.2.n,min l.2.p wx)],_,_,_,rfl,(Sx.trans ab).upd aa,?_,λr hr=>?_,by rw[zA,ad];rfl,?_⟩
    ·rw[iH];unfold Lb;rw[zv];rfl
    ·rcases zK.mp hr with hr|hr
     ·have e1:=hP r hr
      exact(iU λe=>by rw[e,z]at e1;cases e1).trans (ab _ _ e1)
     ·obtain rfl:=zC.mp hr
      exact(iU ag.symm).trans iH
    ·rw[hd,Km,ze hw]at he
     rw[zv,yW,<-he];rfl
  ·rintro σ Hx ⟨ps,wx,v4,v5,rfl,Sx,z,hP,ad,he⟩
   walk_at "a";refine k pk ps Hx Sx aa z hP ?_;rw[zzt (by rw[za,jc];exact zg _),Km,z5]at he;exact he
structure PkS(ls:RL)(ks:List (Int×Int))(w:Int):Prop where
 u:(ks.map (·.1)).Nodup
 h:∀k∈ks,∃l∈ls,l.2.n=k.1/\1<=k.2/\k.2<=l.2.p
 s:(ks.map (·.2)).sum=w
def PkS.perm{ls q:RL}{ks:List (Int×Int)}{w:Int}(h:PkS ls ks w)(p:ls.Perm q):PkS q ks w:=⟨h.u,λk z=>let⟨l,a,b⟩:=h.h k z;⟨l,p.mem_iff.mp a,b⟩,h.s⟩
theorem xO:∀{ls:RL}{w:Int},(ls.map (·.2.n)).Nodup->(∀l∈ls,1<=l.2.p)->0<=w->w<=pcs ls->PkS ls (Km (ls.map (·.2)) w) w
 |[],w,_,_,h0,h1=>by
  have:w=0:=by have:pcs []=0:=rfl;omega
  subst this;exact⟨.nil,λk h=>(zn h).elim,rfl⟩
 |l::ls,w,hu,hp,h0,h1=>by
  rw[zl,Km];split
  ·have:w=0:=by omega
   subst this;exact⟨.nil,λk h=>(zn h).elim,rfl⟩
  ·rename_i hw
   have hl:=hp l (.head _);rw[Nk]at h1;have hu':=zP.mp hu;have aa:=Bs (ls:=ls) λq hq=>hp q (.tail _ hq);have ih:=xO (ls:=ls) (w:=w - min l.2.p w) hu'.2 (λq hq=>hp q (.tail _ hq)) (by omega) (by omega);refine⟨zP.mpr ⟨λz=>?_,ih.u⟩,λk hk=>?_,?_⟩
   ·obtain⟨k,hk,e⟩:=zi.mp z
    obtain⟨q,hq,e2,_⟩:=ih.h k hk;exact hu'.1 (zi.mpr ⟨q,hq,e2.trans e⟩)
   ·rcases zu.mp hk with rfl|hk
    ·exact⟨l,.head _,rfl,by show 1<=min l.2.p w;omega,by show min l.2.p w<=_;omega⟩
    ·obtain⟨q,hq,r⟩:=ih.h k hk
     exact⟨q,.tail _ hq,r⟩
   ·rw[zl,zO,ih.s]
    show min l.2.p w+_=w;omega
inductive vo(A:Adr)(vs:List V)(H:Hp)(Q:VK)(E:XK):Prop
 |mk (q:Addr) (ls:RL) (_:vs=[.ref q]) (_:H q=some (.lst (jB ls))) (_:kY A H ls) (_:ls.length<=100) (_:(∀l∈ls,1<=l.2.p/\l.2.p<2^60)) (_:∀p ms H',Same H H'->H p=none->H' p=some (.lst (jB ms))->kY A H' ms->ms.Perm ls->Q (.ref p) H'):vo A vs H Q E
def Gr(T:Txt K mg A D):jQ P w K mg base CX0 2 A.abY D.abY ["lots"] (vo A):=by
 refine T.ad5.F.okv nG λ_ _ _ _ H vs Q E hr h=>?_
 ·obtain⟨q,ls,rfl,hq,hL,hl,hp,k⟩:=h
  refine ⟨_,(iB (ji (i:=1) nG.nd rfl orl (kW iD))
   (iB (oE zQ rfl (jW (K:=K) (pv 0)) (iW (i:=2) nG.nd rfl orr)
    (iB (oO (i:=3) nG.nd rfl rfl (cap:=[none,none,some 2]) (N':=["place", "other", "lot"]) rfl (by walk_at "c") (aiL (K:=K) (by rfl) T.afc (pav 1 iD)) (λ_ _ _ _=>(nO (K:=K) (n:=2) rfl (jy (iW (i:=0) (show(["place", "other", "lot"]:List Str).Nodup from by decide+kernel) rfl orl orr) (jy (iW (i:=1) (show(["place", "other", "lot"]:List Str).Nodup from by decide+kernel) rfl orl orr) nM)))) (λ_ _ _ _=>(BL (nD (jE (pv 2) (mc T.agD T.ahp (GC T) hr (Ht T) .nil) jL (pav 1 iD))))) (λ_ _ _ _=>(pvD 0)))
    (iG (jo (qx (K:=K) zH PySem.F.slot_list_insert PySem.F.type_list_insert YC (pvD 1) (iz (Zz (K:=K) (by rfl) (ajw rfl (by rfl) T.afa (pav 3 iD) (jt (nA (K:=K)) (by rfl) T.ae3 (by decide+kernel) (pav 1 iD)))) (pav 2 iD)))))))
   (iG (iY (pvD 1))))),?_⟩
  simp only[start_eq];walk_at "n";refine⟨sz,λpt af=>?_⟩;have S1:=iM (o:=.lst []) af;have h1:(upd H pt (.lst [])) pt=some (.lst []):=iH;generalize upd H pt (.lst [])=H1 at S1 h1
  try dsimp only
  rw[ap_seq,ap_for];walk_at "i";refine⟨⟨_,iQ (S1 _ _ hq)⟩,?_⟩
  refine Gg.listN (K:=K) (a:=q) (xs:=jB ls) (λi σ Hx=>∃(ts:RL)(v2 v3:Option V),σ=[some (.ref q),some (.ref pt),v2,v3]/\Same H Hx/\Hx pt=some (.lst (jB ts))/\ts.Perm (ls.take i))
   ⟨[],_,_,rfl,S1,h1,.refl _⟩ (λi σ Hx _ ⟨_,_,_,_,s,_⟩=>iQ (s _ _ hq)) ?_ ?_
  ·rintro i y σ Hx hi ⟨ts,v2,v3,rfl,Sx,hx,aa⟩ N hN
   obtain⟨l,ac,rfl⟩:=jU hi;obtain⟨dy,ag⟩:=(hL l (get_mem ac)).same Sx;have ao:i<ls.length:=(zk.mp ac).1;have aq:ts.length<=100:=by rw[aa.length_eq,zU];omega
   have al:∀m∈ts,m∈ls:=λm hm=>y6 (aa.mem_iff.mp hm);walk_at "n";refine⟨⟨_,iQ hx⟩,?_⟩;refine lu.enumI (K:=K) (λσ=>∃a b,σ=[a,b,some (.ref l.1)]) (λj=>((ts.map (·.2))[j]?).any λe=>decide (l.2.c*e.p>e.c*l.2.p)) (iQ hx) ⟨_,_,rfl⟩ (by rw[jc,zq];omega) ?_ ?_
   ·rintro j x an σ H5 qt R1 R2 ⟨_,_,rfl⟩ s5 ak k1 k2
    obtain⟨m,hm,rfl⟩:=jU an;have ah:=al m (get_mem hm);have p1:=hp l (get_mem ac);have p2:=hp m ah;walk_at "i";refine⟨_,jD ak,rfl,_,_,rfl,_,_,rfl,rfl,md (s5 _ _ ag) zj (by rfl) ⟨l.1,m.1,l.2,m.2,rfl,⟨dy,s5 _ _ ag⟩,(hL m ah).same (Sx.trans s5),vd (by omega) (by omega),vd (by omega) (by omega),_,rfl,?_⟩⟩;have ai:(((ts.map (·.2))[j]?).any λe=>decide (l.2.c*e.p>e.c*l.2.p))=decide (l.2.c*m.2.p>m.2.c*l.2.p):=by rw[zd,hm];rfl
    by_cases c:l.2.c*m.2.p>m.2.c*l.2.p
    ·rw[zo (zE c)]
     exact k1 (ai.trans (zE c)) _ H5 ⟨_,_,rfl⟩ (same_refl _)
    ·rw[ze (λz=>c (z8 z))]
     exact k2 (ai.trans (zI c)) _ H5 ⟨_,_,rfl⟩ (same_refl _)
   ·intro Dc H2 hD s2 ad
    rw[jc]at ad;obtain⟨js,ae⟩:∃js,js=(List.range ts.length).filter λj=>((ts.map (·.2))[j]?).any λe=>decide (l.2.c*e.p>e.c*l.2.p):=⟨_,rfl⟩;have aj:∀j∈js,j<ts.length:=λj hj=>yq.mp (yB.mp (ae▸hj)).1;have am:js.Pairwise (·<·):=ae▸List.pairwise_lt_range.filter _;rw[<-ae]at ad;have ab:=s2 _ _ hx
    (try dsimp only)
    walk_at "i";refine⟨.inl ⟨rfl,_,iQ ab⟩,_,.inl (iQ ab),js.map λi:Nat=>(i:Int),iQ (by rw[ad,zx];rfl),zW.mpr (am.imp λh=>by omega),?_⟩;rw[jc]
    obtain ⟨n0,e0,ap⟩:∃n0:Nat,(js.map λi:Nat=>(i:Int)).headD (ts.length:Int)=n0/\n0<=ts.length:=by
     cases js with
     |nil=>exact⟨ts.length,rfl,zg _⟩
     |cons j js=>exact⟨j,rfl,zz6 (aj j (.head _))⟩
    rw[e0];refine⟨pt,jB ts,(n0:Int),.ref l.1,rfl,rfl,ab,by omega,by rw[jc];omega,by omega,by rw[jc,zq];omega,hN _ _ ⟨ts.take n0++l::ts.drop n0,_,_,rfl,(Sx.trans s2).upd af,?_,?_⟩⟩
    ·rw[iH,zzS]
     unfold jB;rw[zv,zl,List.map_take,List.map_drop]
    ·rw[zN,ac]
     refine List.Perm.trans ?_ (aa.append_right _);refine List.perm_middle.trans ?_;rw[yV];exact(List.perm_append_singleton _ _).symm
  ·rintro σ Hx ⟨ts,v2,v3,rfl,Sx,hx,aa⟩
   walk_at "a";rw[jc,z0]at aa;exact k pt ts Hx Sx af hx (λr hr=>(hL r (aa.mem_iff.mp hr)).same Sx) aa
inductive Dm(A:Adr)(vs:List V)(H:Hp)(Q:VK)(E:XK):Prop
 |mk (x q:Addr) (ls:RL) (w:Int) (_:vs=[.ref x,.ref q,.int w]) (_:H q=some (.lst (jB ls))) (_:kY A H ls) (_:ls.length<=100) (_:(ls.map (·.2.n)).Nodup) (_:(∀l∈ls,1<=l.2.p/\l.2.p<2^60)) (_:0<=w) (_:w<=pcs ls) (_:∀pk ps H',Same H H'->H pk=none->H' pk=some (.lst (Lb ps))->alk H' ps->PkS ls (ps.map (·.2)) w->Q (.ref pk) H'):Dm A vs H Q E
def wA(T:Txt K mg A D):jQ P w K mg base CX0 2 A.abV D.abV ["self", "lots", "pieces"] (Dm A):=by
 refine T.ad2.okv HJ λ_ _ _ _ H vs Q E hr h=>?_
 ·obtain⟨x,q,ls,w,rfl,hq,hL,z,hu,hp,h0,h1,k⟩:=h
  refine⟨_,(iG (iY (pcg (pM T) hr T.ad1 (qp T) (pav 1 (pav 2 iD))))),?_⟩;simp only[start_eq];walk_at "i";exact⟨q,ls,w,rfl,hq,hL,z,λpk ps H' s hn h hP e=>k pk ps H' s hn h hP (e▸xO hu (λl z=>(hp l z).1) h0 h1)⟩
def Jh(T:Txt K mg A D):jQ P w K mg base CX0 2 A.abW D.abW ["self", "lots", "pieces"] (Dm A):=by
 refine T.ad3.okv JK λ_ _ _ _ H vs Q E hr h=>?_
 ·obtain⟨x,q,ls,w,rfl,hq,hL,hl,hu,hp,h0,h1,k⟩:=h
  refine⟨_,(iG (iY (pcg (pM T) hr T.ad1 (qp T) (iz (Rk (K:=K) (by rfl) (Vu rfl (by rfl) T.ae4 (by rfl) T.afb (pav 1 iD))) (pav 2 iD))))),?_⟩;simp only[start_eq];walk_at "i";refine⟨_,iQ hq,λl aa=>?_⟩;have z:=List.reverse_perm ls;have s1:=iM (o:=.lst (jB ls).reverse) aa;refine⟨l,ls.reverse,w,rfl,by rw[iH];unfold jB;rw[List.map_reverse],λr hr=>(hL r (z.mem_iff.mp hr)).same s1,by rw[z.length_eq];exact hl,λpk ps H' s hn h hP e=>k pk ps H' (s1.trans s) (s1.free hn) h hP (e▸(xO ((z.map (λl:Addr×jz=>l.2.n)).nodup_iff.mpr hu) (λl hl=>(hp l (z.mem_iff.mp hl)).1) h0 (by rw[Tq z];exact h1)).perm z)⟩
def Gp(T:Txt K mg A D):jQ P w K mg base CX0 3 A.abZ D.abZ ["self", "lots", "pieces"] (Dm A):=by
 refine T.ad6.okv Gd λ_ _ _ _ H vs Q E hr h=>?_
 ·obtain⟨x,q,ls,w,rfl,hq,hL,hl,hu,hp,h0,h1,k⟩:=h
  refine⟨_,(iG (iY (pcg (pM T) hr T.ad1 (qp T) (iz (pcg (Gr T) hr T.ad5 (Jx T) (pav 1 iD)) (pav 2 iD))))),?_⟩;simp only[start_eq];walk_at "i";refine⟨q,ls,rfl,hq,hL,hl,hp,λp ms H1 s1 ac aa ab z=>?_⟩;refine⟨p,ms,w,rfl,aa,ab,by rw[z.length_eq];exact hl,λpk ps H' s hn h hP e=>k pk ps H' (s1.trans s) (s1.free hn) h hP (e▸(xO ((z.map (λl:Addr×jz=>l.2.n)).nodup_iff.mpr hu) (λl hl=>(hp l (z.mem_iff.mp hl)).1) h0 (by rw[Tq z];exact h1)).perm z)⟩
abbrev Pk:=List (Int×Int)
noncomputable def nZ(ks:Pk)(d:jz):jz:=match ks.lookup d.n with
 |some w=>⟨d.n,d.s,d.p - w,d.c - d.c*w/d.p⟩
 |none=>d
noncomputable def Dk(ds:List jz)(k:Int×Int):jz:=match ds.find? (λd=>d.n==k.1)with
 |some d=>⟨d.n,d.s,k.2,d.c*k.2/d.p⟩
 |none=>⟨0,0,0,0⟩
noncomputable def QR(ks:Pk)(ds:List jz):List jz:=(ds.map (nZ ks)).filter λd=>decide (0<d.p)
structure Rv(ds:List jz):Prop where
 u:(ds.map jz.n).Nodup
 g:∀d∈ds,1<=d.p/\d.p<=100000000000
 l:ds.length<=60
structure ajI(ds:List jz)(ks:Pk):Prop where
 u:(ks.map (·.1)).Nodup
 h:∀k∈ks,∃d∈ds,d.n=k.1/\1<=k.2/\k.2<=d.p
noncomputable def kz(ds:List jz)(vs:List V):List (Key×V):=List.zipWith (λd v=>((Sum.inl d.n:Key),v)) ds vs
theorem WT:∀{ds:List jz}{vs:List V}{j:Nat}{d:jz}{v:V},(ds.map jz.n).Nodup->ds[j]? =some d->vs[j]? =some v->pG (kz ds vs) (Sum.inl d.n)=some v
 |[],_,_,_,_,_,h,_=>by simp at h
 |_::_,[],_,_,_,_,_,h=>by simp at h
 |d0::ds,v0::vs,0,d,v,_,h1,h2=>by
  cases h1;cases h2;exact lN rfl
 |d0::ds,v0::vs,j+1,d,v,hu,h1,h2=>by
  rw[zl,zP]at hu;have h1':ds[j]? =some d:=h1
  have q:¬((Sum.inl d0.n:Key)=Sum.inl d.n):=λe=>hu.1 (by
   have e':d0.n=d.n:=zzR e;rw[e'];exact zi.mpr ⟨d,zm h1',rfl⟩)
  show pG ((Sum.inl d0.n,v0)::kz ds vs) _=_;rw[lE q];exact WT hu.2 h1' h2
theorem aaY:∀{ds:List jz}{vs:List V}{j:Nat}{d:jz}{v':V},(ds.map jz.n).Nodup->ds[j]? =some d->(kz ds vs).map (λq=>if q.1=(Sum.inl d.n:Key)then(q.1,v')else q)=kz ds (vs.set j v')
 |[],_,_,_,_,_,h=>by simp at h
 |d0::ds,[],j,d,v',_,_=>by simp[kz]
 |d0::ds,v0::vs,0,d,v',hu,h1=>by
  cases h1;rw[zl,zP]at hu;show(if(Sum.inl d0.n:Key)=Sum.inl d0.n then((Sum.inl d0.n:Key),v')else _)::(kz ds vs).map _=(Sum.inl d0.n,v')::kz ds vs;rw[zo rfl];congr 1;refine(yj λq z=>?_).trans (List.map_id _);rw[ze]
  ·rfl
  ·intro e
   obtain⟨i,hi,e2⟩:=zZ z;have hd:i<ds.length:=by simp[kz]at hi;omega
   have:q.1=Sum.inl ds[i].n:=by rw[<-e2];simp[kz]
   rw[this]at e;exact hu.1 (by rw[<-zzR e];exact zi.mpr ⟨ds[i],yD hd,rfl⟩)
 |d0::ds,v0::vs,j+1,d,v',hu,h1=>by
  rw[zl,zP]at hu;have h1':ds[j]? =some d:=h1
  have aa:¬((Sum.inl d0.n:Key)=Sum.inl d.n):=λe=>hu.1 (by
   have e':d0.n=d.n:=zzR e;rw[e'];exact zi.mpr ⟨d,zm h1',rfl⟩)
  show(if(Sum.inl d0.n:Key)=Sum.inl d.n then _ else((Sum.inl d0.n:Key),v0))::(kz ds vs).map _=(Sum.inl d0.n,v0)::kz ds (vs.set j v');rw[ze aa,aaY hu.2 h1']
def akT{ds:List jz}{vs:List V}{j:Nat}{d:jz}{v q:V}(z:(ds.map jz.n).Nodup)(h1:ds[j]? =some d)(h2:vs[j]? =some v):putK (kz ds vs) (Sum.inl d.n) q=kz ds (vs.set j q):=by
 unfold putK;rw[zo (by rw[oY,WT z h1 h2];rfl)];exact aaY z h1
theorem Xi:∀{ds:List jz}{vs:List V}{n:Int},n∉ds.map jz.n->pG (kz ds vs) (Sum.inl n)=none
 |[],_,_,_=>rfl
 |_::_,[],_,_=>rfl
 |d::ds,v::vs,n,h=>by
  rw[zl,zu,not_or]at h;show pG ((Sum.inl d.n,v)::kz ds vs) _=_;rw[lE (λe=>h.1 (zzR e).symm)];exact Xi h.2
def akN{ds:List jz}{vs:List V}{d:jz}{v:V}(q:vs.length=ds.length)(h:d.n∉ds.map jz.n):putK (kz ds vs) (Sum.inl d.n) v=kz (ds++[d]) (vs++[v]):=by
 unfold putK;rw[ze (by rw[oY,Xi h];simp)];unfold kz;rw[List.zipWith_append q.symm];rfl
theorem Xr:∀{ds:List jz}{vs:List V},vs.length=ds.length->(kz ds vs).map (·.2)=vs
 |[],[],_=>rfl
 |[],_::_,h=>by simp at h
 |_::_,[],h=>by simp at h
 |d::ds,v::vs,h=>by
  show v::(kz ds vs).map (·.2)=_;rw[Xr (by simpa using h)]
def aib{ds:List jz}{vs:List V}(h:vs.length=ds.length):(kz ds vs).length=ds.length:=by simp[kz,h]
def QC{ks:Pk}{n:Int}(h:n∉ks.map (·.1)):ks.lookup n=none:=by
 induction ks with
 |nil=>rfl
 |cons k ks ih=>
  rw[zl,zu,not_or]at h;have e:(n==k.1)=false:=by simpa using h.1
  obtain⟨a,b⟩:=k;show(match n==a with|true=>some b|false=>ks.lookup n)=_;rw[show(n==a)=false from e];exact ih h.2
def QD{ks:Pk}{n w:Int}(m:Int):(ks++[(n,w)]).lookup m=match ks.lookup m with|some x=>some x|none=>if m=n then some w else none:=by
 induction ks with
 |nil=>
  show(match m==n with|true=>some w|false=>none)=_;by_cases e:m=n
  ·simp[e]
  ·have e':(m==n)=false:=by simpa using e
   rw[e'];simp[e]
 |cons k ks ih=>
  obtain⟨a,b⟩:=k;show(match m==a with|true=>some b|false=>(ks++[(n,w)]).lookup m)=match(match m==a with|true=>some b|false=>ks.lookup m)with|some x=>some x|none=>_
  cases m==a with
  |true=>rfl
  |false=>exact ih
def Jj{ks:Pk}{n w:Int}{d:jz}(h:d.n≠n):nZ (ks++[(n,w)]) d=nZ ks d:=by
 unfold nZ;rw[QD]
 cases ks.lookup d.n with
 |none=>simp[h]
 |some x=>rfl
def Tp{ks:Pk}{w:Int}{d:jz}(h:d.n∉ks.map (·.1)):nZ (ks++[(d.n,w)]) d=⟨d.n,d.s,d.p - w,d.c - d.c*w/d.p⟩:=by
 unfold nZ;rw[QD,QC h];simp
def Tj{ks:Pk}{d:jz}(h:d.n∉ks.map (·.1)):nZ ks d=d:=by
 unfold nZ;rw[QC h]
def some_at{ds:List jz}{d:jz}{w:Int}(q:(ds.map jz.n).Nodup)(h:d∈ds):Dk ds (d.n,w)=⟨d.n,d.s,w,d.c*w/d.p⟩:=by
 have:ds.find? (λe=>e.n==d.n)=some d:=by
  induction ds with
  |nil=>cases h
  |cons e ds ih=>
   rw[zl,zP]at q;rcases zu.mp h with rfl|h
   ·simp
   ·have:e.n≠d.n:=λz=>q.1 (by rw[z];exact zi.mpr ⟨d,h,rfl⟩)
    rw[List.find?_cons_of_neg (by simpa using this)];exact ih q.2 h
 unfold Dk;rw[this]
def SQ{ks:Pk}{i:Nat}{k:Int×Int}(h:(ks.map (·.1)).Nodup)(e:ks[i]? =some k):k.1∉(ks.take i).map (·.1):=by
 intro hm;have h2:ks.map (·.1)=(ks.take i).map (·.1)++(ks.drop i).map (·.1):=by rw[<-zv,yV]
 rw[h2]at h;exact(yY.mp h).2.2 _ hm k.1 (zi.mpr ⟨k,by rw[List.mem_iff_getElem?];exact⟨0,by rw[List.getElem?_drop];exact e⟩,rfl⟩) rfl
theorem Ol:∀{l k:List Int},l.Nodup->(∀x∈l,x∈k)->l.length<=k.length
 |[],_,_,_=>zJ _
 |x::l,k,h,s=>by
  have h':=zP.mp h;have z:x∈k:=s x (.head _);have:=Ol (l:=l) (k:=k.erase x) h'.2 λy q=>(List.mem_erase_of_ne (λe=>by subst e;exact h'.1 q)).mpr (s y (.tail _ q));rw[List.length_erase_of_mem z]at this;have hp:0<k.length:=List.length_pos_of_mem z;rw[zL];omega
def mL.put{H:Hp}{x l:Addr}{d:jz}{o:HO}(h:mL A H x d)(q:∀C dx fs,H l≠some (.ins C dx fs)):mL A (upd H l o) x d:=by
 obtain⟨dx,e⟩:=h;exact⟨dx,(iU λz=>q _ _ _ (z▸e)).trans e⟩
noncomputable def OkV(A:Adr)(H:Hp)(d:jz)(v:V):Prop:=(0<d.p/\∃x,v=.ref x/\mL A H x d)\/(d.p=0/\v=.non)
theorem OkV.same{H H':Hp}{d:jz}{v:V}(h:OkV A H d v)(s:Same H H'):OkV A H' d v:=h.imp (fun⟨a,x,e,l⟩=>⟨a,x,e,l.same s⟩) id
theorem OkV.put{H:Hp}{d:jz}{v:V}{l:Addr}{o:HO}(h:OkV A H d v)(q:∀C dx fs,H l≠some (.ins C dx fs)):OkV A (upd H l o) d v:=h.imp (fun⟨a,x,e,i⟩=>⟨a,x,e,i.put q⟩) id
theorem Yo{H:Hp}:∀{ds:List jz}{vs:List V},vs.length=ds.length->(∀(j:Nat) d v,ds[j]? =some d->vs[j]? =some v->OkV A H d v)->∃q:RL,(vs.filter λv=>decide (v≠.non))=jB q/\q.map (·.2)=(ds.filter λd=>decide (0<d.p))/\kY A H q
 |[],[],_,_=>⟨[],rfl,rfl,λr h=>(zn h).elim⟩
 |[],_::_,h,_=>by simp at h
 |_::_,[],h,_=>by simp at h
 |d::ds,v::vs,hl,h=>by
  obtain⟨q,e1,e2,e3⟩:=Yo (ds:=ds) (vs:=vs) (by simpa using hl) λj d v h1 h2=>h (j+1) d v h1 h2;rcases h 0 d v rfl rfl with⟨hp,x,rfl,hx⟩|⟨hp,rfl⟩
  ·refine⟨(x,d)::q,?_,?_,λr z=>?_⟩
   ·rw[yn (by simp),e1];rfl
   ·rw[yn (by simpa using hp),zl,e2]
   ·rcases zu.mp z with rfl|z
    ·exact hx
    ·exact e3 r z
  ·refine⟨q,?_,?_,e3⟩
   ·rw[yo (by simp),e1]
   ·rw[yo (by simp[hp]),e2]
noncomputable def kfH(H:Hp):V->Key
 |.ref b=>match H b with
  |some (.tup [.int n,_])=>Sum.inl n
  |_=>Sum.inl 0
 |_=>Sum.inl 0
noncomputable def vfH(H:Hp):V->V
 |.ref b=>match H b with
  |some (.tup [_,v])=>v
  |_=> .non
 |_=> .non
def aid{H:Hp}{b:Addr}{n:Int}{v:V}(h:H b=some (.tup [.int n,v])):kfH H (.ref b)=Sum.inl n:=by
 show(match H b with|some (.tup [.int n,_])=>Sum.inl n|_=>Sum.inl 0)=_;rw[h]
def aip{H:Hp}{b:Addr}{n:Int}{v:V}(h:H b=some (.tup [.int n,v])):vfH H (.ref b)=v:=by
 show(match H b with|some (.tup [_,v])=>v|_=> .non)=_;rw[h]
theorem WX{H:Hp}:∀{ls:RL}{ys:List V}{pre:RL},ys.length=ls.length->(∀(i:Nat) y,ys[i]? =some y->∃b l,ls[i]? =some l/\y=.ref b/\H b=some (.tup [.int l.2.n,.ref l.1]))->((pre++ls).map λr=>r.2.n).Nodup->
  ys.foldl (λa y=>putK a (kfH H y) (vfH H y)) (kz (pre.map (·.2)) (jB pre))=kz ((pre++ls).map (·.2)) (jB (pre++ls))
 |[],[],pre,_,_,_=>by rw[z5];rfl
 |[],_::_,_,h,_,_=>by simp at h
 |_::_,[],_,h,_,_=>by simp at h
 |l::ls,y::ys,pre,hl,h,hu=>by
  obtain⟨b,l',e1,rfl,q⟩:=h 0 y rfl;cases e1;rw[zzi,aid q,aip q]
  have hn:l.2.n∉(pre.map (·.2)).map jz.n:=by
   rw[zv,zl]at hu;intro hm;rw[zx]at hm;exact(yY.mp hu).2.2 _ hm _ zj rfl
  rw[akN (by rw[jc,za]) hn];have e2:pre.map (·.2)++[l.2]=(pre++[l]).map (·.2):=by rw[zv];rfl
  have e3:jB pre++[V.ref l.1]=jB (pre++[l]):=by unfold jB;rw[zv];rfl
  have z:pre++l::ls=(pre++[l])++ls:=by simp
  rw[e2,e3,z];exact WX (by simpa using hl) (λi y hy=>h (i+1) y hy) (z▸hu)
inductive Ay(A:Adr)(vs:List V)(H:Hp)(Q:VK)(E:XK):Prop
 |mk (q pk:Addr) (ls:RL) (ps:PL) (_:vs=[.ref q,.ref pk]) (_:H q=some (.lst (jB ls))) (_:kY A H ls) (_:H pk=some (.lst (Lb ps))) (_:alk H ps) (_:Rv (ls.map (·.2))) (_:ajI (ls.map (·.2)) (ps.map (·.2))) (_:∀t la lb l1 l2 H',Same H H'->H' t=some (.tup [.ref la,.ref lb])->H' la=some (.lst (jB l1))->H' lb=some (.lst (jB l2))->kY A H' l1->kY A H' l2->l1.map (·.2)=(ps.map (·.2)).map (Dk (ls.map (·.2)))->l2.map (·.2)=QR (ps.map (·.2)) (ls.map (·.2))->H la=none->H lb=none->la≠lb->Q (.ref t) H'):Ay A vs H Q E
def Kz(T:Txt K mg A D):jQ P w K mg base CX0 4 A.abT D.abT ["lots", "picks"] (Ay A):=by
 refine T.ad0.F.okv lJ λ_ _ _ _ H vs Q E hr h=>?_
 ·obtain⟨q,pk,ls,ps,rfl,hq,hL,bj,hP,hR,hK,k⟩:=h
  refine ⟨_,(iB (ji (i:=2) lJ.nd rfl orl (nq (qQ (K:=K) rfl) (by rfl) T.ae9 (by decide+kernel) (iz (jO (cap:=[none]) (N':=["lot"]) rfl (by walk_at "c") (jW (K:=K) (pv 0)) (λ_ _ _ _=>(iW (i:=0) nd1 rfl orl orr)) (λ_ _ _ _=>jP) (λ_ _ _ _=>(lY (iz (fv K 0) (pav 0 iD))))) iD)))
   (iB (ji (i:=3) lJ.nd rfl orl (kW iD))
   (iB (oE zQ rfl (jW (K:=K) (pv 1)) (nO (K:=K) (n:=2) rfl (jy (iW (i:=4) lJ.nd rfl orl) (jy (iW (i:=5) lJ.nd rfl orl) nM)))
    (iB (ji (i:=6) lJ.nd rfl orl (ZW (uF hr) (pvD 2) (pvD 4) ⟨rfl,rfl,rfl,rfl⟩))
    (iB (jX (PW.pt (Ey (jl (Fy) (pvD 6) nu (jr _)) (Ag (jl (Qz) (fv K 6) (pvD 5) (jr _))))) (iG (mJ)) jx)
    (iB (ji (i:=7) lJ.nd rfl orl (jE (pv 6) (mc T.agD T.aho (PB T) hr (Ry T) .nil) jL (pav 5 iD)))
    (iB (jo (qx (K:=K) zH zR zS mD (pvD 3) (iz (jF (jm (K:=K)) (pvD 7) iJ (λ_ _=>rfl)) iD)))
    (iG (Be (uF hr) (pvD 2) (pvD 4) (jF (jm (K:=K)) (pvD 7) iJ (λ_ _=>rfl)) rfl)))))))
   (iG (iY (lY (pav 3 (iz (jO (cap:=[none]) (N':=["lot"]) rfl (by walk_at "c") (WW (Ib (K:=K) yd zze PySem.F.type_dict_values Qk (pvD 2))) (λ_ _ _ _=>(iW (i:=0) nd1 rfl orl orr)) (λ_ _ _ _=>(BL (jl (Nh) (pvD 0) nu (jr _)))) (λ_ _ _ _=>(pvD 0))) iD)))))))),?_⟩
  simp only[start_eq];walk_at "m";have bz:ls.length<=60:=by have:=hR.l;rwa [za]at this
  refine⟨⟨_,iQ hq⟩,?_⟩;refine lu.listE (K:=K) (λσ=>∃a,σ=[a]) (λi v H'=>∃b l,ls[i]? =some l/\v=.ref b/\H' b=some (.tup [.int l.2.n,.ref l.1])) (iQ hq) ⟨_,rfl⟩ (by rw[jc,zq];omega) ?_ ?_
  ·rintro Da i x hx σ H5 R ⟨_,rfl⟩ sm hD ⟨acc,hA⟩ kk
   obtain⟨l,bl,rfl⟩:=jU hx;obtain⟨dx,al⟩:=(hL l (get_mem bl)).same sm;walk_at "i";exact rd al T.agD T.agE (by rfl) ⟨sz,λt ht=>kk (.ref t) _ _ ⟨_,rfl⟩ (iM ht) λH' hb=>⟨t,l,bl,rfl,hb _ _ (λe=>by rw[e,hA]at ht;cases ht) iH⟩⟩
  ·intro Da H1 acc hD s1 hA ap hF
   rw[jc]at ap;walk_at "i";obtain⟨ds,ab⟩:∃ds,ls.map (·.2)=ds:=⟨_,rfl⟩;obtain⟨ks,am⟩:∃ks,ps.map (·.2)=ks:=⟨_,rfl⟩;rw[ab,am]at hK;rw[ab]at hR;rw[ab,am]at k;have bv:ds.length=ls.length:=by rw[<-ab,za]
   refine⟨_,iQ hA,by omega,kfH H1,vfH H1,λy hy=>?_,λpd bq=>?_⟩
   ·obtain⟨i,hi,e⟩:=zZ hy
    obtain⟨b,l,_,h2,h3⟩:=hF i y (by rw[zh hi,e]);subst h2;exact⟨b,rfl,by rw[aid h3,aip h3];exact jD h3⟩
   have ez:Mt (kfH H1) (vfH H1) acc=kz ds (jB ls):=by
    rw[<-ab];refine WX (pre:=[]) ap hF ?_;have:=hR.u;rw[<-ab,zx]at this;exact this
   rw[ez];have S2:=s1.trans (iM (o:=.dK (kz ds (jB ls))) bq);have as:(upd H1 pd (.dK (kz ds (jB ls)))) pd=some (.dK (kz ds (jB ls))):=iH;have bo:=s1.free bq;generalize upd H1 pd _=H2 at S2 as;walk_at "m";refine⟨sz,λpt aj=>?_⟩;have S3:=S2.trans (iM (o:=.lst []) aj);have bb:(upd H2 pt (.lst [])) pt=some (.lst []):=iH;have bf:=iM (o:=.lst []) aj _ _ as;have bk:=S2.free aj;have aq:pd≠pt:=jN as aj;generalize upd H2 pt _=H3 at S3 bb bf;rw[ap_seq,ap_for];walk_at "i";refine⟨⟨_,iQ (S3 _ _ bj)⟩,?_⟩
   refine Gg.listN (K:=K) (a:=pk) (xs:=Lb ps) (λi σ Hx=>∃(vs:List V)(l1:RL)(w4 w5 w6 w7:Option V),σ=[some (.ref q),some (.ref pk),some (.ref pd),some (.ref pt),w4,w5,w6,w7]/\Same H Hx/\vs.length=ds.length/\Hx pd=some (.dK (kz ds vs))/\Hx pt=some (.lst (jB l1))/\kY A Hx l1/\
    l1.map (·.2)=(ks.take i).map (Dk ds)/\∀(j:Nat) d v,ds[j]? =some d->vs[j]? =some v->OkV A Hx (nZ (ks.take i) d) v) ⟨jB ls,[],_,_,_,_,rfl,S3,by rw[jc,bv],bf,bb,λr h=>(zn h).elim,rfl,λj d v h1 h2=>?_⟩ (λi σ Hx _ ⟨_,_,_,_,_,_,_,s,_⟩=>s.seq (iQ bj)) ?_ ?_
   ·obtain⟨l,e1,rfl⟩:=jU h2
    have e2:ds[j]? =some l.2:=by rw[<-ab,zd,e1];rfl
    rw[h1]at e2;cases e2;refine .inl ⟨?_,l.1,rfl,(hL l (get_mem e1)).same S3⟩;have:=(hR.g l.2 (zm h1)).1;show 0<l.2.p;omega
   ·rintro i y σ H4 hy ⟨vs,l1,w4,w5,w6,w7,rfl,S4,ac,aa,ai,ay,ag,af⟩ N hN
    obtain⟨r,bi,rfl⟩:=Yq hy;have ba:ks[i]? =some r.2:=by rw[<-am,zd,bi];rfl
    obtain⟨d,hd,ax,b0,b2⟩:=hK.h r.2 (zm ba);obtain⟨j,hj,ej⟩:=zZ hd;have ae:ds[j]? =some d:=by rw[zh hj,ej]
    have av:vs[j]? =some (vs[j]'(by omega)):=by simp
    have ao:d.n∉(ks.take i).map (·.1):=by rw[ax];exact SQ hK.u ba
    have hg:=hR.g d hd;have bm:=af j d _ ae av;rw[Tj ao]at bm;have an:=WT (v:=vs[j]'(by omega)) hR.u ae av
    obtain ⟨x,ex,hx⟩:∃x,vs[j]'(by omega)=.ref x/\mL A H4 x d:=by
     rcases bm with⟨_,x,e,h⟩|⟨e,_⟩
     ·exact⟨x,e,h⟩
     ·omega
    rw[ex]at an;obtain⟨dx,al⟩:=id hx;have bp:=S4 _ _ (hP r (zm bi));rw[<-ax]at bp;walk_at "i";refine⟨_,jD bp,rfl,_,_,rfl,_,_,rfl,rfl,?_⟩;walk_at "m";refine⟨.inl ⟨_,.inl aa⟩,_,Ln (k:=Sum.inl d.n) aa,?_⟩;rw[an];simp only[Option.getD_some];walk_at "m";refine rd al T.agD T.agG (by rfl) ⟨_,rfl,?_⟩;rw[ze (by show¬(d.p<r.2.2);omega)];walk_at "m";refine md al zj (by rfl) ⟨x,d,r.2.2,rfl,hx,vd (by omega) (by omega),⟨by omega,?_⟩,λt y v' H5 s5 bg ad hY f1 f2=>?_⟩
    ·have:d.p.natAbs<2^40:=by omega
     exact zG this (yI (by decide) (by decide))
    walk_at "m";have S5:=S4.trans s5;have ar:=s5 _ _ ai;have br:=s5 _ _ aa;have bu:t≠pt:=λe=>by rw[e,ai]at bg;cases bg
    have bh:(upd H5 pt (.lst (jB l1++[V.ref y]))) pd=some (.dK (kz ds vs)):=(iU aq).trans br;have ah:∀C dx fs,H5 pt≠some (.ins C dx fs):=λ_ _ _=>by rw[ar];simp
    have ak:∀C dx fs,(upd H5 pt (.lst (jB l1++[V.ref y]))) pd≠some (.ins C dx fs):=λ_ _ _=>by rw[bh];simp
    have er:r.2=(d.n,r.2.2):=by rw[ax]
    have bc:ks.take (i+1)=ks.take i++[(d.n,r.2.2)]:=by rw[zN,ba,<-er];rfl
    have b1:l1.length<=60:=by
     have e1:=congrArg List.length ag;rw[za,za,zU]at e1
     have e2:ks.length<=ds.length:=by
      have:=Ol (l:=ks.map (·.1)) (k:=ds.map jz.n) hK.u λz hz=>by
       obtain⟨k0,bx,rfl⟩:=zi.mp hz;obtain⟨d0,bs,e0,_⟩:=hK.h k0 bx;exact zi.mpr ⟨d0,bs,e0⟩
      rwa [za,za]at this
     have:=hR.l;omega
    refine ⟨.inl ⟨rfl,_,iQ ar⟩,_,jD ad,_,rfl,_,ar,by rw[jc,zq];omega,_,jD ((iU bu).trans ad),_,rfl,_,.inl ⟨_,Sum.inl d.n,bh,rfl,by rw[aib ac,zq];have:=hR.l;omega,by rw[akT hR.u ae av]⟩,
     hN _ _ ⟨vs.set j v',l1++[(y,Dk ds (d.n,r.2.2))],_,_,_,_,rfl,(S5.upd bk).upd bo,by rw[List.length_set,ac],iH,?_,λz hz=>?_,?_,λj' d' v0 h1 h2=>?_⟩⟩
    ·rw[iU aq.symm,iH];unfold jB;rw[zv];rfl
    ·rcases zK.mp hz with hz|hz
     ·exact(((ay z hz).same s5).put ah).put ak
     ·obtain rfl:=zC.mp hz
      rw[some_at hR.u hd];exact(hY.put ah).put ak
    ·rw[zv,ag,bc,zv];rfl
    ·rw[bc]
     by_cases aw:j'=j
     ·subst aw
      rw[ae]at h1;cases h1;rw[zzo (by omega)]at h2;cases h2;rw[Tp ao];by_cases ew:r.2.2=d.p
      ·exact .inr ⟨by show d.p - r.2.2=0;omega,f1 ew⟩
      ·obtain⟨z,ez,hz⟩:=f2 ew
       exact .inl ⟨by show 0<d.p - r.2.2;omega,z,ez,(hz.put ah).put ak⟩
     ·rw[zzF (λe=>aw e.symm)]at h2
      have bw:d'.n≠d.n:=λe=>aw (by
       have hl1':j'<(ds.map jz.n).length:=by rw[za];exact(zk.mp h1).1
       refine(zzs hl1' hR.u).mp ?_;rw[zd,zd,h1,ae];show some d'.n=some d.n;rw[e])
      rw[Jj bw];exact(((af j' d' v0 h1 h2).same s5).put ah).put ak
   ·rintro σ H4 ⟨vs,l1,w4,w5,w6,w7,rfl,S4,ac,aa,ai,ay,ag,af⟩
    rw[NZ,show ps.length=ks.length by rw[<-am,za],z0]at ag af;walk_at "i";refine⟨.inr (.inr (.inl ⟨rfl,.inl ⟨_,aa⟩⟩)),_,aa,λv hv=>⟨pd,iH,_,(iU (jN aa hv)).trans aa,λo=>?_⟩⟩;have sv:=iM (o:=xF v pd) hv;have bt:=sv _ _ aa;have ni:∀C dx fs,(upd H4 v (xF v pd)) pd≠some (.ins C dx fs):=λ_ _ _=>by rw[bt];simp
    have S5:Same H (upd (upd H4 v (xF v pd)) pd (.frz o (.dK (kz ds vs)))):=(S4.trans sv).upd bo;have ad:(upd (upd H4 v (xF v pd)) pd (.frz o (.dK (kz ds vs)))) pt=some (.lst (jB l1)):=(iU aq.symm).trans (sv _ _ ai);have bn:kY A (upd (upd H4 v (xF v pd)) pd (.frz o (.dK (kz ds vs)))) l1:=λz hz=>((ay z hz).same sv).put ni;have bd:(upd (upd H4 v (xF v pd)) pd (.frz o (.dK (kz ds vs)))) pd=some (.frz o (.dK (kz ds vs))):=iH
    have be:∀(j:Nat) d v0,(ds.map (nZ ks))[j]? =some d->vs[j]? =some v0->OkV A (upd (upd H4 v (xF v pd)) pd (.frz o (.dK (kz ds vs)))) d v0:=λj d v0 h1 h2=>by
     rw[zd]at h1
     cases e:ds[j]? with
     |none=>rw[e]at h1;cases h1
     |some d0=>
      rw[e]at h1;cases h1;exact((af j d0 v0 e h2).same sv).put ni
    generalize upd (upd H4 v (xF v pd)) pd (.frz o (.dK (kz ds vs)))=H5 at S5 ad bn bd be;refine lu.vals (λσ=>∃a,σ=[a]) (λv=>decide (v≠.non)) id bd ⟨_,rfl⟩ (by rw[aib ac,zq];have:=hR.l;omega) ?_ ?_
    ·rintro x hx σ H6 R1 R2 ⟨_,rfl⟩ sm k1 k2
     walk_at "i";by_cases e:x=.non
     ·rw[ze (by simp[e])]
      exact k2 (by simp[e]) _ _ ⟨_,rfl⟩ (same_refl _)
     ·rw[zo (by simp[e])]
      exact k1 (by simp[e]) _ _ ⟨_,rfl⟩ (same_refl _)
    ·intro Da H6 az s6 au
     rw[Xr ac,List.map_id]at au;obtain⟨l2,e1,e2,e3⟩:=Yo (A:=A) (H:=H5) (ds:=ds.map (nZ ks)) (vs:=vs) (by rw[za,ac]) be;rw[e1]at au;refine⟨sz,λt ht=>?_⟩;have st:=iM (o:=.tup [V.ref pt,V.ref Da]) ht;have S6:=S5.trans (s6.trans st);exact k t pt Da l1 l2 _ S6 iH ((s6.trans st) _ _ ad) (st _ _ au) (bn.same (s6.trans st)) (e3.same (s6.trans st)) ag e2 bk (S5.free az) (λe=>by rw[<-e,ad]at az;cases az)
def alc{ds:List jz}(hu:(ds.map jz.n).Nodup){i j:Nat}{d e:jz}(h1:ds[i]? =some d)(h2:ds[j]? =some e)(q:i≠j):d.n≠e.n:=λz=>q (by
 have hl:i<(ds.map jz.n).length:=by rw[za];exact(zk.mp h1).1
 refine(zzs hl hu).mp ?_;rw[zd,zd,h1,h2];show some d.n=some e.n;rw[z])
def aal{ks:Pk}{n w:Int}(h:ks.lookup n=some w):(n,w)∈ks:=by
 induction ks with
 |nil=>cases h
 |cons k ks ih=>
  obtain⟨a,b⟩:=k;have h':(match n==a with|true=>some b|false=>ks.lookup n)=some w:=h;by_cases e:n=a
  ·have e':(n==a)=true:=by simpa using e
   rw[e']at h';cases h';rw[e];exact zj
  ·have e':(n==a)=false:=by simpa using e
   rw[e']at h';exact zp _ (ih h')
def ajW{ds:List jz}(hu:(ds.map jz.n).Nodup){d e:jz}(h1:d∈ds)(h2:e∈ds)(h:d.n=e.n):d=e:=by
 obtain⟨i,hi,q⟩:=zZ h1;obtain⟨j,hj,ej⟩:=zZ h2
 have:i=j:=by
  by_cases z:i=j
  ·exact z
  ·exact(alc hu (by rw[zh hi,q]) (by rw[zh hj,ej]) z h).elim
 subst this;rw[<-q,<-ej]
def xN{ds:List jz}{ks:Pk}(q:Rv ds)(hK:ajI ds ks){d:jz}(hd:d∈ds):(nZ ks d).n=d.n/\(0<=(nZ ks d).p/\(nZ ks d).p<=100000000000)/\(¬0<(nZ ks d).p->(nZ ks d).p=0/\(nZ ks d).c=0):=by
 have hg:=q.g d hd;unfold nZ
 cases e:ks.lookup d.n with
 |none=>exact⟨rfl,⟨by show 0<=d.p;omega,hg.2⟩,λh=>absurd (show 0<d.p by omega) h⟩
 |some w=>
  obtain⟨d',h1,h2,z,h4⟩:=hK.h _ (aal e);obtain rfl:=ajW q.u h1 hd h2;have h4:w<=d'.p:=h4;have z:1<=w:=z;refine⟨rfl,⟨by show 0<=d'.p - w;omega,by show d'.p - w<=_;omega⟩,λh=>?_⟩;have h:¬0<d'.p - w:=h;have ew:w=d'.p:=by omega
  refine⟨by show d'.p - w=0;omega,?_⟩;show d'.c - d'.c*w/d'.p=0;rw[ew,Int.mul_ediv_cancel _ (by omega)];omega
theorem xT{f g:jz->Int}:∀{ds:List jz}{d0:jz},(ds.map jz.n).Nodup->d0∈ds->(∀d∈ds,d.n≠d0.n->f d=g d)->(ds.map f).sum=(ds.map g).sum - g d0+f d0
 |[],_,_,h,_=>by cases h
 |d::ds,d0,hu,h,hf=>by
  rw[zl,zP]at hu;rw[zl,zl,zO,zO];rcases zu.mp h with rfl|h
  ·have:ds.map f=ds.map g:=yj λe q=>hf e (zp _ q) λz=>hu.1 (by rw[<-z];exact zi.mpr ⟨e,q,rfl⟩)
   rw[this];omega
  ·have h1:=xT hu.2 h λe q=>hf e (zp _ q)
   have h2:=hf d zj λz=>hu.1 (by rw[z];exact zi.mpr ⟨d0,h,rfl⟩);rw[h1,h2];omega
theorem Px{ds:List jz}{ks:Pk}(hR:Rv ds)(hK:ajI ds ks):∀i:Nat,i<=ks.length->
  (((ks.take i).map (Dk ds)).map jz.p).sum+((ds.map (nZ (ks.take i))).map jz.p).sum=(ds.map jz.p).sum/\(((ks.take i).map (Dk ds)).map jz.c).sum+((ds.map (nZ (ks.take i))).map jz.c).sum=(ds.map jz.c).sum
 |0,_=>by
  have e:ds.map (nZ [])=ds:=(yj λd _=>rfl).trans (List.map_id _);rw[List.take_zero,e];exact⟨by simp,by simp⟩
 |i+1,hi=>by
  obtain⟨h1,h2⟩:=Px hR hK i (by omega);have z:ks[i]? =some ks[i]:=by simp
  obtain⟨d,hd,aa,hw⟩:=hK.h ks[i] (yD _);have q:d.n∉(ks.take i).map (·.1):=by rw[aa];exact SQ hK.u z
  have er:ks[i]=(d.n,ks[i].2):=by rw[aa]
  generalize ks[i].2=w at er hw;have ab:ks.take (i+1)=ks.take i++[(d.n,w)]:=by rw[zN,z,er];rfl
  have c1:=xT (f:=λe=>(nZ (ks.take i++[(d.n,w)]) e).p) (g:=λe=>(nZ (ks.take i) e).p) hR.u hd λe _ he=>by rw[Jj he]
  have c2:=xT (f:=λe=>(nZ (ks.take i++[(d.n,w)]) e).c) (g:=λe=>(nZ (ks.take i) e).c) hR.u hd λe _ he=>by rw[Jj he]
  simp only[Tp q,Tj q]at c1 c2;have es:=some_at (w:=w) hR.u hd;rw[ab];simp only[zx,zv,yG,zl,zza,zO,List.sum_nil,Function.comp_def,es]at h1 h2 c1 c2⊢;rw[c1,c2];omega
theorem Rz{f:jz->Int}:∀{l:List jz},(∀d∈l,¬0<d.p->f d=0)->((l.filter λd=>decide (0<d.p)).map f).sum=(l.map f).sum
 |[],_=>rfl
 |d::l,h=>by
  have q:=Rz (l:=l) λe z=>h e (zp _ z);by_cases e:0<d.p
  ·rw[yn (by simpa using e),zl,zl,zO,zO,q]
  ·rw[yo (by simpa using e),zl,zO,q,h d zj e]
   omega
def Zk{ds:List jz}{ks:Pk}(hR:Rv ds)(hK:ajI ds ks):((ks.map (Dk ds)).map jz.p).sum+((QR ks ds).map jz.p).sum=(ds.map jz.p).sum/\((ks.map (Dk ds)).map jz.c).sum+((QR ks ds).map jz.c).sum=(ds.map jz.c).sum:=by
 have h:=Px hR hK ks.length (zg _);rw[z0]at h
 have hz:∀e∈ds.map (nZ ks),¬0<e.p->e.p=0/\e.c=0:=λe q=>by
  obtain⟨d,hd,rfl⟩:=zi.mp q;exact(xN hR hK hd).2.2
 unfold QR;rw[Rz (f:=jz.p) λe q z=>(hz e q z).1,Rz (f:=jz.c) λe q z=>(hz e q z).2];exact h
def ais{ds:List jz}{ks:Pk}(q:Rv ds)(hK:ajI ds ks):Rv (QR ks ds):=by
 have e:(ds.map (nZ ks)).map jz.n=ds.map jz.n:=by
  rw[zx];exact yj λd hd=>(xN q hK hd).1
 refine⟨?_,λz hz=>?_,?_⟩
 ·refine zzO ?_ q.u
  rw[<-e];exact List.Sublist.map _ List.filter_sublist
 ·obtain⟨h1,h2⟩:=yB.mp hz
  obtain⟨d,hd,rfl⟩:=zi.mp h1;have hs:=xN q hK hd;have h2:0<(nZ ks d).p:=by simpa using h2
  exact⟨by omega,hs.2.1.2⟩
 ·have:=yk (λd:jz=>decide (0<d.p)) (ds.map (nZ ks))
  rw[za]at this;have:=q.l;unfold QR;omega
def aaV{ns:List Int}{ls:RL}(h:Shp ns ls)(hn:ns.length<=60)(z:pcs ls<=1000000000):Rv (ls.map (·.2)):=by
 refine⟨by rw[zx];exact h.u,λd hd=>?_,by rw[za];exact zV h.len hn⟩;obtain⟨l,q,rfl⟩:=zi.mp hd;have h1:=h.p l q;have h2:=RT h.p q;exact⟨h1,by omega⟩
def akU{ls:RL}{ks:Pk}{w:Int}(h:PkS ls ks w):ajI (ls.map (·.2)) ks:=⟨h.u,λk q=>let⟨l,a,b⟩:=h.h k q;⟨l.2,zi.mpr ⟨l,a,rfl⟩,b⟩⟩
def Vy{ns:List Int}{ls l1 l2:RL}{ks:Pk}{w:Int}(h:Shp ns ls)(hn:ns.length<=60)(hp:pcs ls<=1000000000)(hk:PkS ls ks w)(e1:l1.map (·.2)=ks.map (Dk (ls.map (·.2))))(e2:l2.map (·.2)=QR ks (ls.map (·.2))):
  l1.map VP=ks/\Shp ns l2/\pcs l2=pcs ls - w:=by
 have hR:=aaV h hn hp;have hK:=akU hk
 have hs:∀k∈ks,(Dk (ls.map (·.2)) k).n=k.1/\(Dk (ls.map (·.2)) k).p=k.2:=λk z=>by
  obtain⟨d,hd,e,_⟩:=hK.h k z;have:=some_at (w:=k.2) hR.u hd;rw[e]at this;rw[this];exact⟨rfl,rfl⟩
 have ab:l1.map VP=ks:=by
  have:l1.map VP=(l1.map (·.2)).map λd=>(d.n,d.p):=by rw[zx];rfl
  rw[this,e1,zx]
  exact GD λk z=>by
   show((Dk _ k).n,(Dk _ k).p)=k;rw[(hs k z).1,(hs k z).2]
 have aa:=(Zk hR hK).1;rw[<-e1,<-e2]at aa
 have f1:((l1.map (·.2)).map jz.p).sum=w:=by
  have:(l1.map (·.2)).map jz.p=ks.map (·.2):=by
   rw[<-ab,zx,zx];rfl
  rw[this,hk.s]
 have f2:∀ms:RL,((ms.map (·.2)).map jz.p).sum=pcs ms:=λms=>by unfold pcs;rw[zx];rfl
 rw[f1,f2,f2]at aa;have hok:=ais hR hK;rw[<-e2]at hok;refine⟨ab,⟨?_,λl hl=>(hok.g l.2 (zi.mpr ⟨l,hl,rfl⟩)).1,λl hl=>?_⟩,by omega⟩
 ·have:=hok.u
  rwa [zx]at this
 ·have h1:l.2∈QR ks (ls.map (·.2)):=e2▸zi.mpr ⟨l,hl,rfl⟩
  obtain⟨h2,_⟩:=yB.mp h1;obtain⟨d,hd,e⟩:=zi.mp h2;obtain⟨q,hq,rfl⟩:=zi.mp hd;rw[<-e,(xN hR hK hd).1];exact h.m q hq
inductive TY(A:Adr):Addr->Prop
 |e:TY A A.acR
 |n:TY A A.acS
 |d:TY A A.acT
 |m:TY A A.acU
def akW{C:Addr}(q:TY A C):(C,Oe A)∈[(A.acR,Oe A),(A.acS,Oe A),(A.acT,Oe A),(A.acU,Oe A)]:=by cases q<;>simp
def aaF{C:Addr}(q:TY A C):(C,Dm A)∈[(A.acR,Dm A),(A.acS,Dm A),(A.acT,Dm A),(A.acU,Dm A)]:=by cases q<;>simp
inductive Fg(A:Adr)(vs:List V)(H:Hp)(Q:VK)(E:XK):Prop
 |mk (x C dx q:Addr) (ns:List Int) (ls:RL) (w:Int) (_:vs=[.ref x,.ref q,.int w,.non]) (_:H x=some (.ins C dx [])) (_:TY A C) (_:H q=some (.lst (jB ls))) (_:kY A H ls) (_:Shp ns ls) (_:ns.length<=60) (_:pcs ls<=1000000000) (_:1<=w) (_:w<=pcs ls) (_:∀t la lb l1 l2 H',Same H H'->H' t=some (.tup [.ref la,.ref lb])->H' la=some (.lst (jB l1))->H' lb=some (.lst (jB l2))->kY A H' l1->kY A H' l2->Shp ns l1->pcs l1=w->l1≠[]->Shp ns l2->pcs l2=pcs ls - w->H la=none->H lb=none->la≠lb->Q (.ref t) H'):Fg A vs H Q E
def Qd(T:Txt K mg A D):jQ P w K mg base CX0 5 A.ab0 D.ab0 ["way", "lots", "pieces", "named"] (Fg A):=by
 refine T.ad7.F.okv wV λ_ _ _ _ H vs Q E hr h=>?_
 ·obtain⟨x,C,dx,q,ns,ls,w,rfl,hx,hC,hq,hL,hS,hn,hp,h0,h1,k⟩:=h
  refine ⟨_,(iB (ji (i:=4) wV.nd rfl orl (jE (pv 0) (mc T.afE T.ahq (qC T) hr (rT T) (mc T.afF T.ahr (qC T) hr (rT T) (mc T.afG T.ahs (qC T) hr (rT T) (mc T.afH T.aht (Ga T) hr (Hi T) .nil)))) jL (pav 1 iD)))
   (iB (ji (i:=5) wV.nd rfl orl (uR (jl (Fy) (pvD 3) nu (jr _)) (jE (pv 0) (mc T.afE T.ahu (wA T) hr (Ah T) (mc T.afF T.ahv (Jh T) hr (KR T) (mc T.afG T.ahw (Gp T) hr (Jg T) (mc T.afH T.ahx (wA T) hr (Ah T) .nil)))) jL (pav 4 (pav 2 iD))) (pvD 3)))
   (iG (iY (pcg (Kz T) hr T.ad0 (Nu T) (pav 4 (pav 5 iD))))))),?_⟩
  have ab:ls.length<=100:=by have:=hS.len;omega
  simp only[start_eq];walk_at "n";refine⟨C,dx,_,hx,_,akW hC,by rfl,x,q,ls,rfl,hq,hL,ab,hS.p,by omega,λl ms H1 s1 hl h2 ad ac=>?_⟩;have aa:=ac.shp hS;have aj:=ac.pcs;walk_at "n";refine⟨C,dx,_,s1 _ _ hx,_,aaF hC,by rfl,x,l,ms,w,rfl,h2,ad,by rw[ac.len];exact ab,aa.u,λq hq=>⟨aa.p q hq,by have:=RT aa.p hq;omega⟩,by omega,by omega,λpk ps H2 s2 ak h3 hP hK=>?_⟩
  try dsimp only
  rw[ap_ret];walk_at "i";refine⟨l,pk,ms,ps,rfl,s2 _ _ h2,ad.same s2,h3,hP,aaV aa hn (by omega),akU hK,λt la lb l1 l2 H3 s3 ht g1 g2 g3 g4 e1 e2 f1 f2 f3=>?_⟩;obtain⟨k1,k2,k3⟩:=Vy aa hn (by omega) hK e1 e2;have S2:=s1.trans s2;have af:l1.map (·.2.n)=(ps.map (·.2)).map (·.1):=by rw[<-k1,zx];rfl
  have ae:l1.map (·.2.p)=(ps.map (·.2)).map (·.2):=by rw[<-k1,zx];rfl
  have ag:pcs l1=w:=by unfold pcs;rw[ae];exact hK.s
  have ai:Shp ns l1:=by
   refine⟨by rw[af];exact hK.u,λr hr=>?_,λr hr=>?_⟩
   ·have:VP r∈ps.map (·.2):=k1▸zi.mpr ⟨r,hr,rfl⟩
    obtain⟨q,_,_,a,_⟩:=hK.h _ this;exact a
   ·have:VP r∈ps.map (·.2):=k1▸zi.mpr ⟨r,hr,rfl⟩
    obtain⟨q,ah,e,_⟩:=hK.h _ this;have e:q.2.n=r.2.n:=e;exact e▸aa.m q ah
  refine k t la lb l1 l2 H3 (S2.trans s3) ht g1 g2 g3 g4 ai ag (λz=>?_) k2 (by omega) (S2.free f1) (S2.free f2) f3;rw[z]at ag;have:pcs []=0:=rfl;omega
inductive vD(A:Adr)(vs:List V)(H:Hp)(Q:VK)(E:XK):Prop
 |mk (x:Addr) (d:jz) (p c:Int) (_:vs=[.ref x,.int p,.int c]) (_:mL A H x d) (_:∀y H',Same H H'->H y=none->mL A H' y ⟨d.n,d.s,d.p+p,d.c+c⟩->Q (.ref y) H'):vD A vs H Q E
def vC(T:Txt K mg A D):jQ P w K mg base CX0 3 A.aby D.aby ["self", "pieces", "cost"] (vD A):=by
 refine T.adF.ok FZ (by walk_at "v") (λ_ _ _ s H vs Q E hr h=>?_)
 ·obtain⟨x,⟨n,s,p,c⟩,p',c',rfl,⟨dx,q⟩,k⟩:=h
  refine⟨_,(iG (iY (lR T.ag5 (jT (K:=K) T) (hr.mono (by decide)) (by rfl) T.afs (jY T) .nil jL (iz (fv K 0) (iz (fv K 0) (iz (ju kE (fv K 0) (pvD 1)) (iz (ju kE (fv K 0) (pvD 2)) iD))))))),?_⟩;walk_at "a";refine rd q T.agD T.agE (by rfl) (?_);refine rd q T.agD T.agF (by rfl) (?_);refine rd q T.agD T.agG (by rfl) (?_);refine⟨_,rfl,rd q T.agD T.agH (by rfl) ⟨_,rfl,λy dy hy z _=>?_⟩⟩;exact qb ⟨n,s,p+p',c+c'⟩ hy z λH' sm hL=>k y H' sm hy hL
noncomputable def toI:V->Int
 |.int i=>i
 |_=>0
inductive xM(A:Adr)(vs:List V)(H:Hp)(Q:VK)(E:XK):Prop
 |mk (x:Addr) (d:jz) (_:vs=[.ref x]) (_:mL A H x d) (_:∀t,H t=none->Q (.ref t) (upd H t (.tup [.int d.s,.int d.n]))):xM A vs H Q E
def Im(T:Txt K mg A D):jQ P w K mg base CX0 1 A.abw D.abw ["lot"] (xM A):=by
 refine T.adD.F.okv Ji λ_ _ _ _ H vs Q E hr h=>?_
 ·obtain⟨x,d,rfl,⟨dx,q⟩,k⟩:=h
  refine⟨_,(iG (iY (lY (iz (fv K 0) (iz (fv K 0) iD))))),?_⟩;walk_at "a";refine rd q T.agD T.agF (by rfl) (rd q T.agD T.agE (by rfl) (?_));exact⟨sz,λt z=>k t z⟩
def YG{ls:RL}{f:Addr×jz->Bool}{acc:List V}(z:acc.length=ls.length)(h:∀(i:Nat) v,acc[i]? =some v->∃l,ls[i]? =some l/\v=.bl (f l)):acc=(ls.map f).map V.bl:=by
 refine zzC (by simp[z]) λi h1 h2=>?_;obtain⟨l,q,e2⟩:=h i acc[i] (by simp);rw[e2];have h3:i<ls.length:=by omega
 have:ls[i]=l:=by
  rw[zh h3]at q;exact zw q
 simp[this]
noncomputable def Aa(d e:jz):jz:=if e.n=d.n then⟨e.n,e.s,e.p+d.p,e.c+d.c⟩else e
noncomputable def kfL(H:Hp):V->List Int
 |.ref b=>match H b with
  |some (.ins _ _ fs)=>[toI ((fs.lookup ("since" :Str)).getD .non),toI ((fs.lookup ("number" :Str)).getD .non)]
  |_=>[]
 |_=>[]
def aaQ{H:Hp}{b:Addr}{d:jz}(h:mL A H b d):kfL H (.ref b)=[d.s,d.n]:=by
 obtain⟨dx,e⟩:=h;unfold kfL
 try dsimp only
 rw[e];rfl
inductive Jp(A:Adr)(vs:List V)(H:Hp)(Q:VK)(E:XK):Prop
 |mk (q x:Addr) (ls:RL) (d:jz) (_:vs=[.ref q,.ref x]) (_:H q=some (.lst (jB ls))) (_:kY A H ls) (_:mL A H x d) (_:ls.length<=58) (_:(ls.map (·.2.n)).Nodup) (_:∀l ls' H',Same H H'->H l=none->H' l=some (.lst (jB ls'))->kY A H' ls'->(d.n∈ls.map (·.2.n)->ls'.map (·.2)=(ls.map (·.2)).map (Aa d))->(d.n∉ls.map (·.2.n)->(ls'.map (·.2)).Perm (ls.map (·.2)++[d]))->Q (.ref l) H'):Jp A vs H Q E
def Ri(T:Txt K mg A D):jQ P w K mg base CX0 4 A.abz D.abz ["lots", "lot"] (Jp A):=by
 refine T.adG.F.okv RD λ_ _ _ _ H vs Q E hr h=>?_
 ·obtain⟨q,x,ls,d,rfl,hq,hL,⟨dx,hx⟩,hl,hu,k⟩:=h
  refine ⟨_,(iB (jX (nD (jt (Qs (K:=K) rfl) (by rfl) T.ae7 (by decide+kernel) (iz (jO (cap:=[none,some 1]) (N':=["one", "lot"]) rfl (by walk_at "c") (jW (K:=K) (pv 0)) (λ_ _ _ _=>(iW (i:=0) (show(["one", "lot"]:List Str).Nodup from by decide+kernel) rfl orl orr)) (λ_ _ _ _=>jP) (λ_ _ _ _=>(uU (mW) (fv K 0) (fv K 1) (jr _)))) iD))) (iG (iY (jO (cap:=[none,some 1]) (N':=["one", "lot"]) rfl (by walk_at "c") (jW (K:=K) (pv 0)) (λ_ _ _ _=>(iW (i:=0) (show(["one", "lot"]:List Str).Nodup from by decide+kernel) rfl orl orr)) (λ_ _ _ _=>jP) (λ_ _ _ _=>(uR (jl (mW) (fv K 0) (fv K 1) (jr _)) (jE (pv 0) (mc T.agD T.ahd (vC T) hr (wG T) .nil) jL (iz (fv K 1) (iz (fv K 1) iD))) (pvD 0)))))) jx)
   (iG (iY (Iz (K:=K) (by rfl) (Lz (Im (K:=K) T) (hr.mono (by decide)) (Ky T) (by rfl) T.ae5 (by decide+kernel) (by rfl) T.adD.m (iz (ju Xj (pvD 0) (kW (pav 1 iD))) iD)))))),?_⟩
  simp only[start_eq];walk_at "m";have aw:mL A H x d:=⟨dx,hx⟩;refine⟨⟨_,iQ hq⟩,?_⟩;refine lu.listE (K:=K) (λσ=>∃a,σ=[a,some (.ref x)]) (λi v _=>∃l,ls[i]? =some l/\v=.bl (decide (l.2.n=d.n))) (iQ hq) ⟨_,rfl⟩ (by rw[jc,zq];omega) ?_ ?_
  ·rintro Da i y hy σ H5 R ⟨_,rfl⟩ sm hD _ kk
   obtain⟨l,ab,rfl⟩:=jU hy;obtain⟨dy,aa⟩:=(hL l (get_mem ab)).same sm;walk_at "i";refine rd aa T.agD T.agE (by rfl) (rd (sm _ _ hx) T.agD T.agE (by rfl) (?_));exact⟨rfl,kk _ _ H5 ⟨_,rfl⟩ (same_refl _) λH' _=>⟨l,ab,by simp⟩⟩
  ·intro Da H1 acc hD sm hA ak hF
   have am:acc=(ls.map λl=>decide (l.2.n=d.n)).map V.bl:=YG (by rw[ak,jc]) hF;rw[am]at hA;walk_at "i";refine⟨_,iQ hA,?_⟩;have au:=hL.same sm;have ay:=sm _ _ hx;have af:=sm _ _ hq;by_cases hm:d.n∈ls.map (·.2.n)
   ·obtain⟨l0,ag,e0⟩:=zi.mp hm
    rw[zo (yz.mpr ⟨true,zi.mpr ⟨l0,ag,zE e0⟩,rfl⟩)];refine⟨⟨_,iQ af⟩,?_⟩;refine lu.listE (K:=K) (λσ=>∃a,σ=[a,some (.ref x)]) (λi v H'=>∃b l,ls[i]? =some l/\v=.ref b/\mL A H' b (Aa d l.2)) (iQ af) ⟨_,rfl⟩ (by rw[jc,zq];omega) ?_ ?_
    ·rintro Db i y hy σ H5 R ⟨_,rfl⟩ ai ao ⟨ajr,aj⟩ kk
     obtain⟨l,ab,rfl⟩:=jU hy;obtain⟨dy,aa⟩:=(au l (get_mem ab)).same ai;have ae:=ai _ _ ay;walk_at "i";refine rd aa T.agD T.agE (by rfl) (rd ae T.agD T.agE (by rfl) ⟨rfl,?_⟩);by_cases e:l.2.n=d.n
     ·rw[zo (by simp[e])]
      refine md aa zj (by rfl) (rd ae T.agD T.agG (by rfl) (rd ae T.agD T.agH (by rfl) ⟨l.1,l.2,d.p,d.c,rfl,⟨dy,aa⟩,λz H6 s6 hz hZ=>kk (.ref z) _ H6 ⟨_,rfl⟩ s6 λH' hb=>⟨z,l,ab,rfl,?_⟩⟩));unfold Aa;rw[zo e];exact hZ.but (λe=>by rw[e,aj]at hz;cases hz) hb
     ·rw[ze (by simp[e])]
      refine kk (.ref l.1) _ H5 ⟨_,rfl⟩ (same_refl _) λH' hb=>⟨l.1,l,ab,rfl,?_⟩;unfold Aa;rw[ze e];exact mL.but ⟨dy,aa⟩ (λe=>by rw[e,aj]at aa;cases aa) hb
    ·intro Db H4 ap ao az ar ac as
     rw[jc]at ac
     obtain ⟨ax,q1,q2,q3⟩:=Rr (λ_ H r=>mL A H r.1 r.2) (H:=H4) (acc:=ap) (ds:=(ls.map (·.2)).map (Aa d)) (by rw[ac,za,za]) λi v hv=>by
      obtain⟨b,l,h1,h2,h3⟩:=as i v hv;exact⟨b,_,by rw[zd,zd,h1];rfl,h2,h3⟩
     exact k Db ax H4 (sm.trans az) (sm.free ao) (q1▸ar) q3 (λ_=>q2) λh=>(h hm).elim
   ·rw[ze (λh=>hm ?_)]
    ·obtain⟨os,ad⟩:∃os:RL,os=ls++[(x,d)]:=⟨_,rfl⟩
     have an:jB ls++[V.ref x]=jB os:=by rw[ad];unfold jB;rw[zv];rfl
     refine⟨sz,λp hp=>⟨_,iM hp _ _ af,_,iH,by rw[jc,zq];show ls.length+1<=_;omega,λp1 aq=>?_⟩⟩;rw[an];have s2:=sm.trans ((iM (o:=.lst [V.ref x]) hp).trans (iM (o:=.lst (jB os)) aq));have h2:(upd (upd H1 p (.lst [V.ref x])) p1 (.lst (jB os))) p1=some (.lst (jB os)):=iH;generalize upd (upd H1 p (.lst [V.ref x])) p1 (.lst (jB os))=H2 at s2 h2
     have hO:kY A H2 os:=λo ho=>by
      rw[ad]at ho;rcases zK.mp ho with ho|ho
      ·exact(hL o ho).same s2
      ·obtain rfl:=zC.mp ho
       exact aw.same s2
     have bb:os.length<=59:=by rw[ad,zA,yU];omega
     refine⟨_,iQ h2,by rw[jc];omega,kfL H2,λy hy=>?_,λp2 zs H3 s3 hn hz ah ba=>?_⟩
     ·obtain⟨o,ho,rfl⟩:=zi.mp hy
      rw[aaQ (hO o ho)];refine⟨by simp,λH5 s5 R hR=>⟨o.1,o.2,rfl,(hO o ho).same s5,λt ht=>hR t _ (iM ht) ?_⟩⟩;rw[aaQ (hO o ho)];exact iH
     ·obtain⟨av,rfl,al⟩:=Es (f:=λr:Addr×jz=>V.ref r.1) ah rfl
      refine k p2 av H3 (s2.trans s3) (s2.free hn) hz (λr hr=>(hO r (al.mem_iff.mp hr)).same s3) (λh=>(hm h).elim) λ_=>?_;have:=al.map (·.2);rw[ad,zv]at this;exact this
    ·obtain⟨b,hb,eb⟩:=yz.mp h
     obtain⟨l0,ag,e0⟩:=zi.mp hb;have eb:b=true:=eb;rw[eb]at e0;exact zi.mpr ⟨l0,ag,z8 e0⟩
def Uz{ns:List Int}{ls ms:RL}{d:jz}(h:Shp ns ls)(hd:1<=d.p)(hn:d.n∈ns)(e1:d.n∈ls.map (·.2.n)->ms.map (·.2)=(ls.map (·.2)).map (Aa d))(e2:d.n∉ls.map (·.2.n)->(ms.map (·.2)).Perm (ls.map (·.2)++[d])):Shp ns ms/\pcs ms=pcs ls+d.p:=by
 have fn:∀l:RL,l.map (·.2.n)=(l.map (·.2)).map jz.n:=λl=>by rw[zx];rfl
 have fp:∀l:RL,pcs l=((l.map (·.2)).map jz.p).sum:=λl=>by unfold pcs;rw[zx];rfl
 by_cases hm:d.n∈ls.map (·.2.n)
 ·have e:=e1 hm
  have ab:ms.map (·.2.n)=ls.map (·.2.n):=by
   rw[fn,fn,e,zx];exact yj λx _=>by show(Aa d x).n=x.n;unfold Aa;split<;>rfl
  refine⟨⟨by rw[ab];exact h.u,λl hl=>?_,λl hl=>?_⟩,?_⟩
  ·have:l.2∈(ls.map (·.2)).map (Aa d):=e▸zi.mpr ⟨l,hl,rfl⟩
   obtain⟨x,hx,e'⟩:=zi.mp this;obtain⟨q,hq,rfl⟩:=zi.mp hx;have:=h.p q hq;rw[<-e'];unfold Aa;split
   ·show 1<=q.2.p+d.p;omega
   ·exact this
  ·have:l.2.n∈ms.map (·.2.n):=zi.mpr ⟨l,hl,rfl⟩
   rw[ab]at this;obtain⟨q,hq,e'⟩:=zi.mp this;exact e'▸h.m q hq
  ·rw[fp,fp,e]
   obtain⟨q,hq,eq⟩:=zi.mp hm;have hu:=h.u;rw[fn]at hu
   have c:=xT (f:=λx=>(Aa d x).p) (g:=jz.p) hu (zi.mpr ⟨q,hq,rfl⟩) λx _ ac=>by
    show(Aa d x).p=x.p;unfold Aa;rw[ze (λz=>ac (z.trans eq.symm))]
   rw[zx];show((ls.map (·.2)).map λx=>(Aa d x).p).sum=_;rw[c];show _ - q.2.p+(Aa d q.2).p=_;unfold Aa;rw[zo eq];show _ - q.2.p+(q.2.p+d.p)=_;omega
 ·have e:=e2 hm
  have aa:=e.map jz.n;rw[zv,<-fn,<-fn]at aa;refine⟨⟨aa.nodup_iff.mpr (yY.mpr ⟨h.u,zP.mpr ⟨zn,.nil⟩,λa ha b hb=>?_⟩),λl hl=>?_,λl hl=>?_⟩,?_⟩
  ·have:b=d.n:=zC.mp hb
   rw[this];exact λz=>hm (z▸ha)
  ·rcases zK.mp (e.mem_iff.mp (zi.mpr ⟨l,hl,rfl⟩))with g|g
   ·obtain⟨q,hq,e'⟩:=zi.mp g
    exact e'▸h.p q hq
   ·rw[zC.mp g];exact hd
  ·rcases zK.mp (e.mem_iff.mp (zi.mpr ⟨l,hl,rfl⟩))with g|g
   ·obtain⟨q,hq,e'⟩:=zi.mp g
    exact e'▸h.m q hq
   ·rw[zC.mp g];exact hn
  ·rw[fp,fp,Uo (e.map jz.p),zv,yG]
   simp
noncomputable def YS(m o:Int)(ps:List Int)(i:Nat):Int:=(ps.take (i+1)).sum*m/o - (ps.take i).sum*m/o
noncomputable def Yp(m o:Int)(ps:List Int):List Int:=(List.range ps.length).map (YS m o ps)
def Tn(m o:Int)(ps:List Int):(Yp m o ps).length=ps.length:=by unfold Yp;simp
def Ug{m o:Int}{ps:List Int}{i:Nat}(h:i<ps.length):(Yp m o ps)[i]? =some (YS m o ps i):=by
 unfold Yp;rw[zd,List.getElem?_range h];rfl
def Xg{m o:Int}{ps:List Int}{i:Nat}(h:i<ps.length):(Yp m o ps).take (i+1)=(Yp m o ps).take i++[YS m o ps i]:=by
 rw[zN,Ug h];rfl
def TQ{ps:List Int}{i:Nat}{p:Int}(h:ps[i]? =some p):(ps.take (i+1)).sum=(ps.take i).sum+p:=by
 rw[zN,h];simp
structure Mo(m o:Int):Prop where
 a:1<=m/\m<=10000000
 b:1<=o/\o<=10000000
def Mo.mul{m o x:Int}(h:Mo m o):Ab x m:=vd (by have:=h.a;omega) (by have:=h.a;omega)
def Mo.div{m o x:Int}(h:Mo m o):Qa x o:=⟨by have:=h.b;omega,yx (show o.natAbs<=10000000 by have:=h.b;omega) (zG (show 10000000<2^24 by decide) (yI (by decide) (by decide)))⟩
noncomputable def stp(st:List jz×Int)(d:jz)(c:Int):List jz×Int:=if c=0 then(st.1,st.2+d.c)else(st.1++[⟨d.n,d.s,c,d.c+st.2⟩],0)
noncomputable def stI(m o:Int)(ds:List jz):Nat->List jz×Int
 |0=>([],0)
 |i+1=>match ds[i]? with
  |some d=>stp (stI m o ds i) d (YS m o (ds.map jz.p) i)
  |none=>stI m o ds i
def Ur{m o:Int}{ds:List jz}{i:Nat}{d:jz}(h:ds[i]? =some d):stI m o ds (i+1)=stp (stI m o ds i) d (YS m o (ds.map jz.p) i):=by
 rw[stI,h]
noncomputable def aiW(st:List jz×Int):List jz:=match st.1.getLast? with
 |some d=>st.1.dropLast++[⟨d.n,d.s,d.p,d.c+st.2⟩]
 |none=>[]
def Oa(r:List jz)(d:jz)(g:Int):aiW (r++[d],g)=r++[⟨d.n,d.s,d.p,d.c+g⟩]:=by
 unfold aiW;simp
inductive wR(A:Adr)(vs:List V)(H:Hp)(Q:VK)(E:XK):Prop
 |mk (q:Addr) (ls:RL) (m o:Int) (_:vs=[.ref q,.int m,.int o]) (_:H q=some (.lst (jB ls))) (_:kY A H ls) (_:ls.length<=100) (_:Mo m o) (_:∀p H',Same H H'->H p=none->H' p=some (.lst ((Yp m o (ls.map λl=>l.2.p)).map V.int))->Q (.ref p) H'):wR A vs H Q E
def JM(T:Txt K mg A D):jQ P w K mg base CX0 1 A.ab4 D.ab4 ["lots", "many", "of"] (wR A):=by
 refine T.aeb.F.okv kj λ_ _ _ _ H vs Q E hr h=>?_
 ·obtain⟨q,ls,m,o,rfl,hq,hL,hl,hM,k⟩:=h
  refine ⟨_,(iB (ji (i:=3) kj.nd rfl orl (kW iD))
   (iB (ji (i:=4) kj.nd rfl orl iJ)
   (iB (ji (i:=5) kj.nd rfl orl iJ)
   (iB (oE zQ rfl (jW (K:=K) (pv 0)) (iW (i:=6) kj.nd rfl orl)
    (iB (ji (i:=4) kj.nd rfl orl (ju kE (pvD 4) (fv K 6)))
    (iB (ji (i:=7) kj.nd rfl orl (ju rK (ju mH (pvD 4) (pvD 1)) (pvD 2)))
    (iB (jo (qx (K:=K) zH zR zS mD (pvD 3) (iz (ju pY (pvD 7) (pvD 5)) iD)))
    (iG (ji (i:=5) kj.nd rfl orl (pvD 7)))))))
   (iG (iY (pvD 3))))))),?_⟩
  simp only[start_eq];walk_at "m";refine⟨sz,λp hp=>?_⟩;have s1:=iM (o:=.lst []) hp;have h1:(upd H p (.lst [])) p=some (.lst []):=iH;generalize upd H p (.lst [])=H1 at s1 h1
  iterate 2 walk_at "m"
  rw[ap_seq,ap_for];walk_at "i";refine⟨⟨_,iQ (s1 _ _ hq)⟩,?_⟩;obtain⟨ps,aa⟩:∃ps,(ls.map λl=>l.2.p)=ps:=⟨_,rfl⟩;have ab:ps.length=ls.length:=by rw[<-aa,za]
  rw[aa]at k
  refine Gg.listN (K:=K) (a:=q) (xs:=jB ls) (λi σ H2=>(∃v6 v7,σ=[some (.ref q),some (.int m),some (.int o),some (.ref p),some (.int (ps.take i).sum),some (.int ((ps.take i).sum*m/o)),v6,v7])/\Same H H2/\H2 p=some (.lst (((Yp m o ps).take i).map V.int)))
   ⟨⟨none,none,by simp⟩,s1,h1⟩ (λi σ H2 _ ⟨_,s2,_⟩=>s2.seq (iQ hq)) ?_ ?_
  ·rintro i y σ H2 hy ⟨⟨v6,v7,rfl⟩,s2,h2⟩ N hN
   obtain⟨l,z,rfl⟩:=jU hy;have ae:i<ls.length:=(zk.mp z).1;have ad:ps[i]? =some l.2.p:=by rw[<-aa,zd,z];rfl
   obtain⟨dx,ac⟩:=(hL l (get_mem z)).same s2;walk_at "i";walk_at "m";refine rd ac T.agD T.agG (by rfl) ⟨_,rfl,?_⟩;rw[<-TQ ad];walk_at "m";refine⟨hM.mul,hM.div,?_⟩;walk_at "m";refine⟨.inl ⟨rfl,_,iQ h2⟩,_,h2,?_,?_⟩
   ·rw[za,zU,zq];omega
   refine hN _ _ ⟨⟨_,_,rfl⟩,s2.upd hp,?_⟩;rw[iH,Xg (by omega),zv];rfl
  ·rintro σ H2 ⟨⟨v6,v7,rfl⟩,s2,h2⟩
   rw[jc,<-ab,<-Tn m o ps,z0]at h2;walk_at "a";exact k p H2 s2 hp h2
theorem Pj{m o:Int}(hM:Mo m o){ds:List jz}(h:∀d∈ds,1<=d.p):∀i,i<=ds.length->((stI m o ds i).1.map jz.n).Sublist ((ds.take i).map jz.n)/\(∀d∈(stI m o ds i).1,1<=d.p)/\((stI m o ds i).1.map jz.p).sum=((ds.map jz.p).take i).sum*m/o
 |0,_=>⟨List.nil_sublist _,λd hd=>(zn hd).elim,by simp[stI]⟩
 |i+1,hi=>by
  obtain⟨i1,i2,i3⟩:=Pj hM h i (by omega);obtain⟨d,hd⟩:∃d,ds[i]? =some d:=⟨_,zh (by omega)⟩;have aa:=h d (zm hd);have hs:=TQ (ps:=ds.map jz.p) (i:=i) (p:=d.p) (by rw[zd,hd];rfl)
  have hc:0<=YS m o (ds.map jz.p) i:=by
   unfold YS;have:(((ds.map jz.p).take i).sum*m)/o<=(((ds.map jz.p).take (i+1)).sum*m)/o:=Int.ediv_le_ediv (by have:=hM.b;omega) (Int.mul_le_mul_of_nonneg_right (by omega) (by have:=hM.a;omega));omega
  have z:((ds.map jz.p).take (i+1)).sum*m/o=((ds.map jz.p).take i).sum*m/o+YS m o (ds.map jz.p) i:=by unfold YS;omega
  rw[Ur hd,z,<-i3];have ht:ds.take (i+1)=ds.take i++[d]:=by rw[zN,hd];rfl
  generalize YS m o (ds.map jz.p) i=c at hc;rw[ht,zv];unfold stp;split
  ·next e=>exact⟨i1.trans (zzf _ _),i2,by rw[e,Int.add_zero]⟩
  ·next e=>
   refine⟨?_,λx q=>?_,?_⟩
   ·show(((stI m o ds i).1++[_]).map jz.n).Sublist _
    rw[zv];exact i1.append (yZ _)
   ·rcases zK.mp q with q|q
    ·exact i2 x q
    ·rw[zC.mp q]
     show 1<=c;omega
   ·show(((stI m o ds i).1++[_]).map jz.p).sum=_
    rw[zv,yG];simp
def WN(r:List jz)(g:Int):(aiW (r,g)).map jz.n=r.map jz.n/\(aiW (r,g)).map jz.p=r.map jz.p:=by
 rcases List.eq_nil_or_concat r with rfl|⟨q,z,rfl⟩
 ·exact⟨rfl,rfl⟩
 ·rw[List.concat_eq_append,Oa]
  exact⟨by simp,by simp⟩
def Rm{m o:Int}(hM:Mo m o){ns:List Int}{ls:RL}(hS:Shp ns ls)(hw:1<=pcs ls*m/o):(stI m o (ls.map (·.2)) ls.length).1≠[]/\∀{z:RL},z.map (·.2)=aiW (stI m o (ls.map (·.2)) ls.length)->Shp ns z/\pcs z=pcs ls*m/o:=by
 have fn:∀l:RL,l.map (·.2.n)=(l.map (·.2)).map jz.n:=λl=>by rw[zx];rfl
 have fp:∀l:RL,pcs l=((l.map (·.2)).map jz.p).sum:=λl=>by unfold pcs;rw[zx];rfl
 obtain⟨a,b,c⟩:=Pj hM (ds:=ls.map (·.2)) (λd hd=>by obtain⟨l,hl,rfl⟩:=zi.mp hd;exact hS.p l hl) ls.length (by rw[za];omega);rw[zT (by rw[za];omega)]at a;rw[zT (by rw[za,za];omega),<-fp]at c;generalize stI m o (ls.map (·.2)) ls.length=st at a b c;obtain⟨r,g⟩:=st;refine⟨λe=>?_,fun{z} e=>?_⟩
 ·have e:r=[]:=e
  subst e;have c:(0:Int)=_:=c;omega
 ·obtain⟨f1,f2⟩:=WN r g
  have hn:z.map (·.2.n)=r.map jz.n:=by rw[fn,e,f1]
  have hp:(z.map (·.2)).map jz.p=r.map jz.p:=by rw[e,f2]
  refine⟨⟨by rw[hn];exact zzO a (fn ls▸hS.u),λl hl=>?_,λl hl=>?_⟩,by rw[fp,hp];exact c⟩
  ·have:l.2.p∈(z.map (·.2)).map jz.p:=zi.mpr ⟨l.2,zi.mpr ⟨l,hl,rfl⟩,rfl⟩
   rw[hp]at this;obtain⟨x,hx,e'⟩:=zi.mp this;exact e'▸b x hx
  ·have:l.2.n∈z.map (·.2.n):=zi.mpr ⟨l,hl,rfl⟩
   rw[hn]at this;have:=a.subset this;rw[<-fn]at this;obtain⟨q,hq,e'⟩:=zi.mp this;exact e'▸hS.m q hq
inductive Ff(A:Adr)(vs:List V)(H:Hp)(Q:VK)(E:XK):Prop
 |mk (q:Addr) (ls:RL) (m o:Int) (ns:List Int) (_:vs=[.ref q,.int m,.int o]) (_:H q=some (.lst (jB ls))) (_:kY A H ls) (_:ls.length<=100) (_:Mo m o) (_:Shp ns ls) (_:(ls=[]\/1<=pcs ls*m/o)) (_:∀l l' H',Same H H'->H l=none->H' l=some (.lst (jB l'))->kY A H' l'->Shp ns l'->pcs l'=pcs ls*m/o->Q (.ref l) H'):Ff A vs H Q E
def QT(T:Txt K mg A D):jQ P w K mg base CX0 4 A.ab5 D.ab5 ["lots", "many", "of"] (Ff A):=by
 refine T.aec.F.okv lX λ_ _ _ _ H vs Q E hr h=>?_
 ·obtain⟨q,ls,m,o,ns,rfl,hq,hL,hl,hM,hS,hw,kk⟩:=h
  refine ⟨_,(iB (jX (jl (mW) (jt (nA (K:=K)) (by rfl) T.ae3 (by decide+kernel) (pav 0 iD)) iJ (jr _)) (iG (iY (kW iD))) jx)
   (iB (ji (i:=3) lX.nd rfl orl (kW iD))
   (iB (ji (i:=4) lX.nd rfl orl iJ)
   (iB (oE zQ rfl (Lf (K:=K) (by rfl) T.ae6 (pav 0 (iz (pcg (JM T) hr T.aeb (Kf T) (pav 0 (pav 1 (pav 2 iD)))) iD))) (nO (K:=K) (n:=2) rfl (jy (iW (i:=5) lX.nd rfl orl) (jy (iW (i:=6) lX.nd rfl orl) nM)))
    (iG (jX (jl (mW) (pvD 6) iJ (jr _)) (iG (ji (i:=4) lX.nd rfl orl (ju kE (pvD 4) (fv K 5)))) (iB (jo (qx (K:=K) zH zR zS mD (pvD 3) (iz (lR T.ag5 (jT (K:=K) T) (hr.mono (by decide)) (by rfl) T.afs (jY T) .nil jL (iz (fv K 5) (iz (fv K 5) (pav 6 (iz (ju kE (fv K 5) (pvD 4)) iD))))) iD)))
     (iG (ji (i:=4) lX.nd rfl orl iJ))))))
   (iB (jX (jl (mW) (jt (nA (K:=K)) (by rfl) T.ae3 (by decide+kernel) (pav 3 iD)) iJ (jr _)) (iG (mJ)) jx)
   (iB (ji (i:=7) lX.nd rfl orl (Ib (K:=K) zH PySem.F.slot_list_pop PySem.F.type_list_pop ako (pvD 3)))
   (iB (jo (qx (K:=K) zH zR zS mD (pvD 3) (iz (jE (pv 7) (mc T.agD T.ahd (vC T) hr (wG T) .nil) jL (iz iJ (pav 4 iD))) iD)))
   (iG (iY (pvD 3)))))))))),?_⟩
  simp only[start_eq];walk_at "m";refine⟨_,.inl (iQ hq),?_⟩;rw[jc];by_cases h0:ls=[]
  ·subst h0
   rw[zo (by simp)];exact⟨sz,λp hp=>kk p [] _ (iM hp) hp iH (λr h=>(zn h).elim) .nil (by unfold pcs;simp)⟩
  ·have bh:0<ls.length:=yt.mpr h0
   have hw:1<=pcs ls*m/o:=hw.resolve_left h0;obtain⟨ay,ar⟩:=Rm hM hS hw;have k:∀l l' H',Same H H'->H l=none->H' l=some (.lst (jB l'))->kY A H' l'->l'.map (·.2)=aiW (stI m o (ls.map (·.2)) ls.length)->Q (.ref l) H':=λl l' H' a b c d e=>kk l l' H' a b c d (ar e).1 (ar e).2;rw[ze (by omega)];walk_at "m";refine⟨sz,λpr ac=>?_⟩;have s1:=iM (o:=.lst []) ac;have h1:(upd H pr (.lst [])) pr=some (.lst []):=iH;generalize upd H pr (.lst [])=H1 at s1 h1;walk_at "m";rw[ap_seq,ap_for];walk_at "i";have ep:(ls.map λl=>l.2.p)=(ls.map (·.2)).map jz.p:=by rw[zx];rfl
   obtain⟨ds,ag⟩:∃ds,ls.map (·.2)=ds:=⟨_,rfl⟩;have bc:ds.length=ls.length:=by rw[<-ag,za]
   rw[ag]at ep k ay;refine⟨q,ls,m,o,rfl,s1 _ _ hq,hL.same s1,hl,hM,λpc H2 s2 ae ak=>⟨pc,rfl,⟨_,iQ (s2 _ _ (s1 _ _ hq))⟩,⟨_,iQ ak⟩,?_⟩⟩;rw[ep]at ak;have S2:=s1.trans s2;have au:pr≠pc:=λe=>by rw[<-e,h1]at ae;cases ae
   have aj:(jB ls).length=((Yp m o (ds.map jz.p)).map V.int).length:=by rw[jc,za,Tn,za,bc]
   refine Gg.zipN (K:=K) (a:=q) (b:=pc) (xs:=jB ls) (ys:=(Yp m o (ds.map jz.p)).map V.int) (λi σ H3=>∃(r:RL)(v5 v6 v7:Option V),σ=[some (.ref q),some (.int m),some (.int o),some (.ref pr),some (.int (stI m o ds i).2),v5,v6,v7]/\Same H H3/\H3 pr=some (.lst (jB r))/\H3 pc=some (.lst ((Yp m o (ds.map jz.p)).map V.int))/\kY A H3 r/\r.map (·.2)=(stI m o ds i).1/\r.length<=i) aj
    ⟨[],none,none,none,rfl,S2,s2 _ _ h1,ak,λr h=>(zn h).elim,rfl,zJ _⟩ (λi σ H3 _ ⟨_,_,_,_,_,s3,_,h3,_⟩=>⟨s3.seq (iQ hq),iQ h3⟩) ?_ ?_
   ·rintro i x y σ H3 pt hx hy ⟨r,v5,v6,v7,rfl,s3,h3,ap,ad,aa,ao⟩ bb N hN
    obtain⟨l,al,rfl⟩:=jU hx;obtain⟨c,rfl,av⟩:=Bf hy;have bj:i<ls.length:=(zk.mp al).1;have be:ds[i]? =some l.2:=by rw[<-ag,zd,al];rfl
    rw[Ug (by rw[za];omega)]at av;obtain rfl:=zw av;obtain⟨dx,bd⟩:=(hL l (get_mem al)).same s3;have as:=Ur (m:=m) (o:=o) be;generalize bi:YS m o (ds.map jz.p) i=c at as;rw[as]at hN;generalize stI m o ds i=st0 at aa hN⊢;obtain⟨r0,g0⟩:=st0;have aa:r.map (·.2)=r0:=aa
    try dsimp only
    have n4:=iM (o:=.tup [V.ref l.1,V.int c]) bb;have ax:(upd H3 pt (.tup [V.ref l.1,V.int c])) pt=some (.tup [V.ref l.1,V.int c]):=iH;have S4:=s3.trans n4;have h4:=n4 _ _ h3;have af:=n4 _ _ ap;have am:=ad.same n4;have ab:=n4 _ _ bd;generalize upd H3 pt (.tup [V.ref l.1,V.int c])=H4 at S4 h4 af am ab ax;walk_at "i";refine⟨_,jD ax,rfl,_,_,rfl,_,_,rfl,rfl,?_⟩;unfold stp at hN;by_cases ai:c=0
    ·subst ai
     rw[zo rfl]at hN;refine⟨rfl,?_⟩;rw[zo rfl];exact rd ab T.agD T.agH (by rfl) ⟨_,rfl,hN _ _ ⟨r,_,_,_,rfl,S4,h4,af,am,aa,by omega⟩⟩
    ·rw[ze ai]at hN
     refine⟨rfl,?_⟩;rw[ze (by simpa using ai)];walk_at "m";refine⟨.inl ⟨rfl,_,iQ h4⟩,rd ab T.agD T.agE (by rfl) (rd ab T.agD T.agF (by rfl) (rd ab T.agD T.agH (by rfl) ⟨_,rfl,λz dz hz bf _=>?_⟩))⟩;refine qb (A:=A) ⟨l.2.n,l.2.s,c,l.2.c+g0⟩ hz bf λH5 s5 hZ=>?_;have h5:=s5 _ _ h4;refine⟨_,h5,by rw[jc,zq];omega,?_⟩;refine hN _ _ ⟨r++[(z,⟨l.2.n,l.2.s,c,l.2.c+g0⟩)],_,_,_,rfl,(S4.trans s5).upd ac,?_,(iU au.symm).trans (s5 _ _ af),λx hx=>?_,by rw[zv,aa];rfl,by rw[zA];show r.length+1<=_;omega⟩
     ·rw[iH];unfold jB;rw[zv];rfl
     ·have hx':mL A H5 x.1 x.2:=by
       rcases zK.mp hx with hx|hx
       ·exact(am x hx).same s5
       ·obtain rfl:=zC.mp hx
        exact hZ
      obtain⟨an,e⟩:=hx';exact⟨an,(iU λz=>by rw[z,h5]at e;cases e).trans e⟩
   ·rintro σ H3 ⟨r,v5,v6,v7,rfl,s3,h3,ap,ad,aa,ao⟩
    rw[jc]at aa ao⊢;walk_at "m";refine⟨_,.inl (iQ h3),?_⟩;rw[jc];have e:r≠[]:=λz=>ay (by rw[z]at aa;exact aa.symm);have bl:0<r.length:=yt.mpr e;rw[ze (by omega)];obtain⟨r',z,rfl⟩:∃r' z,r=r'++[z]:=⟨_,_,(List.dropLast_concat_getLast e).symm⟩;generalize stI m o ds ls.length=az at aa k;obtain⟨st,g⟩:=az;have aa:(r'++[z]).map (·.2)=st:=aa;subst aa;rw[zv]at k
    try dsimp only
    have ba:∃dz,H3 z.1=some (.ins A.ac3 dz z.2.fs):=ad z (zF _ zj);obtain⟨dz,hz⟩:=ba;walk_at "m";refine⟨.inl ⟨rfl,_,iQ h3⟩,pr,_,.ref z.1,rfl,rfl,h3,?_,?_⟩
    ·unfold jB;simp
    have bg:(jB (r'++[z])).dropLast=jB r':=by unfold jB;simp
    rw[bg];have h5:(upd H3 pr (.lst (jB r'))) pr=some (.lst (jB r')):=iH;have S5:=s3.upd (o:=.lst (jB r')) ac;have aq:∀{b:Addr}{u:HO},H3 b=some u->(∀xs,u≠.lst xs)->b≠pr:=λe n z=>by rw[z,h3]at e;exact n _ (zw e).symm
    have ah:(upd H3 pr (.lst (jB r'))) z.1=some (.ins A.ac3 dz z.2.fs):=(iU (aq hz λ_ z=>by cases z)).trans hz
    have aw:kY A (upd H3 pr (.lst (jB r'))) r':=λx hx=>by
     obtain⟨dx,e⟩:=ad x (yH _ hx);exact⟨dx,(iU (aq e λ_ z=>by cases z)).trans e⟩
    generalize upd H3 pr (.lst (jB r'))=H5 at h5 S5 ah aw
    try dsimp only
    walk_at "m";refine⟨.inl ⟨rfl,_,iQ h5⟩,md ah zj (by rfl) ⟨z.1,z.2,0,g,rfl,⟨dz,ah⟩,λy H6 s6 bm hY=>?_⟩⟩;have h6:=s6 _ _ h5;have bk:r'.length<101:=by rw[zA]at ao;omega
    refine⟨_,h6,by rw[jc,zq];omega,k pr (r'++[(y,⟨z.2.n,z.2.s,z.2.p+0,z.2.c+g⟩)]) _ ((S5.trans s6).upd ac) ac ?_ (λx hx=>?_) ?_⟩
    ·rw[iH];unfold jB;rw[zv];rfl
    ·have hx':mL A H6 x.1 x.2:=by
      rcases zK.mp hx with hx|hx
      ·exact(aw x hx).same s6
      ·obtain rfl:=zC.mp hx
       exact hY
     obtain⟨an,e⟩:=hx';exact⟨an,(iU λz=>by rw[z,h6]at e;cases e).trans e⟩
    ·rw[zv]
     show _=aiW (r'.map (·.2)++[z.2],g);rw[Oa,Int.add_zero];rfl
noncomputable def prt(sh wh:Int)(d:jz):jz:=⟨d.n,d.s,d.p,d.c*sh/wh⟩
noncomputable def rst(sh wh:Int)(d:jz):jz:=⟨d.n,d.s,d.p,d.c - d.c*sh/wh⟩
structure Shr(sh wh:Int):Prop where
 a:0<=sh/\sh<=10000000
 b:1<=wh/\wh<=10000000
def Shr.mul{q z c:Int}(h:Shr q z):Ab c q:=vd (by have:=h.a;omega) (by have:=h.a;omega)
def Shr.div{z q:Int}(h:Shr z q):Qa 0 q:=⟨by have:=h.b;omega,yx (show q.natAbs<=10000000 by have:=h.b;omega) (zG (show 10000000<2^24 by decide) (yI (by decide) (by decide)))⟩
inductive CN(A:Adr)(vs:List V)(H:Hp)(Q:VK)(E:XK):Prop
 |mk (q:Addr) (ls:RL) (sh wh:Int) (_:vs=[.ref q,.int sh,.int wh]) (_:H q=some (.lst (jB ls))) (_:kY A H ls) (_:ls.length<=100) (_:Shr sh wh) (_:∀t q1 q2 l1 l2 H',Same H H'->H q1=none->H q2=none->q1≠q2->H' t=some (.tup [.ref q1,.ref q2])->H' q1=some (.lst (jB l1))->H' q2=some (.lst (jB l2))->kY A H' l1->kY A H' l2->l1.map (·.2)=(ls.map (·.2)).map (rst sh wh)->l2.map (·.2)=(ls.map (·.2)).map (prt sh wh)->Q (.ref t) H'):CN A vs H Q E
def Mw(T:Txt K mg A D):jQ P w K mg base CX0 3 A.ab7 D.ab7 ["lots", "share", "whole"] (CN A):=by
 refine T.aee.F.okv qd λ_ _ _ _ H vs Q E hr h=>?_
 ·obtain⟨q,ls,sh,wh,rfl,hq,hL,hl,hW,k⟩:=h
  refine ⟨_,(iB (oO (i:=3) qd.nd rfl rfl (cap:=[none,some 1,some 2]) (N':=["lot", "share", "whole"]) rfl (by walk_at "c") (jW (K:=K) (pv 0)) (λ_ _ _ _=>(iW (i:=0) (show(["lot", "share", "whole"]:List Str).Nodup from by decide+kernel) rfl orl orr)) (λ_ _ _ _=>jP) (λ_ _ _ _=>(pcg (Ew T) hr T.adT (Jy T) (iz (fv K 0) (pav 1 (pav 2 iD))))))
   (iB (oO (i:=4) qd.nd rfl rfl (cap:=[none,none]) (N':=["lot", "part"]) rfl (by walk_at "c") (Lf (K:=K) (by rfl) T.ae6 (pav 0 (pav 3 iD))) (λ_ _ _ _=>(nO (K:=K) (n:=2) rfl (jy (iW (i:=0) (show(["lot", "part"]:List Str).Nodup from by decide+kernel) rfl orl orr) (jy (iW (i:=1) (show(["lot", "part"]:List Str).Nodup from by decide+kernel) rfl orl orr) nM)))) (λ_ _ _ _=>jP) (λ_ _ _ _=>(lR T.ag5 (jT (K:=K) T) (hr.mono (by decide)) (by rfl) T.afs (jY T) .nil jL (iz (fv K 0) (iz (fv K 0) (iz (fv K 0) (iz (ju pY (fv K 0) (pvD 1)) iD)))))))
   (iB (oO (i:=5) qd.nd rfl rfl (cap:=[none,none]) (N':=["lot", "part"]) rfl (by walk_at "c") (Lf (K:=K) (by rfl) T.ae6 (pav 0 (pav 3 iD))) (λ_ _ _ _=>(nO (K:=K) (n:=2) rfl (jy (iW (i:=0) (show(["lot", "part"]:List Str).Nodup from by decide+kernel) rfl orl orr) (jy (iW (i:=1) (show(["lot", "part"]:List Str).Nodup from by decide+kernel) rfl orl orr) nM)))) (λ_ _ _ _=>jP) (λ_ _ _ _=>(lR T.ag5 (jT (K:=K) T) (hr.mono (by decide)) (by rfl) T.afs (jY T) .nil jL (iz (fv K 0) (iz (fv K 0) (iz (fv K 0) (pav 1 iD)))))))
   (iG (iY (lY (pav 4 (pav 5 iD)))))))),?_⟩
  simp only[start_eq];walk_at "m";refine⟨⟨_,iQ hq⟩,?_⟩;refine lu.listE (K:=K) (λσ=>∃a,σ=[a,some (.int sh),some (.int wh)]) (λi v _=>∃l,ls[i]? =some l/\v=.int (l.2.c*sh/wh)) (iQ hq) ⟨_,rfl⟩ (by rw[jc,zq];omega) ?_ ?_
  ·rintro Da i x hx σ H5 R ⟨_,rfl⟩ sm hD _ kk
   obtain⟨l,ab,rfl⟩:=jU hx;obtain⟨dx,aa⟩:=(hL l (get_mem ab)).same sm;walk_at "i";exact rd aa T.agD T.agH (by rfl) ⟨_,_,_,rfl,hW.mul,hW.div,kk _ _ H5 ⟨_,rfl⟩ (same_refl _) λH' _=>⟨l,ab,rfl⟩⟩
  ·intro Da H1 acc hD s1 hA an hF
   rw[Cy (f:=λl=>l.2.c*sh/wh) (by rw[an,jc]) hF]at hA;walk_at "m";refine⟨⟨_,iQ (s1 _ _ hq)⟩,⟨_,iQ hA⟩,?_⟩;refine lu.zipE (K:=K) (λσ=>∃a b,σ=[a,b]) (λi v H'=>∃b l,ls[i]? =some l/\v=.ref b/\mL A H' b (rst sh wh l.2)) (iQ (s1 _ _ hq)) (iQ hA) (by rw[jc,za,za]) ⟨_,_,rfl⟩ (by rw[jc,zq];omega) ?_ ?_
   ·rintro Db i x y hx hy σ H5 p R ⟨_,_,rfl⟩ ai ao ⟨ajr,aj⟩ hp kk
    obtain⟨l,ab,rfl⟩:=jU hx;obtain⟨c,rfl,hc⟩:=Bf hy;rw[zd,ab]at hc;obtain rfl:=zw hc;obtain⟨dx,aa⟩:=(hL l (get_mem ab)).same (s1.trans ai);have aa:=iM (o:=.tup [V.ref l.1,V.int (l.2.c*sh/wh)]) hp _ _ aa;have ad:(upd H5 p (.tup [V.ref l.1,V.int (l.2.c*sh/wh)])) p=some (.tup [V.ref l.1,V.int (l.2.c*sh/wh)]):=iH;have af:=iM (o:=.tup [V.ref l.1,V.int (l.2.c*sh/wh)]) hp _ _ aj;generalize upd H5 p (.tup [V.ref l.1,V.int (l.2.c*sh/wh)])=H6 at aa ad af kk;walk_at "i";refine⟨_,jD ad,rfl,_,_,rfl,_,_,rfl,rfl,?_⟩;refine rd aa T.agD T.agE (by rfl) (rd aa T.agD T.agF (by rfl) (rd aa T.agD T.agG (by rfl) (rd aa T.agD T.agH (by rfl) ⟨_,rfl,_,rfl,λz dz hz ak _=>?_⟩)));refine qb (A:=A) (rst sh wh l.2) hz ak λH7 s7 hZ=>kk (.ref z) _ H7 ⟨_,_,rfl⟩ s7 λH' hb=>⟨z,l,ab,rfl,hZ.but (λe=>by rw[e,af]at hz;cases hz) hb⟩
   ·intro Db H2 al ao s2 ah ac ap
    rw[jc]at ac
    obtain ⟨l1,q1,q2,q3⟩:=Rr (λ_ H r=>mL A H r.1 r.2) (H:=H2) (acc:=al) (ds:=(ls.map (·.2)).map (rst sh wh)) (by rw[ac,za,za]) λi v hv=>by
     obtain⟨b,l,h1,h3,h4⟩:=ap i v hv;refine⟨b,_,?_,h3,h4⟩;rw[zd,zd,h1];rfl
    subst q1;have S2:=s1.trans s2;walk_at "m";refine⟨⟨_,iQ (S2 _ _ hq)⟩,⟨_,iQ (s2 _ _ hA)⟩,?_⟩;refine lu.zipE (K:=K) (λσ=>∃a b,σ=[a,b]) (λi v H'=>∃b l,ls[i]? =some l/\v=.ref b/\mL A H' b (prt sh wh l.2)) (iQ (S2 _ _ hq)) (iQ (s2 _ _ hA)) (by rw[jc,za,za]) ⟨_,_,rfl⟩ (by rw[jc,zq];omega) ?_ ?_
    ·rintro Dc i x y hx hy σ H5 p R ⟨_,_,rfl⟩ ai ag ⟨ajr,aj⟩ hp kk
     obtain⟨l,ab,rfl⟩:=jU hx;obtain⟨c,rfl,hc⟩:=Bf hy;rw[zd,ab]at hc;obtain rfl:=zw hc;obtain⟨dx,aa⟩:=(hL l (get_mem ab)).same (S2.trans ai);have aa:=iM (o:=.tup [V.ref l.1,V.int (l.2.c*sh/wh)]) hp _ _ aa;have ad:(upd H5 p (.tup [V.ref l.1,V.int (l.2.c*sh/wh)])) p=some (.tup [V.ref l.1,V.int (l.2.c*sh/wh)]):=iH;have af:=iM (o:=.tup [V.ref l.1,V.int (l.2.c*sh/wh)]) hp _ _ aj;generalize upd H5 p (.tup [V.ref l.1,V.int (l.2.c*sh/wh)])=H6 at aa ad af kk;walk_at "i";refine⟨_,jD ad,rfl,_,_,rfl,_,_,rfl,rfl,?_⟩;refine rd aa T.agD T.agE (by rfl) (rd aa T.agD T.agF (by rfl) (rd aa T.agD T.agG (by rfl) (λz dz hz ak _=>?_)));refine qb (A:=A) (prt sh wh l.2) hz ak λH7 s7 hZ=>kk (.ref z) _ H7 ⟨_,_,rfl⟩ s7 λH' hb=>⟨z,l,ab,rfl,hZ.but (λe=>by rw[e,af]at hz;cases hz) hb⟩
    ·intro Dc H3 am ag s3 aq ae ar
     rw[jc]at ae
     obtain ⟨l2,p1,p2,p3⟩:=Rr (λ_ H r=>mL A H r.1 r.2) (H:=H3) (acc:=am) (ds:=(ls.map (·.2)).map (prt sh wh)) (by rw[ae,za,za]) λi v hv=>by
      obtain⟨b,l,h1,h3,h4⟩:=ar i v hv;refine⟨b,_,?_,h3,h4⟩;rw[zd,zd,h1];rfl
     subst p1;have S3:=S2.trans s3;refine⟨sz,λt ht=>?_⟩;have st:=iM (o:=.tup [V.ref Db,V.ref Dc]) ht;exact k t Db Dc l1 l2 _ (S3.trans st) (s1.free ao) (S2.free ag) (λe=>by rw[e]at ah;rw[ah]at ag;cases ag) iH (st _ _ (s3 _ _ ah)) (st _ _ aq) ((kY.same q3 s3).same st) (kY.same p3 st) q2 p2
def Xp{f:jz->jz}(hf:∀d,(f d).n=d.n/\(f d).p=d.p){ls z:RL}(h:z.map (·.2)=(ls.map (·.2)).map f):Sim ls z:=by
 have q:∀l:RL,l.map VP=(l.map (·.2)).map λd=>(d.n,d.p):=λl=>by rw[zx];rfl
 unfold Sim;rw[q,q,h,zx];refine yj λd _=>?_;obtain⟨a,b⟩:=hf d;show((f d).n,(f d).p)=_;rw[a,b]
structure Vh(kvs:List (Key×V)):Prop where
 k:∀kv∈kvs,∃(z:Str)(i:Int),kv=(Sum.inr z,.int i)/\1<=i
 u:(kvs.map (·.1)).Nodup
def Vh.val{kvs:List (Key×V)}(h:Vh kvs)(z:Str):pG kvs (Sum.inr z)=if 0<jJ kvs z then some (.int (jJ kvs z))else none:=by
 unfold jJ
 cases e:pG kvs (Sum.inr z)with
 |none=>rfl
 |some v=>
  obtain⟨y,i,q,hi⟩:=h.k _ (El e);cases q;rw[zo (show(0:Int)<i by omega)]
def Vh.nn{kvs:List (Key×V)}(h:Vh kvs)(z:Str):0<=jJ kvs z:=by
 have:=h.val z;by_cases e:0<jJ kvs z
 ·omega
 ·rw[ze e]at this
  unfold jJ;rw[this];exact zzT _
def Cg{kvs:List (Key×V)}(h:Vh kvs)(z:Str):(pG kvs (Sum.inr z)).getD (.int 0)=.int (jJ kvs z):=by
 rw[h.val z];have:=h.nn z;split
 ·rfl
 ·show V.int 0=V.int (jJ kvs z)
  congr 1;omega
noncomputable def posK(kv:Key×V):Bool:=match kv.2 with
 |.int i=>decide (0<i)
 |_=>false
def ajx(kvs:List (Key×V))(k:Key)(v:V):(putK kvs k v).length<=kvs.length+1:=by
 unfold putK;split
 ·rw[za];omega
 ·rw[zA];exact zg _
noncomputable def Ge(kvs:List (Key×V))(z:Str)(n:Int):List (Key×V):=(putK kvs (Sum.inr z) (.int n)).filter posK
def Xn{kvs:List (Key×V)}(h:Vh kvs)(z:Str)(n:Int):Vh (Ge kvs z n):=by
 refine⟨λkv q=>?_,zzO (List.filter_sublist.map _) (Oh h.u)⟩;obtain⟨h1,h2⟩:=yB.mp q;rcases RB h1 with rfl|h1
 ·have h2:decide (0<n)=true:=h2
  exact⟨z,n,rfl,by have:=z8 h2;omega⟩
 ·exact h.k kv h1
theorem Ng:∀(ps:List (Key×V))(acc:List (Key×V)),((acc++ps).map (·.1)).Nodup->ps.foldl (λa p=>putK a p.1 p.2) acc=acc++ps
 |[],acc,_=>by rw[z5];rfl
 |p::ps,acc,hu=>by
  have q:pG acc p.1=none:=by
   cases h:pG acc p.1 with
   |none=>rfl
   |some v=>
    rw[zv,zl]at hu;exact absurd rfl ((yY.mp hu).2.2 p.1 (zi.mpr ⟨(p.1,v),El h,rfl⟩) p.1 zj)
  rw[zzi]
  have e:putK acc p.1 p.2=acc++[p]:=by
   unfold putK;rw[ze (by rw[oY,q];simp)]
  rw[e,Ng ps (acc++[p]) (by rw[yW];exact hu),yW];rfl
noncomputable def vK:V->Key
 |.str z=>Sum.inr z
 |.int i=>Sum.inl i
 |_=>Sum.inl 0
def alU(k:Key):vK (kV k)=k:=by cases k<;>rfl
noncomputable def kfD(H:Hp):V->Key
 |.ref b=>match H b with
  |some (.tup [x,_])=>vK x
  |_=>Sum.inl 0
 |_=>Sum.inl 0
noncomputable def vfD(H:Hp):V->V
 |.ref b=>match H b with
  |some (.tup [_,y])=>y
  |_=> .non
 |_=> .non
def Xm{H:Hp}{b:Addr}{q:Key×V}(h:H b=some (.tup [kV q.1,q.2])):kfD H (.ref b)=q.1:=by
 unfold kfD
 try dsimp only
 rw[h];exact alU _
def Wu{H:Hp}{b:Addr}{q:Key×V}(h:H b=some (.tup [kV q.1,q.2])):vfD H (.ref b)=q.2:=by
 unfold vfD
 try dsimp only
 rw[h]
def Xy{H:Hp}{ps:List (Key×V)}{acc:List V}(hl:acc.length=ps.length)(h:∀(i:Nat) v,acc[i]? =some v->∃q,ps[i]? =some q/\∃b,v=.ref b/\H b=some (.tup [kV q.1,q.2]))(hu:(ps.map (·.1)).Nodup):Mt (kfD H) (vfD H) acc=ps:=by
 have e:acc.map (λy=>(kfD H y,vfD H y))=ps:=by
  refine yX λi=>?_;rw[zd];by_cases hi:i<acc.length
  ·obtain⟨q,h1,b,h2,z⟩:=h i _ (zh hi)
   rw[zh hi,h2,h1];show some (kfD H (.ref b),vfD H (.ref b))=some q;rw[Xm z,Wu z]
  ·rw[zX (by omega),zX (by omega)]
   rfl
 have:=Ng (acc.map λy=>(kfD H y,vfD H y)) [] (by rw[zzj,e];exact hu);rw[List.foldl_map,zzj]at this;unfold Mt;rw[this,e]
inductive wj(vs:List V)(H:Hp)(Q:VK)(E:XK):Prop
 |mk (a:Addr) (kvs:List (Key×V)) (z:Str) (n:Int) (_:vs=[.ref a,.str z,.int n]) (_:Rd H a (.dK kvs)) (_:Vh kvs) (_:kvs.length<=100) (_:∀p H',Same H H'->H p=none->H' p=some (.dK (Ge kvs z n))->Q (.ref p) H'):wj vs H Q E
def vX(T:Txt K mg A D):jQ P w K mg base CX0 1 A.aca D.aca ["held", "ware", "pieces"] (wj):=by
 refine T.aeh.F.okv Fx λ_ _ _ _ H vs Q E hr h=>?_
 ·obtain⟨a,kvs,z,n,rfl,ha,hH,hl,k⟩:=h
  refine ⟨_,(iB (ji (i:=3) Fx.nd rfl orl (nq Ih (by rfl) T.ae9 (by decide+kernel) (pav 0 iD)))
   (iB (Be (uF hr) (pvD 3) (pvD 1) (pvD 2) rfl)
   (iG (iY (nq (qQ (K:=K) rfl) (by rfl) T.ae9 (by decide+kernel) (iz (jO (cap:=[none,none]) (N':=["name", "count"]) rfl (by walk_at "c") (Uq (Ib (K:=K) yd zzn PySem.F.type_dict_items Sv (pvD 3))) (λ_ _ _ _=>(nO (K:=K) (n:=2) rfl (jy (iW (i:=0) (show(["name", "count"]:List Str).Nodup from by decide+kernel) rfl orl orr) (jy (iW (i:=1) (show(["name", "count"]:List Str).Nodup from by decide+kernel) rfl orl orr) nM)))) (λ_ _ _ _=>(BL (jl (Ke) (pvD 1) iJ (jr _)))) (λ_ _ _ _=>(lY (pav 0 (pav 1 iD))))) iD)))))),?_⟩
  simp only[start_eq];walk_at "m";refine⟨_,ha,λq ab=>?_⟩;have n1:=iM (o:=.dK kvs) ab;have h1:(upd H q (.dK kvs)) q=some (.dK kvs):=iH;generalize upd H q (.dK kvs)=H1 at n1 h1;walk_at "m";obtain⟨P,hP⟩:∃P,putK kvs (Sum.inr z) (.int n)=P:=⟨_,rfl⟩;have ag:P.length<=101:=by rw[<-hP];have:=ajx kvs (Sum.inr z) (.int n);omega
  have ae:∀kv∈P,∃(y:Str)(i:Int),kv=(Sum.inr y,.int i):=λkv aa=>by
   rw[<-hP]at aa;rcases RB aa with rfl|h0
   ·exact⟨z,n,rfl⟩
   ·obtain⟨y,i,e,_⟩:=hH.k kv h0
    exact⟨y,i,e⟩
  refine⟨_,FN (k:=Sum.inr z) h1 (by rw[zq];omega),?_⟩;rw[hP];have s2:Same H (upd H1 q (.dK P)):=n1.upd ab;have h2:(upd H1 q (.dK P)) q=some (.dK P):=iH;generalize upd H1 q (.dK P)=H2 at s2 h2;refine⟨.inr (.inr (.inl ⟨rfl,.inl ⟨_,h2⟩⟩)),_,h2,λv hv=>⟨q,iH,P,?_,λo=>?_⟩⟩
  ·exact(iU (jN h2 hv)).trans h2
  have s3:Same H (upd (upd H2 v (Gk v q)) q (.frz o (.dK P))):=(s2.trans (iM hv)).upd ab;have h3:(upd (upd H2 v (Gk v q)) q (.frz o (.dK P))) q=some (.frz o (.dK P)):=iH;generalize upd (upd H2 v (Gk v q)) q (.frz o (.dK P))=H3 at s3 h3;refine lu.itemsF (λσ=>∃a b,σ=[a,b]) posK (λkv v H'=>∃b,v=.ref b/\H' b=some (.tup [kV kv.1,kv.2])) h3 ⟨_,_,rfl⟩ (by rw[zq];omega) ?_ ?_
  ·rintro D i kv aa σ H5 p R1 R2 ⟨_,_,rfl⟩ s5 hD ⟨acc,hA⟩ hp k1 k2
   obtain⟨y,j,rfl⟩:=ae kv (zm aa);have h6:(upd H5 p (.tup [kV (Sum.inr y),.int j])) p=some (.tup [.str y,.int j]):=iH;have ad:=iM (o:=.tup [kV (Sum.inr y),.int j]) hp _ _ hA;generalize upd H5 p (.tup [kV (Sum.inr y),.int j])=H6 at h6 ad k1 k2;walk_at "i";refine⟨_,jD h6,rfl,_,_,rfl,_,_,rfl,rfl,_,rfl,?_⟩;by_cases hj:0<j
   ·rw[zo hj]
    exact⟨sz,λt ht=>k1 (zE hj) _ _ _ ⟨_,_,rfl⟩ (iM ht) λH' hb=>⟨t,rfl,hb _ _ (λe=>by rw[e,ad]at ht;cases ht) iH⟩⟩
   ·rw[ze hj]
    exact k2 (zI hj) _ _ ⟨_,_,rfl⟩ (same_refl _)
  ·intro D H4 acc hD s4 hA ac hF
   have hF':∀(i:Nat) v,acc[i]? =some v->∃kv,(P.filter posK)[i]? =some kv/\∃b,v=.ref b/\H4 b=some (.tup [kV kv.1,kv.2]):=hF
   have af:((P.filter posK).map (·.1)).Nodup:=by
    have:=(Xn hH z n).u;unfold Ge at this
    rwa [hP]at this
   have ah:(P.filter posK).length<=101:=zV (yk _ _) ag;rw[ap_dictPairs];refine⟨acc,kfD H4,vfD H4,iQ hA,by omega,λy hy=>?_,λp hp=>?_⟩
   ·obtain⟨i,hi,e⟩:=zZ hy
    obtain⟨kv,_,b,rfl,hb⟩:=hF' i y (by rw[zh hi,e]);exact⟨b,rfl,by rw[Xm hb,Wu hb];exact jD hb⟩
   ·rw[Xy ac hF' af]
    have S:=s3.trans s4;refine k p _ (S.trans (iM hp)) (S.free hp) ?_;rw[iH];unfold Ge;rw[hP]
inductive tU(vs:List V)(H:Hp)(Q:VK)(E:XK):Prop
 |mk (a:Addr) (kvs:List (Key×V)) (z:Str) (n:Int) (_:vs=[.ref a,.str z,.int n]) (_:Rd H a (.dK kvs)) (_:Vh kvs) (_:kvs.length<=100) (_:∀p H',Same H H'->H p=none->H' p=some (.dK (Ge kvs z (jJ kvs z+n)))->Q (.ref p) H'):tU vs H Q E
def oU(T:Txt K mg A D):jQ P w K mg base CX0 2 A.acb D.acb ["held", "ware", "pieces"] (tU):=by
 refine T.aei.F.okv Et λ_ _ _ _ H vs Q E q h=>?_
 ·obtain⟨a,kvs,z,n,rfl,ha,hH,hl,k⟩:=h
  refine⟨_,(iG (iY (pcg (vX T) q T.aeh (Bp T) (pav 0 (pav 1 (iz (ju kE (pq (uF q) (pvD 0) (pvD 1) iJ ⟨rfl,rfl,rfl,rfl⟩) (pvD 2)) iD)))))),?_⟩;walk_at "a";exact⟨.inl ⟨_,ha⟩,_,.inl ⟨kvs,Sum.inr z,ha,rfl,rfl⟩,jJ kvs z,Cg hH z,a,kvs,z,_,rfl,ha,hH,hl,k⟩
inductive rE(vs:List V)(H:Hp)(Q:VK)(E:XK):Prop
 |mk (a:Addr) (kvs:List (Key×V)) (z:Str) (n:Int) (_:vs=[.ref a,.str z,.int n]) (_:Rd H a (.dK kvs)) (_:Vh kvs) (_:kvs.length<=100) (_:(jJ kvs z<n->Q .non H)) (_:(n<=jJ kvs z->∀p H',Same H H'->H p=none->H' p=some (.dK (Ge kvs z (jJ kvs z - n)))->Q (.ref p) H')):rE vs H Q E
def qZ(T:Txt K mg A D):jQ P w K mg base CX0 2 A.ace D.ace ["held", "ware", "pieces"] (rE):=by
 refine T.aek.F.okv rA λ_ _ _ _ H vs Q E hr h=>?_
 ·obtain⟨a,kvs,z,n,rfl,ha,q,hl,k1,k2⟩:=h
  refine ⟨_,(iB (ji (i:=3) rA.nd rfl orl (pq (uF hr) (pvD 0) (pvD 1) iJ ⟨rfl,rfl,rfl,rfl⟩))
   (iB (jX (jl (Qz) (pvD 3) (pvD 2) (jr _)) (iG (iY nu)) jx)
   (iG (iY (pcg (vX T) hr T.aeh (Bp T) (pav 0 (pav 1 (iz (ju pY (pvD 3) (pvD 2)) iD)))))))),?_⟩
  simp only[start_eq];walk_at "m";refine⟨.inl ⟨_,ha⟩,_,.inl ⟨kvs,Sum.inr z,ha,rfl,rfl⟩,?_⟩;rw[Cg q z];walk_at "m";by_cases c:jJ kvs z<n
  ·rw[zo c]
   exact k1 c
  ·rw[ze c]
   exact⟨a,kvs,z,_,rfl,ha,q,hl,k2 (by omega)⟩
noncomputable def Ent.beh:Ent->List (Key×V)->Option (List (Key×V))
 |.buy _ _ w p _ _,kvs=>some (Ge kvs w (jJ kvs w+p))
 |.sell _ _ w p _ _ _,kvs=>if jJ kvs w<p then none else some (Ge kvs w (jJ kvs w - p))
 |.gift _ _ w p _ _,kvs=>some (Ge kvs w (jJ kvs w+p))
 |.give _ _ w p _,kvs=>if jJ kvs w<p then none else some (Ge kvs w (jJ kvs w - p))
 |.split _ _ w m f,kvs=>if 0<jJ kvs w/\jJ kvs w*m/f=0 then none else some (Ge kvs w (jJ kvs w*m/f))
 |.part _ _ w u _ _,kvs=>some (Ge kvs u (jJ kvs u+jJ kvs w))
inductive CP(A:Adr)(isK:Ent->Bool)(vs:List V)(H:Hp)(Q:VK)(E:XK):Prop
 |mk (x a:Addr) (e:Ent) (kvs:List (Key×V)) (_:isK e=true) (_:vs=[.ref x,.ref a]) (_:IsE A H x e) (_:e.good) (_:Rd H a (.dK kvs)) (_:Vh kvs) (_:kvs.length<=100) (_:(e.beh kvs=none->∀H',Same H H'->Q .non H')) (_:∀kv2,e.beh kvs=some kv2->∀p H',Same H H'->H p=none->H' p=some (.dK kv2)->Q (.ref p) H'):CP A isK vs H Q E
def Dw(T:Txt K mg A D):jQ P w K mg base CX0 3 A.acd D.acd ["self", "held"] (CP A Bc):=by
 refine T.aej.okv Cp λ_ _ _ _ H vs Q E hr h=>?_
 ·obtain⟨x,a,e,kvs,hk,rfl,⟨dx,nv,z,hn⟩,hg,ha,hH,hl,k1,k2⟩:=h
  refine⟨_,(iG (iY (pcg (oU T) hr T.aei (pP T) (pav 1 (iz (fv K 0) (iz (fv K 0) iD)))))),?_⟩
  cases e with
  |buy d n w p r f=>
   walk_at "a";exact rd z T.afQ T.afU (by rfl) (rd z T.afQ T.afV (by rfl) ⟨a,kvs,w,p,rfl,ha,hH,hl,λq H' s h1 h2=>k2 _ rfl q H' s h1 h2⟩)
  |_=>cases hk
def BK(T:Txt K mg A D):jQ P w K mg base CX0 3 A.acf D.acf ["self", "held"] (CP A rP):=by
 refine T.ael.okv Cd λ_ _ _ _ H vs Q E hr h=>?_
 ·obtain⟨x,a,e,kvs,hk,rfl,⟨dx,nv,z,hn⟩,hg,ha,hH,hl,k1,k2⟩:=h
  refine⟨_,(iG (iY (pcg (qZ T) hr T.aek (tZ T) (pav 1 (iz (fv K 0) (iz (fv K 0) iD)))))),?_⟩
  cases e with
  |sell d n w p r f o=>
   walk_at "a";refine rd z T.afZ T.af3 (by rfl) (rd z T.afZ T.af4 (by rfl) ⟨a,kvs,w,p,rfl,ha,hH,hl,λc=>k1 (zo c) H (same_refl _),λc q H' s h1 h2=>k2 _ (ze (by omega)) q H' s h1 h2⟩)
  |_=>cases hk
def BP(T:Txt K mg A D):jQ P w K mg base CX0 3 A.acg D.acg ["self", "held"] (CP A sJ):=by
 refine T.aem.okv Bd λ_ _ _ _ H vs Q E hr h=>?_
 ·obtain⟨x,a,e,kvs,hk,rfl,⟨dx,nv,z,hn⟩,hg,ha,hH,hl,k1,k2⟩:=h
  refine⟨_,(iG (iY (pcg (oU T) hr T.aei (pP T) (pav 1 (iz (fv K 0) (iz (fv K 0) iD)))))),?_⟩
  cases e with
  |gift d n w p c s=>
   walk_at "a";exact rd z T.af9 T.agd (by rfl) (rd z T.af9 T.age (by rfl) ⟨a,kvs,w,p,rfl,ha,hH,hl,λq H' s h1 h2=>k2 _ rfl q H' s h1 h2⟩)
  |_=>cases hk
def Bv(T:Txt K mg A D):jQ P w K mg base CX0 3 A.ach D.ach ["self", "held"] (CP A sO):=by
 refine T.aen.okv BX λ_ _ _ _ H vs Q E hr h=>?_
 ·obtain⟨x,a,e,kvs,hk,rfl,⟨dx,nv,z,hn⟩,hg,ha,hH,hl,k1,k2⟩:=h
  refine⟨_,(iG (iY (pcg (qZ T) hr T.aek (tZ T) (pav 1 (iz (fv K 0) (iz (fv K 0) iD)))))),?_⟩
  cases e with
  |give d n w p o=>
   walk_at "a";refine rd z T.agh T.agl (by rfl) (rd z T.agh T.agm (by rfl) ⟨a,kvs,w,p,rfl,ha,hH,hl,λc=>k1 (zo c) H (same_refl _),λc q H' s h1 h2=>k2 _ (ze (by omega)) q H' s h1 h2⟩)
  |_=>cases hk
def xZ(T:Txt K mg A D):jQ P w K mg base CX0 2 A.aci D.aci ["self", "held"] (CP A oZ):=by
 refine T.aeo.okv nj λ_ _ _ _ H vs Q E hr h=>?_
 ·obtain⟨x,a,e,kvs,hk,rfl,⟨dx,nv,hx,hn⟩,hg,ha,hH,hl,k1,k2⟩:=h
  refine ⟨_,(iB (ji (i:=2) nj.nd rfl orl (pq (uF hr) (pvD 1) (fv K 0) iJ ⟨rfl,rfl,rfl,rfl⟩))
   (iB (ji (i:=3) nj.nd rfl orl (ju rK (ju mH (pvD 2) (fv K 0)) (fv K 0)))
   (iB (jX (PW.pt (Qi (jl (Ke) (pvD 2) iJ (jr _)) (Iw (jl (mW) (pvD 3) iJ (jr _))))) (iG (iY nu)) jx)
   (iG (iY (pcg (vX T) hr T.aeh (Bp T) (pav 1 (iz (fv K 0) (pav 3 iD))))))))),?_⟩
  cases e with
  |split d n w m f=>
   simp only[start_eq];walk_at "m";obtain⟨_,⟨ah,af⟩,ag,ae⟩:=hg;refine⟨.inl ⟨_,ha⟩,rd hx T.ago T.ags (by rfl) ⟨_,.inl ⟨kvs,Sum.inr w,ha,rfl,rfl⟩,?_⟩⟩;rw[Cg hH w];walk_at "m"
   refine ⟨_,dx,_,hx,T.ago,T.agt,_,by rfl,_,rfl,vd (by omega) (by omega),_,dx,_,hx,T.ago,T.agu,_,by rfl,_,rfl,⟨by omega,by
    have:f.natAbs<=1000:=by omega
    exact yx this (by decide)⟩,?_⟩
   walk_at "m"
   have ac:¬(0<jJ kvs w/\jJ kvs w*m/f=0)->∃aa ad ab,H x=some (HO.ins aa ad ab)/\Cls K aa/\jg K aa (Str.ofString "ware")/\∃x,List.lookup (Str.ofString "ware") ab=some x/\wj [V.ref a,x,V.int (jJ kvs w*m/f)] H Q E0:=λc=>
    (rd hx T.ago T.ags (by rfl) ⟨a,kvs,w,_,rfl,ha,hH,hl,λq H' s h1 h2=>k2 _ (ze c) q H' s h1 h2⟩)
   split
   ·rename_i c1
    split
    ·rename_i c2
     exact k1 (zo ⟨c1,c2⟩) H (same_refl _)
    ·rename_i c2
     exact ac λz=>c2 z.2
   ·rename_i c1
    exact ac λz=>c1 z.1
  |_=>cases hk
def vL(T:Txt K mg A D):jQ P w K mg base CX0 3 A.acj D.acj ["self", "held"] (CP A sZ):=by
 refine T.aep.okv vJ λ_ _ _ _ H vs Q E hr h=>?_
 ·obtain⟨x,a,e,kvs,hk,rfl,⟨dx,nv,hx,hn⟩,hg,ha,z,hl,k1,k2⟩:=h
  refine⟨_,(iG (iY (pcg (oU T) hr T.aei (pP T) (pav 1 (iz (fv K 0) (iz (pq (uF hr) (pvD 1) (fv K 0) iJ ⟨rfl,rfl,rfl,rfl⟩) iD)))))),?_⟩
  cases e with
  |part d n w u s t=>
   walk_at "a";refine rd hx T.afI T.afN (by rfl) ⟨.inl ⟨_,ha⟩,rd hx T.afI T.afM (by rfl) ⟨_,.inl ⟨kvs,Sum.inr w,ha,rfl,rfl⟩,?_⟩⟩;rw[Cg z w];exact⟨a,kvs,u,_,rfl,ha,z,hl,λq H' s h1 h2=>k2 _ rfl q H' s h1 h2⟩
  |_=>cases hk
abbrev SP5:=List (Addr×jz×Int)
noncomputable def Gm(ps:SP5):List V:=ps.map λr=>V.ref r.1
def ut(ps:SP5):(Gm ps).length=ps.length:=by unfold Gm;rw[za]
def Jf{rs:SP5}{i:Nat}{y:V}(h:(Gm rs)[i]? =some y):∃r,rs[i]? =some r/\y=.ref r.1:=by
 unfold Gm at h;rw[zd]at h
 cases e:rs[i]? with
 |none=>rw[e]at h;cases h
 |some r=>rw[e]at h;exact⟨r,rfl,(zw h).symm⟩
structure jR where
 n:Int
 d:Int
 w:Str
 pr:Int
 pl:Addr
 ps:SP5
 lo:Option Int
noncomputable def loV:Option Int->V
 |none=> .non
 |some i=> .int i
noncomputable def jR.fs(s:jR):List (Str×V):=[("number",.int s.n),("day",.int s.d),("ware",.str s.w),("proceeds",.int s.pr),("parts",.ref s.pl),("laid_on",loV s.lo)]
noncomputable def jR.co(s:jR):Int:=(s.ps.map λr=>r.2.1.c).sum
noncomputable def jR.cnt(s:jR):Int:=if s.lo=none then s.pr - s.co else 0
noncomputable def ajD(H:Hp)(ps:SP5):Prop:=∀r∈ps,H r.1=some (.tup (r.2.1.vs++[.int r.2.2]))
structure kI(A:Adr)(H:Hp)(x:Addr)(s:jR):Prop where
 i:∃dx,H x=some (.ins A.ac5 dx s.fs)
 p:H s.pl=some (.lst (Gm s.ps))
 t:ajD H s.ps
 l:s.ps.length<=61
def ajD.same{H H':Hp}{ps:SP5}(h:ajD H ps)(s:Same H H'):ajD H' ps:=λr q=>s _ _ (h r q)
theorem kI.same{H H':Hp}{x:Addr}{d:jR}(h:kI A H x d)(s:Same H H'):kI A H' x d:=⟨let⟨dx,e⟩:=h.i;⟨dx,s _ _ e⟩,s _ _ h.p,h.t.same s,h.l⟩
def ajr{ps:SP5}{acc:List V}(z:acc.length=ps.length)(h:∀(i:Nat) v,acc[i]? =some v->∃r,ps[i]? =some r/\v=.int r.2.1.c):acc=(ps.map λr=>r.2.1.c).map V.int:=by
 refine zzC (by simp[z]) λi h1 h2=>?_;obtain⟨l,q,e2⟩:=h i acc[i] (by simp);rw[e2];have h3:i<ps.length:=by omega
 have:ps[i]=l:=by
  rw[zh h3]at q;exact zw q
 simp[this]
inductive vG(vs:List V)(H:Hp)(Q:VK)(E:XK):Prop
 |mk (p:Addr) (ps:SP5) (_:vs=[.ref p]) (_:H p=some (.lst (Gm ps))) (_:ajD H ps) (_:ps.length<=61) (_:∀H',Same H H'->Q (.int (ps.map λr=>r.2.1.c).sum) H'):vG vs H Q E
def vg(T:Txt K mg A D):jQ P w K mg base CX0 1 A.abC D.abC ["parts"] vG:=by
 refine T.adJ.F.okv Gs λ_ _ _ _ H vs Q E hr h=>?_
 ·obtain⟨p,ps,rfl,hp,hT,hl,k⟩:=h
  refine⟨_,(iG (iY (jt (mO (K:=K) rfl) (by rfl) T.ae8 (by decide+kernel) (iz (jO (cap:=[none,none,none,none,none]) (N':=["lot", "since", "pieces", "cost", "share"]) rfl (by walk_at "c") (jW (K:=K) (pv 0)) (λ_ _ _ _=>(nO (K:=K) (n:=5) rfl (jy (iW (i:=0) (show(["lot", "since", "pieces", "cost", "share"]:List Str).Nodup from by decide+kernel) rfl orl orr) (jy (iW (i:=1) (show(["lot", "since", "pieces", "cost", "share"]:List Str).Nodup from by decide+kernel) rfl orl orr) (jy (iW (i:=2) (show(["lot", "since", "pieces", "cost", "share"]:List Str).Nodup from by decide+kernel) rfl orl orr) (jy (iW (i:=3) (show(["lot", "since", "pieces", "cost", "share"]:List Str).Nodup from by decide+kernel) rfl orl orr) (jy (iW (i:=4) (show(["lot", "since", "pieces", "cost", "share"]:List Str).Nodup from by decide+kernel) rfl orl orr) nM))))))) (λ_ _ _ _=>jP) (λ_ _ _ _=>(pvD 3))) iD)))),?_⟩;walk_at "a";refine⟨⟨_,iQ hp⟩,?_⟩;refine lu.listE (K:=K) (λσ=>∃a b c d e,σ=[a,b,c,d,e]) (λi v _=>∃r,ps[i]? =some r/\v=.int r.2.1.c) (iQ hp) ⟨_,_,_,_,_,rfl⟩ (by rw[ut,zq];omega) ?_ ?_
  ·rintro Da i x hx σ H5 R ⟨_,_,_,_,_,rfl⟩ sm hD _ kk
   obtain⟨r,q,rfl⟩:=Jf hx;have ht:=sm _ _ (hT r (zm q));walk_at "i";exact⟨_,jD ht,rfl,_,_,rfl,_,_,rfl,_,_,rfl,_,_,rfl,_,_,rfl,rfl,kk _ _ H5 ⟨_,_,_,_,_,rfl⟩ (same_refl _) λH' _=>⟨r,q,rfl⟩⟩
  ·intro Da H' acc hD sm hA z hF
   rw[ajr (by rw[z,ut]) hF]at hA;walk_at "a";exact⟨_,iQ hA,k H' sm⟩
inductive vB(A:Adr)(vs:List V)(H:Hp)(Q:VK)(E:XK):Prop
 |mk (x p:Addr) (n d pr:Int) (w:Str) (lo:Option Int) (ps:SP5) (B:Hp) (dx:Addr) (_:vs=[.ref x,.int n,.int d,.str w,.int pr,.ref p,loV lo]) (_:New B H x A.ac5 dx []) (_:B p=some (.lst (Gm ps))) (_:ajD B ps) (_:ps.length<=61) (_:∀pl H',Same B H'->B pl=none->kI A H' x ⟨n,d,w,pr,pl,ps,lo⟩->Q .non H'):vB A vs H Q E
def pQ(T:Txt K mg A D):jQ P w K mg base CX0 1 A.abG D.abG ["self", "number", "day", "ware", "proceeds", "parts", "laid_on"] (vB A):=by
 refine T.adN.okv Gh λ_ _ _ _ H vs Q E hr h=>?_
 ·obtain⟨x,p,n,d,pr,w,lo,ps,B,dx,rfl,q,hp,hT,hl,k⟩:=h
  refine ⟨_,(iB (jA (K:=K) (pv 0) (pvD 1) rfl)
   (iB (jA (K:=K) (pv 0) (pvD 2) rfl)
   (iB (jA (K:=K) (pv 0) (pvD 3) rfl)
   (iB (jA (K:=K) (pv 0) (pvD 4) rfl)
   (iB (jA (K:=K) (pv 0) (nq (xU (K:=K)) (by rfl) T.ae4 (by decide+kernel) (pav 5 iD)) rfl)
   (iG (jA (K:=K) (pv 0) (pvD 6) rfl))))))),?_⟩
  simp only[start_eq];refine jK λu hu=>?_;rw[ap_seq];walk_at "i";refine sw q.h T.agS T.agT (by decide) ?_;rw[xR _ _ (by decide+kernel)];have q:=q.put (gs:=[]++[(Str.ofString "number",V.int n)]) rfl;generalize upd H x _=G1 at q⊢;subst hu
  try dsimp only
  refine jK λu hu=>?_;rw[ap_seq];walk_at "i";refine sw q.h T.agS T.agU (by simp) ?_;rw[mj (f:=Str.ofString "day") ["number"]];have q:=q.put (gs:=([]++[(Str.ofString "number",V.int n)])++[(Str.ofString "day",V.int d)]) rfl;generalize upd G1 x _=G2 at q⊢;subst hu
  try dsimp only
  refine jK λu hu=>?_;rw[ap_seq];walk_at "i";refine sw q.h T.agS T.agV (by simp) ?_;rw[mj (f:=Str.ofString "ware") ["number", "day"]];have q:=q.put (gs:=(([]++[(Str.ofString "number",V.int n)])++[(Str.ofString "day",V.int d)])++[(Str.ofString "ware",V.str w)]) rfl;generalize upd G2 x _=G3 at q⊢;subst hu
  try dsimp only
  refine jK λu hu=>?_;rw[ap_seq];walk_at "i";refine sw q.h T.agS T.agW (by simp) ?_;rw[mj (f:=Str.ofString "proceeds") ["number", "day", "ware"]];have q:=q.put (gs:=((([]++[(Str.ofString "number",V.int n)])++[(Str.ofString "day",V.int d)])++[(Str.ofString "ware",V.str w)])++[(Str.ofString "proceeds",V.int pr)]) rfl;generalize upd G3 x _=G4 at q⊢;subst hu
  try dsimp only
  refine jK λu hu=>?_;rw[ap_seq];walk_at "i";refine⟨_,.inl (iQ (q.s _ _ hp)),λpl z=>?_⟩;have aa:pl≠x:=λe=>by rw[e,q.h]at z;cases z
  have ab:=q.s.free z;have q:=q.same (iM (o:=.lst (Gm ps)) z);have hq:(upd G4 pl (.lst (Gm ps))) pl=some (.lst (Gm ps)):=iH;generalize upd G4 pl _=H5 at q hq⊢;refine sw q.h T.agS T.agX (by simp) ?_;rw[mj (f:=Str.ofString "parts") ["number", "day", "ware", "proceeds"]];have q:=q.put (gs:=(((([]++[(Str.ofString "number",V.int n)])++[(Str.ofString "day",V.int d)])++[(Str.ofString "ware",V.str w)])++[(Str.ofString "proceeds",V.int pr)])++[(Str.ofString "parts",V.ref pl)]) rfl;have hq:=(iU (o:=HO.ins A.ac5 dx ((((([]++[(Str.ofString "number",V.int n)])++[(Str.ofString "day",V.int d)])++[(Str.ofString "ware",V.str w)])++[(Str.ofString "proceeds",V.int pr)])++[(Str.ofString "parts",V.ref pl)])) aa).trans hq;generalize upd H5 x _=G5 at q hq⊢;subst hu
  try dsimp only
  walk_at "i";refine sw q.h T.agS T.agY (by simp) ?_;rw[mj (f:=Str.ofString "laid_on") ["number", "day", "ware", "proceeds", "parts"]];have S:=q.s.upd (o:=HO.ins A.ac5 dx (((((([]++[(Str.ofString "number",V.int n)])++[(Str.ofString "day",V.int d)])++[(Str.ofString "ware",V.str w)])++[(Str.ofString "proceeds",V.int pr)])++[(Str.ofString "parts",V.ref pl)])++[(Str.ofString "laid_on",loV lo)])) q.n;exact k pl _ S ab ⟨⟨dx,iH⟩,(iU aa).trans hq,hT.same S,hl⟩
inductive Ws(A:Adr)(f:jR->Int)(vs:List V)(H:Hp)(Q:VK)(E:XK):Prop
 |mk (x:Addr) (s:jR) (_:vs=[.ref x]) (_:kI A H x s) (_:∀H',Same H H'->Q (.int (f s)) H'):Ws A f vs H Q E
def pA(T:Txt K mg A D):jQ P w K mg base CX0 2 A.abD D.abD ["self"] (Ws A λs=>s.pr - s.co):=by
 refine T.adK.okv QK λ_ _ _ _ H vs Q E z h=>?_
 ·obtain⟨x,s,rfl,q,k⟩:=h
  refine⟨_,(iG (iY (ju pY (fv K 0) (pcg (vg T) z T.adJ (vW T) (iz (fv K 0) iD))))),?_⟩;obtain⟨dx,hi⟩:=q.i;walk_at "a";exact rd hi T.agS T.agW (by rfl) (rd hi T.agS T.agX (by rfl) ⟨s.pl,s.ps,rfl,q.p,q.t,q.l,λH' s'=>⟨_,rfl,_,rfl,k H' s'⟩⟩)
def Io(T:Txt K mg A D):jQ P w K mg base CX0 3 A.acP D.acP ["self"] (Ws A jR.cnt):=by
 refine T.aeV.okv Jd λ_ _ _ _ H vs Q E z h=>?_
 ·obtain⟨x,s,rfl,q,k⟩:=h
  refine⟨_,(iG (iY (uR (jl (Fy) (fv K 0) nu (jr _)) (lU (pv 0) (mc T.agS T.ahi (pA T) z (qw T) .nil) jL) iJ))),?_⟩;obtain⟨dx,hi⟩:=q.i;walk_at "a";refine rd hi T.agS T.agY (v:=loV s.lo) (by rfl) (?_);unfold jR.cnt at k
  cases e:s.lo with
  |none=>
   rw[zo (show loV none=V.non from rfl)];rw[e,zo rfl]at k;exact md hi zj (by rfl) ⟨x,s,rfl,q,k⟩
  |some i=>
   rw[ze (show¬loV (some i)=V.non from λc=>by cases c)];rw[e,ze (λc=>by cases c)]at k;exact k H (same_refl _)
inductive vZ(A:Adr)(vs:List V)(H:Hp)(Q:VK)(E:XK):Prop
 |mk (x:Addr) (s:jR) (_:vs=[.ref x]) (_:kI A H x s) (_:∀y pl H',Same H H'->H y=none->H pl=none->kI A H' y {s with pl:=pl}->Q (.ref y) H'):vZ A vs H Q E
def IW(T:Txt K mg A D):jQ P w K mg base CX0 3 A.act D.act ["sale"] (vZ A):=by
 refine T.aez.F.okv JP λ_ _ _ _ H vs Q E hr h=>?_
 ·obtain⟨x,s,rfl,q,k⟩:=h
  refine⟨_,(iG (iY (lR T.ag6 (pQ (K:=K) T) (hr.mono (by decide)) (by rfl) T.afu (qM T) .nil jL (iz (fv K 0) (iz (fv K 0) (iz (fv K 0) (iz (fv K 0) (iz (fv K 0) (iz (fv K 0) iD))))))))),?_⟩;obtain⟨dx,hi⟩:=q.i;walk_at "a";refine rd hi T.agS T.agT (by rfl) (rd hi T.agS T.agU (by rfl) (rd hi T.agS T.agV (by rfl) (rd hi T.agS T.agW (by rfl) (rd hi T.agS T.agX (by rfl) (rd hi T.agS T.agY (by rfl) (λy dy hy aa _=>?_))))));exact⟨y,s.pl,s.n,s.d,s.pr,s.w,s.lo,s.ps,H,dy,rfl,pX hy aa,q.p,q.t,q.l,λpl H' s' z hS=>⟨rfl,k y pl H' s' hy z hS⟩⟩
theorem SN{H:Hp}:∀{acc:List V}{ls:RL}{cs:List Int},acc.length=ls.length->cs.length=ls.length->(∀(i:Nat) v,acc[i]? =some v->∃b l c,ls[i]? =some l/\cs[i]? =some c/\v=.ref b/\H b=some (.tup (l.2.vs++[.int c])))->∃ps:SP5,acc=Gm ps/\ps.map (λr=>r.2.1)=ls.map (·.2)/\ps.map (λr=>r.2.2)=cs/\ajD H ps
 |[],[],[],_,_,_=>⟨[],rfl,rfl,rfl,λr h=>(zn h).elim⟩
 |[],_::_,_,h,_,_=>by simp at h
 |_::_,[],_,h,_,_=>by simp at h
 |_,_::_,[],_,h,_=>by simp at h
 |_,[],_::_,_,h,_=>by simp at h
 |v::acc,l::ls,c::cs,hl,hc,h=>by
  obtain⟨b,l',c',e,z,rfl,hb⟩:=h 0 v rfl;cases e;cases z;obtain⟨ps,e1,e2,e4,e3⟩:=SN (acc:=acc) (ls:=ls) (cs:=cs) (by simpa using hl) (by simpa using hc) λi v hv=>h (i+1) v hv;refine⟨(b,l.2,c)::ps,by rw[e1];rfl,by rw[zl,e2];rfl,by rw[zl,e4],λr q=>?_⟩;rcases zu.mp q with rfl|q
  ·exact hb
  ·exact e3 r q
inductive Lg(A:Adr)(vs:List V)(H:Hp)(Q:VK)(E:XK):Prop
 |mk (x q:Addr) (d n p r f:Int) (w:Str) (o:Option Rs) (ls:RL) (_:vs=[.ref x,.ref q]) (_:IsE A H x (.sell d n w p r f o)) (_:H q=some (.lst (jB ls))) (_:kY A H ls) (_:ls≠[]) (_:ls.length<=60) (_:(∀l∈ls,1<=l.2.p)) (_:pcs ls<2^63) (_:∀y s H',Same H H'->H y=none->H s.pl=none->kI A H' y s->s.n=n->s.d=d->s.w=w->s.pr=p*r - f->s.lo=none->s.ps.map (λr=>r.2.1)=ls.map (·.2)->(s.ps.map λr=>r.2.2).sum=s.pr->Q (.ref y) H'):Lg A vs H Q E
def Vg(T:Txt K mg A D):jQ P w K mg base CX0 3 A.abO D.abO ["entry", "lots"] (Lg A):=by
 refine T.adV.F.okv En λ_ _ _ _ H vs Q E hr h=>?_
 ·obtain⟨x,q,d,n,p,r,f,w,o,ls,rfl,⟨dx,nv,hx,_⟩,hq,hL,ar,hl,hp,hb,k⟩:=h
  refine ⟨_,(iB (ji (i:=2) En.nd rfl orl (pcg (Ux T) hr T.adU (WP T) (iz (fv K 0) (iz (jO (cap:=[none]) (N':=["lot"]) rfl (by walk_at "c") (jW (K:=K) (pv 1)) (λ_ _ _ _=>(iW (i:=0) nd1 rfl orl orr)) (λ_ _ _ _=>jP) (λ_ _ _ _=>(fv K 0))) iD))))
   (iB (oO (i:=3) En.nd rfl rfl (cap:=[none,none]) (N':=["lot", "share"]) rfl (by walk_at "c") (Lf (K:=K) (by rfl) T.ae6 (pav 1 (pav 2 iD))) (λ_ _ _ _=>(nO (K:=K) (n:=2) rfl (jy (iW (i:=0) (show(["lot", "share"]:List Str).Nodup from by decide+kernel) rfl orl orr) (jy (iW (i:=1) (show(["lot", "share"]:List Str).Nodup from by decide+kernel) rfl orl orr) nM)))) (λ_ _ _ _=>jP) (λ_ _ _ _=>(lY (iz (fv K 0) (iz (fv K 0) (iz (fv K 0) (iz (fv K 0) (pav 1 iD))))))))
   (iG (iY (lR T.ag6 (pQ (K:=K) T) (hr.mono (by decide)) (by rfl) T.afu (qM T) .nil jL (iz (fv K 0) (iz (fv K 0) (iz (fv K 0) (iz (fv K 0) (pav 3 (iz nu iD))))))))))),?_⟩
  simp only[start_eq];walk_at "m";refine rd hx T.afZ T.af8 (by rfl) ⟨⟨_,iQ hq⟩,?_⟩;refine lu.listE (K:=K) (λσ=>∃a,σ=[a]) (λi v _=>∃l,ls[i]? =some l/\v=.int l.2.p) (iQ hq) ⟨_,rfl⟩ (by rw[jc,zq];omega) ?_ ?_
  ·rintro Da i y hy σ H5 R ⟨_,rfl⟩ sm hD _ kk
   obtain⟨l,ab,rfl⟩:=jU hy;obtain⟨dl,aa⟩:=(hL l (get_mem ab)).same sm;walk_at "i";exact rd aa T.agD T.agG (by rfl) (kk _ _ H5 ⟨_,rfl⟩ (same_refl _) λH' _=>⟨l,ab,rfl⟩)
  ·intro D1 H1 acc ba s1 hA ai hF
   rw[Cy (f:=λl=>l.2.p) (by rw[ai,jc]) hF]at hA;have an:(ls.map λl=>l.2.p).length=ls.length:=za _;have aw:=Bs hp;have h0:0<ls.length:=yt.mpr ar;refine⟨_,D1,ls.map (λl:Addr×jz=>l.2.p),rfl,iQ hA,λy hy=>?_,(show 0<pcs ls by omega),by omega,hb,λp2 H2 s2 ax h2=>?_⟩
   ·obtain⟨e,he,rfl⟩:=zi.mp hy
    have:=hp e he;omega
   obtain⟨cs,ae⟩:∃cs,shares (p*r - f) (ls.map λl=>l.2.p).sum 0 (ls.map λl=>l.2.p)=cs:=⟨_,rfl⟩;have af:cs.length=ls.length:=by rw[<-ae,xY,an]
   have am:cs.sum=p*r - f:=by
    rw[<-ae,Lp,zz9,Int.mul_zero,Int.zero_ediv,Int.sub_zero];exact Int.mul_ediv_cancel _ (show pcs ls≠0 by omega)
   have h2:H2 p2=some (.lst (cs.map V.int)):=ae▸h2;have S2:=s1.trans s2;walk_at "m";refine⟨⟨_,iQ (S2 _ _ hq)⟩,⟨_,iQ h2⟩,?_⟩;refine lu.zipE (K:=K) (λσ=>∃a b,σ=[a,b]) (λi v H'=>∃b l c,ls[i]? =some l/\cs[i]? =some c/\v=.ref b/\H' b=some (.tup (l.2.vs++[.int c]))) (iQ (S2 _ _ hq)) (iQ h2) (by rw[jc,za,af]) ⟨_,_,rfl⟩ (by rw[jc,zq];omega) ?_ ?_
   ·rintro Db i y z hy hz σ H5 pp R ⟨_,_,rfl⟩ ao bb ⟨ajr,ap⟩ ag kk
    obtain⟨l,ab,rfl⟩:=jU hy;obtain⟨c,rfl,hc⟩:=Bf hz;obtain⟨dl,aa⟩:=(hL l (get_mem ab)).same (S2.trans ao);have aa:=iM (o:=.tup [V.ref l.1,V.int c]) ag _ _ aa;have al:(upd H5 pp (.tup [V.ref l.1,V.int c])) pp=some (.tup [V.ref l.1,V.int c]):=iH;have aj:=iM (o:=.tup [V.ref l.1,V.int c]) ag _ _ ap;generalize upd H5 pp (.tup [V.ref l.1,V.int c])=H6 at aa al aj kk;walk_at "i";refine⟨_,jD al,rfl,_,_,rfl,_,_,rfl,rfl,?_⟩;refine rd aa T.agD T.agE (by rfl) (rd aa T.agD T.agF (by rfl) (rd aa T.agD T.agG (by rfl) (rd aa T.agD T.agH (by rfl) ⟨sz,λt ht=>?_⟩)));exact kk (.ref t) _ _ ⟨_,_,rfl⟩ (iM ht) λH' hb=>⟨t,l,c,ab,hc,rfl,hb _ _ (λe=>by rw[e,aj]at ht;cases ht) iH⟩
   ·intro D3 H3 av az s3 ak ac au
    rw[jc]at ac;obtain⟨ps,e1,e2,e4,e3⟩:=SN ac af au;rw[e1]at ak;have ad:=s3 _ _ (S2 _ _ hx)
    have ay:ps.length=ls.length:=by
     have:=congrArg List.length e1;rw[ut]at this;omega
    refine rd ad T.afZ T.af2 (by rfl) (rd ad T.afZ T.af1 (by rfl) (rd ad T.afZ T.af3 (by rfl) (rd ad T.afZ T.af8 (by rfl) (λy dy hy aq _=>?_))));have S3:=S2.trans s3;exact⟨y,D3,n,d,p*r - f,w,none,ps,H3,dy,rfl,pX hy aq,ak,e3,by omega,λpl H4 s4 ah as=>⟨rfl,k y _ H4 (S3.trans s4) (S3.free hy) (S3.free ah) as rfl rfl rfl rfl rfl e2 (by show(ps.map _).sum=_;rw[e4];exact am)⟩⟩
noncomputable def gnP(s:jR)(l:jz)(c:Int):Int:=if s.lo=none then c - l.c else 0
inductive wg(A:Adr)(vs:List V)(H:Hp)(Q:VK)(E:XK):Prop
 |mk (x q:Addr) (s:jR) (l:jz) (c:Int) (_:vs=[.ref x,.ref q]) (_:kI A H x s) (_:H q=some (.tup (l.vs++[.int c]))) (_:Q (.int (gnP s l c)) H):wg A vs H Q E
def JT(T:Txt K mg A D):jQ P w K mg base CX0 1 A.acJ D.acJ ["sale", "part"] (wg A):=by
 refine T.aeP.F.okv qL λ_ _ _ _ H vs Q E hr h=>?_
 ·obtain⟨x,q,s,l,c,rfl,z,hq,k⟩:=h
  refine ⟨_,(iB (ji (i:=2) qL.nd rfl orl (jF (jm (K:=K)) (pvD 1) iJ (λ_ _=>rfl)))
   (iB (ji (i:=3) qL.nd rfl orl (jF (jm (K:=K)) (pvD 1) iJ (λ_ _=>rfl)))
   (iG (iY (uR (jl (Fy) (fv K 0) nu (jr _)) (ju pY (pvD 3) (pvD 2)) iJ))))),?_⟩
  obtain⟨dx,hi⟩:=z.i;simp only[start_eq]
  iterate 2 (walk_at "m";refine⟨_,jD hq,_,rfl,?_⟩)
  walk_at "i";refine rd hi T.agS T.agY (v:=loV s.lo) (by rfl) (?_);unfold gnP at k
  cases e:s.lo with
  |none=>
   rw[zo (show loV none=V.non from rfl)];rw[e,zo rfl]at k;exact k
  |some i=>
   rw[ze (show¬loV (some i)=V.non from λc=>by cases c)];rw[e,ze (λc=>by cases c)]at k;exact k
noncomputable def kdP(s:jR)(l:jz)(g:Int):Str:=if g<=s.d - l.s then Str.ofString "long" else Str.ofString "short"
noncomputable def ajF(s:jR)(g:Int)(l:jz)(c:Int):List V:=[.int s.n,.int l.n,.int l.p,.str (kdP s l g),.int (gnP s l c)]
inductive Aw(A:Adr)(vs:List V)(H:Hp)(Q:VK)(E:XK):Prop
 |mk (x q:Addr) (s:jR) (l:jz) (c g:Int) (_:vs=[.ref x,.ref q,.int g]) (_:kI A H x s) (_:H q=some (.tup (l.vs++[.int c]))) (_:∀t,H t=none->Q (.ref t) (upd H t (.tup (ajF s g l c)))):Aw A vs H Q E
def KJ(T:Txt K mg A D):jQ P w K mg base CX0 2 A.acK D.acK ["sale", "part", "long"] (Aw A):=by
 refine T.aeQ.F.okv nC λ_ _ _ _ H vs Q E hr h=>?_
 ·obtain⟨x,q,s,l,c,g,rfl,hx,hq,k⟩:=h
  refine ⟨_,(iB (ji (i:=3) nC.nd rfl orl (jF (jm (K:=K)) (pvD 1) iJ (λ_ _=>rfl)))
   (iB (ji (i:=4) nC.nd rfl orl (jF (jm (K:=K)) (pvD 1) iJ (λ_ _=>rfl)))
   (iB (ji (i:=5) nC.nd rfl orl (jF (jm (K:=K)) (pvD 1) iJ (λ_ _=>rfl)))
   (iB (ji (i:=6) nC.nd rfl orl (uR (jl (akM) (ju pY (fv K 0) (pvD 4)) (pvD 2) (jr _)) jG jG))
   (iG (iY (lY (iz (fv K 0) (pav 3 (pav 5 (pav 6 (iz (pcg (JT T) hr T.aeP (Ks T) (pav 0 (pav 1 iD))) iD)))))))))))),?_⟩
  obtain⟨dx,hi⟩:=hx.i;simp only[start_eq]
  iterate 3 (walk_at "m";refine⟨_,jD hq,_,rfl,?_⟩)
  refine jK λu hu=>?_;walk_at "m";refine rd hi T.agS T.agU (by rfl) (?_);refine⟨_,rfl,?_⟩
  have z:u {nx:=λx H'=>Q V.non H',rt:=Q} [some (V.ref x),some (V.ref q),some (V.int g),some (V.int l.n),some (V.int l.s),some (V.int l.p),some (V.str (kdP s l g))] H:=by
   subst hu;walk_at "i";exact rd hi T.agS T.agT (by rfl) ⟨x,q,s,l,c,rfl,hx,hq,sz,λt ht=>k t ht⟩
  unfold kdP at z;by_cases e:g<=s.d - l.s
  ·rw[zo e]at z⊢;exact z
  ·rw[ze e]at z⊢;exact z
noncomputable def nU(s:jR)(g:Int):List (List V):=s.ps.map λr=>ajF s g r.2.1 r.2.2
noncomputable def lV(H:Hp)(as:List Addr)(xs:List (List V)):Prop:=as.length=xs.length/\∀(i:Nat) a,as[i]? =some a->∃x,xs[i]? =some x/\H a=some (.tup x)
def lV.same{H H':Hp}{as:List Addr}{xs:List (List V)}(h:lV H as xs)(s:Same H H'):lV H' as xs:=⟨h.1,λi a e=>let⟨x,e1,e2⟩:=h.2 i a e;⟨x,e1,s _ _ e2⟩⟩
theorem Dz{H:Hp}:∀{acc:List V}{xs:List (List V)},acc.length=xs.length->(∀(i:Nat) v,acc[i]? =some v->∃b x,xs[i]? =some x/\v=.ref b/\H b=some (.tup x))->∃as:List Addr,acc=as.map V.ref/\lV H as xs
 |[],[],_,_=>⟨[],rfl,rfl,λi a h=>by simp at h⟩
 |[],_::_,h,_=>by simp at h
 |_::_,[],h,_=>by simp at h
 |v::acc,x::xs,hl,h=>by
  obtain⟨b,x',e,rfl,hb⟩:=h 0 v rfl;cases e;obtain⟨as,z,q,e3⟩:=Dz (acc:=acc) (xs:=xs) (by simpa using hl) λi v hv=>h (i+1) v hv;refine⟨b::as,by rw[z];rfl,by rw[zL,q];rfl,λi a ha=>?_⟩
  cases i with
  |zero=>cases ha;exact⟨x,rfl,hb⟩
  |succ i=>exact e3 i a ha
def lV.app{H:Hp}{as bs:List Addr}{xs ys:List (List V)}(h:lV H as xs)(g:lV H bs ys):lV H (as++bs) (xs++ys):=by
 refine⟨by rw[zA,zA,h.1,g.1],λi a e=>?_⟩;rw[List.getElem?_append]at e⊢;rw[<-h.1];split at e
 ·next c=>rw[zo c];exact h.2 i a e
 ·next c=>rw[ze c];exact g.2 _ a e
inductive wX(A:Adr)(vs:List V)(H:Hp)(Q:VK)(E:XK):Prop
 |mk (x:Addr) (s:jR) (g:Int) (_:vs=[.ref x,.int g]) (_:kI A H x s) (_:∀l as H',Same H H'->H l=none->H' l=some (.lst (as.map V.ref))->lV H' as (nU s g)->Q (.ref l) H'):wX A vs H Q E
def Jv(T:Txt K mg A D):jQ P w K mg base CX0 3 A.acL D.acL ["sale", "long"] (wX A):=by
 refine T.aeR.F.okv Jr λ_ _ _ _ H vs Q E hr h=>?_
 ·obtain⟨x,s,g,rfl,q,k⟩:=h
  refine⟨_,(iG (iY (jO (cap:=[none,some 0,some 1]) (N':=["part", "sale", "long"]) rfl (by walk_at "c") (kJ (K:=K) (fv K 0)) (λ_ _ _ _=>(iW (i:=0) (show(["part", "sale", "long"]:List Str).Nodup from by decide+kernel) rfl orl orr)) (λ_ _ _ _=>jP) (λ_ _ _ _=>(pcg (KJ T) hr T.aeQ (Mz T) (pav 1 (pav 0 (pav 2 iD)))))))),?_⟩;obtain⟨dx,hi⟩:=q.i;simp only[start_eq];walk_at "i";refine rd hi T.agS T.agX (by rfl) (?_);refine⟨_,rfl,⟨_,iQ q.p⟩,?_⟩;refine lu.listE (K:=K) (λσ=>∃a,σ=[a,some (.ref x),some (.int g)]) (λi v H'=>∃b y,(nU s g)[i]? =some y/\v=.ref b/\H' b=some (.tup y)) (iQ q.p) ⟨_,rfl⟩ (by have:=q.l;rw[ut,zq];omega) ?_ ?_
  ·rintro Da i y hy σ H5 R ⟨_,rfl⟩ sm hD ⟨ajr,ab⟩ kk
   obtain⟨r,z,rfl⟩:=Jf hy;walk_at "i";refine⟨x,r.1,s,r.2.1,r.2.2,g,rfl,q.same sm,sm _ _ (q.t r (zm z)),λt ht=>kk (.ref t) _ _ ⟨_,rfl⟩ (iM ht) λH' hb=>⟨t,_,?_,rfl,hb _ _ (λe=>by rw[e,ab]at ht;cases ht) iH⟩⟩;unfold nU;rw[zd,z];rfl
  ·intro Da H' acc hD sm hA aa hF
   obtain⟨as,rfl,hT⟩:=Dz (by rw[aa,ut];unfold nU;rw[za]) hF;exact k Da as H' sm hD hA hT
abbrev RW:=List (Str×Addr×RL)
noncomputable def kvR(rs:RW):List (Key×V):=rs.map λt=>(Sum.inr t.1,.ref t.2.1)
noncomputable def rowOf:RW->Str->RL
 |[],_=>[]
 |t::rs,z=>if t.1=z then t.2.2 else rowOf rs z
noncomputable def YL(rs:RW)(z:Str)(q:Addr)(ls:RL):RW:=if rs.any (λt=>decide (t.1=z))=true then rs.map (λt=>if t.1=z then(t.1,q,ls)else t)else rs++[(z,q,ls)]
theorem alj:∀(rs:RW)(z:Str),(∃t∈rs,t.1=z/\pG (kvR rs) (Sum.inr z)=some (.ref t.2.1)/\rowOf rs z=t.2.2)\/(pG (kvR rs) (Sum.inr z)=none/\rowOf rs z=[]/\z∉rs.map (·.1))
 |[],z=> .inr ⟨rfl,rfl,by simp⟩
 |t::rs,z=>by
  by_cases e:t.1=z
  ·refine .inl ⟨t,zj,e,?_,?_⟩
   ·show pG ((Sum.inr t.1,V.ref t.2.1)::kvR rs) _=_
    rw[lN (by rw[e])]
   ·unfold rowOf;rw[zo e]
  ·have hv:pG (kvR (t::rs)) (Sum.inr z)=pG (kvR rs) (Sum.inr z):=by
    show pG ((Sum.inr t.1,V.ref t.2.1)::kvR rs) _=_;rw[lE (λh=>e (y4 h))]
   have hr:rowOf (t::rs) z=rowOf rs z:=by
    show(if t.1=z then t.2.2 else rowOf rs z)=_;rw[ze e]
   rw[hv,hr];rcases alj rs z with⟨u,h1,h2,q,h4⟩|⟨h1,h2,q⟩
   ·exact .inl ⟨u,zp _ h1,h2,q,h4⟩
   ·refine .inr ⟨h1,h2,λh=>?_⟩
    rw[zl]at h;rcases zu.mp h with h|h
    ·exact e h.symm
    ·exact q h
def ajn(rs:RW)(z:Str)(q:Addr)(ls:RL):putK (kvR rs) (Sum.inr z) (.ref q)=kvR (YL rs z q ls):=by
 unfold putK YL kvR
 have ea:(List.any (rs.map λt=>((Sum.inr t.1:Key),V.ref t.2.1)) λkv=>decide (kv.1=Sum.inr z))=rs.any λt=>decide (t.1=z):=by
  rw[List.any_map];congr 1;funext t;show decide ((Sum.inr t.1:Key)=Sum.inr z)=decide (t.1=z);by_cases e:t.1=z
  ·rw[e];simp
  ·rw[zI e,zI];exact λh=>e (y4 h)
 rw[ea];by_cases h:rs.any (λt=>decide (t.1=z))=true
 ·rw[zo h,zo h,zx,zx]
  refine yj λt _=>?_;show(if(Sum.inr t.1:Key)=Sum.inr z then((Sum.inr t.1:Key),V.ref q)else(Sum.inr t.1,V.ref t.2.1))=_;by_cases e:t.1=z
  ·rw[zo (by rw[e])]
   show _=((Sum.inr (if t.1=z then(t.1,q,ls)else t).1:Key),V.ref (if t.1=z then(t.1,q,ls)else t).2.1);rw[zo e]
  ·rw[ze (λh=>e (y4 h))]
   show _=((Sum.inr (if t.1=z then(t.1,q,ls)else t).1:Key),V.ref (if t.1=z then(t.1,q,ls)else t).2.1);rw[ze e]
 ·rw[ze h,ze h,zv]
  rfl
def Zy{rs:RW}{z:Str}{q:Addr}{ls:RL}{t:Str×Addr×RL}(h:t∈YL rs z q ls):t=(z,q,ls)\/t∈rs:=by
 unfold YL at h;split at h
 ·obtain⟨u,hu,e⟩:=zi.mp h
  by_cases c:u.1=z
  ·rw[zo c,c]at e;exact .inl e.symm
  ·rw[ze c]at e;exact .inr (e▸hu)
 ·rcases zK.mp h with h|h
  ·exact .inr h
  ·exact .inl (zC.mp h)
def Uy{rs:RW}{z:Str}{q:Addr}{ls:RL}:(YL rs z q ls).map (·.1)=if z∈rs.map (·.1)then rs.map (·.1)else rs.map (·.1)++[z]:=by
 unfold YL;by_cases h:rs.any (λt=>decide (t.1=z))=true
 ·have hm:z∈rs.map (·.1):=by
   obtain⟨t,ht,e⟩:=yz.mp h;exact zi.mpr ⟨t,ht,z8 e⟩
  rw[zo h,zo hm,zx];refine yj λt _=>?_;show(if t.1=z then(t.1,q,ls)else t).1=t.1;split<;>rfl
 ·have hm:z∉rs.map (·.1):=λhm=>by
   obtain⟨t,ht,e⟩:=zi.mp hm;exact h (yz.mpr ⟨t,ht,zE e⟩)
  rw[ze h,ze hm,zv];rfl
def ajf{rs:RW}{z:Str}{q:Addr}{ls:RL}(h:(rs.map (·.1)).Nodup):((YL rs z q ls).map (·.1)).Nodup:=by
 rw[Uy];by_cases c:z∈rs.map (·.1)
 ·rw[zo c];exact h
 ·rw[ze c]
  refine yY.mpr ⟨h,by simp,λy hy x hx=>?_⟩;obtain rfl:=zC.mp hx;exact λe=>c (e▸hy)
theorem Oi:∀{rs:RW}{z:Str}{q:Addr}{ls:RL}{y:Str},rowOf (rs.map λt=>if t.1=z then(t.1,q,ls)else t) y=if y=z/\z∈rs.map (·.1)then ls else rowOf rs y
 |[],z,q,ls,y=>by rw[ze (by simp)];rfl
 |t::rs,z,q,ls,y=>by
  rw[zl];have ih:=Oi (rs:=rs) (z:=z) (q:=q) (ls:=ls) (y:=y);unfold rowOf;by_cases e:t.1=z
  ·rw[zo e]
   by_cases e2:y=z
   ·rw[zo (show t.1=y by rw[e,e2]),zo ⟨e2,by rw[zl,e];exact zj⟩]
   ·have hy:¬t.1=y:=λh=>e2 (h.symm.trans e)
    rw[ze hy,ze (λh=>e2 h.1),ih,ze (λh=>e2 h.1),ze hy]
  ·rw[ze e]
   by_cases e2:t.1=y
   ·rw[zo e2,zo e2,ze (λh=>e (e2.trans h.1))]
   ·rw[ze e2,ze e2,ih]
    by_cases c:y=z/\z∈rs.map (·.1)
    ·rw[zo c,zo ⟨c.1,by rw[zl];exact zp _ c.2⟩]
    ·rw [ze c,ze λh=>c ⟨h.1,by
      have h2:=h.2;rw[zl]at h2;rcases zu.mp h2 with h2|h2
      ·exact(e h2.symm).elim
      ·exact h2⟩]
theorem Oj:∀{rs:RW}{z:Str}{q:Addr}{ls:RL}{y:Str},z∉rs.map (·.1)->rowOf (rs++[(z,q,ls)]) y=if y=z then ls else rowOf rs y
 |[],z,q,ls,y,_=>by
  show(if z=y then ls else[])=_;by_cases e:y=z
  ·rw[zo e,zo e.symm]
  ·rw[ze e,ze (λh=>e h.symm)];rfl
 |t::rs,z,q,ls,y,hn=>by
  rw[zl]at hn;have ih:=Oj (rs:=rs) (z:=z) (q:=q) (ls:=ls) (y:=y) λh=>hn (zp _ h);show(if t.1=y then t.2.2 else rowOf (rs++[(z,q,ls)]) y)=_;rw[ih];by_cases e:t.1=y
  ·rw[zo e,ze (λh=>hn (by rw[<-h,<-e];exact zj))]
   show _=(if t.1=y then t.2.2 else rowOf rs y);rw[zo e]
  ·rw[ze e]
   show _=(if y=z then ls else if t.1=y then t.2.2 else rowOf rs y);rw[ze e]
def Ye{rs:RW}{z:Str}{q:Addr}{ls:RL}{y:Str}:rowOf (YL rs z q ls) y=if y=z then ls else rowOf rs y:=by
 unfold YL;by_cases h:rs.any (λt=>decide (t.1=z))=true
 ·have hm:z∈rs.map (·.1):=by
   obtain⟨t,ht,e⟩:=yz.mp h;exact zi.mpr ⟨t,ht,z8 e⟩
  rw[zo h,Oi];by_cases e:y=z
  ·rw[zo e,zo ⟨e,hm⟩]
  ·rw[ze e,ze λh=>e h.1]
 ·have hm:z∉rs.map (·.1):=λhm=>by
   obtain⟨t,ht,e⟩:=zi.mp hm;exact h (yz.mpr ⟨t,ht,zE e⟩)
  rw[ze h,Oj hm]
noncomputable def Rw(rs:RW)(z:Str):RW:=rs.filter λt=>decide (t.1≠z)
def aas(rs:RW)(z:Str):Rh (kvR rs) (Sum.inr z)=kvR (Rw rs z):=by
 unfold Rh kvR Rw;rw[yyf];congr 1;refine List.filter_congr λt _=>?_;show decide ((Sum.inr t.1:Key)≠Sum.inr z)=decide (t.1≠z);by_cases e:t.1=z
 ·rw[e];simp
 ·rw[zE e,zE];exact λh=>e (y4 h)
theorem LK:∀{rs:RW}{z y:Str},rowOf (Rw rs z) y=if y=z then[]else rowOf rs y
 |[],z,y=>by show[]=_;split<;>rfl
 |t::rs,z,y=>by
  have ih:=LK (rs:=rs) (z:=z) (y:=y);unfold Rw at ih⊢;rw[zz2];by_cases e:t.1=z
  ·rw[ze (by simp[e]),ih]
   by_cases q:y=z
   ·rw[zo q,zo q]
   ·rw[ze q,ze q]
    show _=if t.1=y then _ else _;rw[ze (λc=>q (c.symm.trans e))]
  ·rw[zo (zE e)]
   show(if t.1=y then _ else _)=(if y=z then[]else if t.1=y then _ else _);rw[ih];by_cases q:t.1=y
   ·rw[zo q,zo q,ze (λc=>e (q.trans c))]
   ·rw[ze q,ze q]
noncomputable def keepR(rs:RW)(z:Str)(q:Addr)(ls:RL):RW:=if ls.length=0 then Rw rs z else YL rs z q ls
def xQ{rs:RW}{z:Str}{q:Addr}{ls:RL}{y:Str}:rowOf (keepR rs z q ls) y=if y=z then ls else rowOf rs y:=by
 unfold keepR;split
 ·next e=>rw[LK,zz4.mp e]
 ·exact Ye
def Hh{rs:RW}{z:Str}{q:Addr}{ls:RL}{t:Str×Addr×RL}(h:t∈keepR rs z q ls):(t=(z,q,ls)/\ls≠[])\/t∈rs:=by
 unfold keepR at h;split at h
 ·exact .inr (yB.mp h).1
 ·next e=>exact(Zy h).imp_left λc=>⟨c,λz=>e (by rw[z];rfl)⟩
def Wi{rs:RW}{z:Str}(h:z∉rs.map (·.1)):Rw rs z=rs:=zzd.mpr λt q=>zE λc=>h (zi.mpr ⟨t,q,c⟩)
structure Mq(ns:List Int)(W:List Str)(rs:RW):Prop where
 u:(rs.map (·.1)).Nodup
 w:∀t∈rs,t.1∈W
 n:∀t∈rs,t.2.2≠[]/\Shp ns t.2.2
def Mq.len{ns:List Int}{W:List Str}{rs:RW}(h:Mq ns W rs):rs.length<=W.length:=by
 have:=Nr h.u λn hn=>by
  obtain⟨t,q,rfl⟩:=zi.mp hn;exact h.w t q
 rwa [za]at this
def Mq.row{ns:List Int}{W:List Str}{rs:RW}(h:Mq ns W rs)(z:Str):Shp ns (rowOf rs z):=by
 rcases alj rs z with⟨t,h1,_,_,q⟩|⟨_,h2,_⟩
 ·rw[q];exact(h.n t h1).2
 ·rw[h2];exact .nil
def Mq.keep{ns:List Int}{W:List Str}{rs:RW}(h:Mq ns W rs){z:Str}(hz:z∈W){q:Addr}{ls:RL}(hs:Shp ns ls):Mq ns W (keepR rs z q ls):=by
 refine⟨?_,λt ht=>?_,λt ht=>?_⟩
 ·unfold keepR
  split
  ·exact(List.filter_sublist.map _).nodup h.u
  ·exact ajf h.u
 ·rcases Hh ht with⟨rfl,_⟩|ht
  ·exact hz
  ·exact h.w t ht
 ·rcases Hh ht with⟨rfl,e⟩|ht
  ·exact⟨e,hs⟩
  ·exact h.n t ht
noncomputable def vQ(H:Hp)(M:List Addr):Hp:=λa=>if a∈M then none else H a
def ud{H:Hp}{M:List Addr}:Same (vQ H M) H:=λa o h=>by
 unfold vQ at h;split at h
 ·cases h
 ·exact h
def sH{H:Hp}{M:List Addr}{a:Addr}{o:HO}(h:H a=some o)(n:a∉M):vQ H M a=some o:=by unfold vQ;rw[ze n];exact h
structure Stp(M M':List Addr)(H H':Hp):Prop where
 k:∀a o,a∉M->H a=some o->H' a=some o
 f:∀m∈M',m∈M\/H m=none
def Stp.same{M M':List Addr}{H H':Hp}(s:Stp M M' H H'):Same (vQ H M) (vQ H' M'):=λa o h=>by
 unfold vQ at h;split at h
 ·cases h
 ·next n=>exact sH (s.k a o n h) λc=>(s.f a c).elim n λe=>by rw[e]at h;cases h
def pB{M:List Addr}{H H':Hp}(s:Same H H'):Stp M M H H':=⟨λa o _ h=>s a o h,λm h=> .inl h⟩
def pK{M:List Addr}{H:Hp}{m:Addr}{o:HO}(h:m∈M):Stp M M H (upd H m o):=⟨λa o n e=>(iU λc:a=m=>n (c▸h)).trans e,λm h=> .inl h⟩
def Stp.trans{M M' M'':List Addr}{H H' H'':Hp}(s:Stp M M' H H')(t:Stp M' M'' H' H''):Stp M M'' H H'':=by
 have ne:∀{a:Addr}{o:HO},a∉M->H a=some o->a∉M':=λn h c=>(s.f _ c).elim n λe=>by rw[e]at h;cases h
 refine⟨λa o n h=>t.k a o (ne n h) (s.k a o n h),λm hm=>?_⟩;rcases t.f m hm with h|h
 ·exact s.f m h
 ·by_cases c:m∈M
  ·exact .inl c
  ·right
   cases e:H m with
   |none=>rfl
   |some o=>rw[s.k m o c e]at h;cases h
structure BkD where
 C:Addr
 way:Addr
 rows:Addr
 sales:Addr
 givs:Addr
 rs:RW
 last:Option (Addr×Int×Int)
 paid:Int
 brought:Int
 sl:List (Addr×jR)
 gv:List (Addr×Int×Addr×RL)
 x:Option (Int×Addr×List V)
noncomputable def Rf:Option (Addr×Int×Int)->V
 |none=> .non
 |some t=> .ref t.1
noncomputable def BkD.xs(k:BkD):List (Str×V):=match k.x with
 |none=>[]
 |some y=>[("days",.int y.1),("layings",.ref y.2.1)]
noncomputable def BkD.fs(k:BkD):List (Str×V):=("way",.ref k.way)::("rows",.ref k.rows)::("last_place",Rf k.last)::("paid",.int k.paid)::("brought",.int k.brought)::("sales_done",.ref k.sales)::("givings_done",.ref k.givs)::k.xs
noncomputable def BkD.xm(k:BkD):List Addr:=match k.x with
 |none=>[]
 |some y=>[y.2.1]
noncomputable def BkD.M(b:Addr)(k:BkD):List Addr:=[b,k.rows,k.sales,k.givs]++k.xm
noncomputable def LC(A:Adr)(H:Hp)(rs:RW):Prop:=∀t∈rs,H t.2.1=some (.lst (jB t.2.2))/\kY A H t.2.2
theorem LC.same{H H':Hp}{rs:RW}(h:LC A H rs)(s:Same H H'):LC A H' rs:=λt q=>⟨s _ _ (h t q).1,(h t q).2.same s⟩
noncomputable def pZ(sl:List (Addr×jR)):List V:=sl.map λt=>V.ref t.1
noncomputable def Og(gv:List (Addr×Int×Addr×RL)):List V:=gv.map λt=>V.ref t.1
structure Frz(A:Adr)(G:Hp)(k:BkD):Prop where
 l:LC A G k.rs
 p:∀t,k.last=some t->G t.1=some (.tup [.int t.2.1,.int t.2.2])
 s:∀t∈k.sl,kI A G t.1 t.2
 g:∀t∈k.gv,G t.1=some (.tup [.int t.2.1,.ref t.2.2.1])/\G t.2.2.1=some (.lst (jB t.2.2.2))/\kY A G t.2.2.2
theorem Frz.same{G G':Hp}{k:BkD}(h:Frz A G k)(s:Same G G'):Frz A G' k:=⟨h.l.same s,λt q=>s _ _ (h.p t q),λt q=>(h.s t q).same s,λt q=>let⟨a,b,c⟩:=h.g t q;⟨s _ _ a,s _ _ b,c.same s⟩⟩
structure jk(A:Adr)(H:Hp)(b:Addr)(k:BkD):Prop where
 c:(k.C=A.ac2/\k.x=none)\/(k.C=A.ac4/\k.x≠none)
 i:∃dx,H b=some (.ins k.C dx k.fs)
 r:H k.rows=some (.dK (kvR k.rs))
 s:H k.sales=some (.lst (pZ k.sl))
 g:H k.givs=some (.lst (Og k.gv))
 y:∀y,k.x=some y->H y.2.1=some (.lst y.2.2)/\y.2.1≠k.sales/\y.2.1≠k.givs
 d:k.sales≠k.givs
 z:Frz A (vQ H (k.M b)) k
def BkD.mb{b:Addr}{k:BkD}:b∈k.M b:=zj
def BkD.mr{b:Addr}{k:BkD}:k.rows∈k.M b:=zp _ zj
def BkD.ms{b:Addr}{k:BkD}:k.sales∈k.M b:=zp _ (zp _ zj)
def BkD.mv{b:Addr}{k:BkD}:k.givs∈k.M b:=zp _ (zp _ (zp _ zj))
theorem jk.same{H H':Hp}{b:Addr}{k:BkD}(h:jk A H b k)(s:Same H H'):jk A H' b k:=
 ⟨h.c,let⟨dx,e⟩:=h.i;⟨dx,s _ _ e⟩,s _ _ h.r,s _ _ h.s,s _ _ h.g,λy e=>let⟨a,t⟩:=h.y y e;⟨s _ _ a,t⟩,h.d,h.z.same (pB s).same⟩
def jk.frz{H:Hp}{b:Addr}{k:BkD}(h:jk A H b k):Frz A H k:=h.z.same ud
def jk.neb{H:Hp}{b:Addr}{k:BkD}(h:jk A H b k){x:Addr}{o:HO}(q:H x=some o)(z:∀C dx fs,o≠.ins C dx fs):x≠b:=λe=>by
 obtain⟨dx,hb⟩:=h.i;rw[e,hb]at q;exact z _ _ _ (zw q).symm
def jk.ner{H:Hp}{b:Addr}{k:BkD}(h:jk A H b k){x:Addr}{o:HO}(q:H x=some o)(z:∀kv,o≠.dK kv):x≠k.rows:=λe=>by
 rw[e,h.r]at q;exact z _ (zw q).symm
def jk.row{H:Hp}{b:Addr}{k:BkD}(h:jk A H b k){z:Str}{q:Addr}{ls:RL}(hq:vQ H (k.M b) q=some (.lst (jB ls)))(hL:kY A (vQ H (k.M b)) ls):jk A (upd H k.rows (.dK (kvR (keepR k.rs z q ls)))) b {k with rs:=keepR k.rs z q ls}:=by
 have hs:Same (vQ H (k.M b)) (vQ (upd H k.rows (.dK (kvR (keepR k.rs z q ls)))) (k.M b)):=(pK BkD.mr).same;have n:∀{a:Addr}{o:HO},H a=some o->(∀kv,o≠.dK kv)->(upd H k.rows (.dK (kvR (keepR k.rs z q ls)))) a=some o:=λe f=>(iU (h.ner e f)).trans e;have F:=h.z.same hs;refine⟨h.c,let⟨dx,e⟩:=h.i;⟨dx,n e λ_ c=>by cases c⟩,iH,n h.s λ_ c=>(by cases c),n h.g λ_ c=>(by cases c),λy e=>let⟨a,t⟩:=h.y y e;⟨n a λ_ c=>(by cases c),t⟩,h.d,⟨λt ht=>?_,F.p,F.s,F.g⟩⟩;rcases Hh ht with⟨rfl,_⟩|ht
 ·exact⟨hs _ _ hq,hL.same hs⟩
 ·exact F.l t ht
def jk.put{H:Hp}{b dx:Addr}{k:BkD}(h:jk A H b k){la:Option (Addr×Int×Int)}{pa br:Int}(hl:∀t,la=some t->vQ H (k.M b) t.1=some (.tup [.int t.2.1,.int t.2.2])):jk A (upd H b (.ins k.C dx {k with last:=la,paid:=pa,brought:=br}.fs)) b {k with last:=la,paid:=pa,brought:=br}:=by
 have q:Same (vQ H (k.M b)) (vQ (upd H b (.ins k.C dx {k with last:=la,paid:=pa,brought:=br}.fs)) (k.M b)):=(pK BkD.mb).same;have n:∀{a:Addr}{o:HO},H a=some o->(∀C dx fs,o≠.ins C dx fs)->(upd H b (.ins k.C dx {k with last:=la,paid:=pa,brought:=br}.fs)) a=some o:=λe f=>(iU (h.neb e f)).trans e;have F:=h.z.same q;exact⟨h.c,⟨dx,iH⟩,n h.r λ_ _ _ c=>(by cases c),n h.s λ_ _ _ c=>(by cases c),n h.g λ_ _ _ c=>(by cases c),λy e=>let⟨a,t⟩:=h.y y e;⟨n a λ_ _ _ c=>(by cases c),t⟩,h.d,⟨F.l,λt z=>q _ _ (hl t z),F.s,F.g⟩⟩
def jk.sale{H:Hp}{b y:Addr}{k:BkD}{s:jR}(h:jk A H b k)(hy:kI A (vQ H (k.M b)) y s):jk A (upd H k.sales (.lst (pZ (k.sl++[(y,s)])))) b {k with sl:=k.sl++[(y,s)]}:=by
 have z:Same (vQ H (k.M b)) (vQ (upd H k.sales (.lst (pZ (k.sl++[(y,s)])))) (k.M b)):=(pK BkD.ms).same;have n:∀{a:Addr}{o:HO},H a=some o->a≠k.sales->(upd H k.sales (.lst (pZ (k.sl++[(y,s)])))) a=some o:=λe f=>(iU f).trans e;have F:=h.z.same z;refine⟨h.c,let⟨dx,e⟩:=h.i;⟨dx,n e λc=>by rw[c,h.s]at e;cases e⟩,n h.r λc=>(by have:=h.r;rw[c,h.s]at this;cases this),iH,n h.g h.d.symm,λy e=>let⟨a,t⟩:=h.y y e;⟨n a t.1,t⟩,h.d,⟨F.l,F.p,λt q=>?_,F.g⟩⟩;rcases zK.mp q with q|q
 ·exact F.s t q
 ·rw[zC.mp q];exact hy.same z
def jk.giv{H:Hp}{b:Addr}{k:BkD}{t:Addr×Int×Addr×RL}(h:jk A H b k)(hy:vQ H (k.M b) t.1=some (.tup [.int t.2.1,.ref t.2.2.1]))(hq:vQ H (k.M b) t.2.2.1=some (.lst (jB t.2.2.2)))(hL:kY A (vQ H (k.M b)) t.2.2.2):jk A (upd H k.givs (.lst (Og (k.gv++[t])))) b {k with gv:=k.gv++[t]}:=by
 have z:Same (vQ H (k.M b)) (vQ (upd H k.givs (.lst (Og (k.gv++[t])))) (k.M b)):=(pK BkD.mv).same;have n:∀{a:Addr}{o:HO},H a=some o->a≠k.givs->(upd H k.givs (.lst (Og (k.gv++[t])))) a=some o:=λe f=>(iU f).trans e;have F:=h.z.same z;refine⟨h.c,let⟨dx,e⟩:=h.i;⟨dx,n e λc=>by rw[c,h.g]at e;cases e⟩,n h.r λc=>(by have:=h.r;rw[c,h.g]at this;cases this),n h.s h.d,iH,λy e=>let⟨a,t⟩:=h.y y e;⟨n a t.2,t⟩,h.d,⟨F.l,F.p,F.s,λu q=>?_⟩⟩;rcases zK.mp q with q|q
 ·exact F.g u q
 ·rw[zC.mp q];exact⟨z _ _ hy,z _ _ hq,hL.same z⟩
structure CB(K:Fg_)(C:Addr):Prop where
 c:Cls K C
 w:jg K C "way"
 r:jg K C "rows"
 l:jg K C "last_place"
 p:jg K C "paid"
 b:jg K C "brought"
 s:jg K C "sales_done"
 g:jg K C "givings_done"
def Du(T:Txt K mg A D){H:Hp}{b:Addr}{k:BkD}(h:jk A H b k):CB K k.C:=by
 rcases h.c with⟨e,_⟩|⟨e,_⟩
 ·rw[e];exact⟨T.agv,T.agw,T.agx,T.agy,T.agz,T.agA,T.agB,T.agC⟩
 ·rw[e];exact⟨T.agI,T.agJ,T.agK,T.agL,T.agM,T.agN,T.agO,T.agP⟩
def jk.own{H:Hp}{b:Addr}{k:BkD}(h:jk A H b k){m:Addr}(hm:m∈k.M b):∃o,H m=some o/\((∃dx,o=.ins k.C dx k.fs)\/(∃q,o=.dK q)\/∃xs,o=.lst xs):=by
 obtain⟨dx,hi⟩:=h.i;unfold BkD.M at hm;rcases zK.mp hm with c|c
 ·rcases zu.mp c with rfl|c
  ·exact⟨_,hi,.inl ⟨dx,rfl⟩⟩
  rcases zu.mp c with rfl|c
  ·exact⟨_,h.r,.inr (.inl ⟨_,rfl⟩)⟩
  rcases zu.mp c with rfl|c
  ·exact⟨_,h.s,.inr (.inr ⟨_,rfl⟩)⟩
  ·rw[zC.mp c]
   exact⟨_,h.g,.inr (.inr ⟨_,rfl⟩)⟩
 ·unfold BkD.xm at c
  split at c
  ·exact(zn c).elim
  ·next y e=>
   rw[zC.mp c];exact⟨_,(h.y y e).1,.inr (.inr ⟨_,rfl⟩)⟩
def jk.fresh{H:Hp}{b:Addr}{k:BkD}(h:jk A H b k){x:Addr}(q:H x=none):x∉k.M b:=λc=>by
 obtain⟨o,e,_⟩:=h.own c;rw[q]at e;cases e
theorem jk.tup{H:Hp}{b:Addr}{k:BkD}(h:jk A H b k){x:Addr}{xs:List V}(q:H x=some (.tup xs)):vQ H (k.M b) x=some (.tup xs):=sH q λc=>by
 obtain⟨o,e,c⟩:=h.own c;rw[q]at e;obtain rfl:=zw e;rcases c with⟨_,c⟩|⟨_,c⟩|⟨_,c⟩<;>cases c
theorem jk.ins{H:Hp}{b:Addr}{k:BkD}(h:jk A H b k){x C dx:Addr}{fs:List (Str×V)}{v:V}(q:H x=some (.ins C dx ((Str.ofString "number",v)::fs))):vQ H (k.M b) x=some (.ins C dx ((Str.ofString "number",v)::fs)):=sH q λc=>by
 obtain⟨o,e,c⟩:=h.own c;rw[q]at e;obtain rfl:=zw e;rcases c with⟨_,c⟩|⟨_,c⟩|⟨_,c⟩
 ·injection c with _ _ c
  exact absurd (Prod.mk.inj (yT c).1).1 (by decide+kernel)
 ·cases c
 ·cases c
def jk.lots{H:Hp}{b:Addr}{k:BkD}(h:jk A H b k){ls:RL}(z:kY A H ls):kY A (vQ H (k.M b)) ls:=λl q=>let⟨dx,e⟩:=z l q;⟨dx,h.ins e⟩
def jk.sal{H:Hp}{b y:Addr}{k:BkD}{s:jR}(h:jk A H b k)(q:kI A H y s)(z:s.pl∉k.M b):kI A (vQ H (k.M b)) y s:=⟨let⟨dx,e⟩:=q.i;⟨dx,h.ins e⟩,sH q.p z,λr hr=>h.tup (q.t r hr),q.l⟩
inductive Ak(A:Adr)(vs:List V)(H:Hp)(Q:VK)(E:XK):Prop
 |mk (b:Addr) (z:Str) (k:BkD) (_:vs=[.ref b,.str z]) (_:jk A H b k) (_:∀l H',Same H H'->H l=none->H' l=some (.lst (jB (rowOf k.rs z)))->kY A H' (rowOf k.rs z)->Q (.ref l) H'):Ak A vs H Q E
def kZ(T:Txt K mg A D):jQ P w K mg base CX0 1 A.abu D.abu ["self", "ware"] (Ak A):=by
 refine T.adB.okv Kl λ_ _ _ _ H vs Q E hr h=>?_
 ·obtain⟨b,z,kb,rfl,hB,k⟩:=h
  refine⟨_,(iG (iY (nq (xU (K:=K)) (by rfl) T.ae4 (by decide+kernel) (iz (pq (uF hr) (fv K 0) (pvD 1) (kW iD) ⟨rfl,rfl,rfl,rfl⟩) iD)))),?_⟩;walk_at "a";obtain⟨dx,hb⟩:=hB.i;have hC:=Du T hB;refine rd hb hC.c hC.r (by rfl) ⟨kb.rows,rfl,.inl ⟨_,.inl hB.r⟩,sz,λp hp=>?_⟩;have q:=iM (o:=.lst []) hp;refine⟨_,.inl ⟨_,Sum.inr z,.inl (q _ _ hB.r),rfl,rfl⟩,?_⟩;rcases alj kb.rs z with⟨t,h1,h2,h3,h4⟩|⟨h1,h2,h3⟩
  ·rw[h3]
   obtain⟨g1,g2⟩:=hB.frz.l t h1;show HX K [.ref t.2.1] _ Q;rw[ap_rListOf];refine⟨_,.inl (iQ (q _ _ g1)),λl hl=>?_⟩;have s2:=q.trans (iM (o:=.lst (jB t.2.2)) hl);rw[h4]at k;exact k l _ s2 (q.free hl) iH (g2.same s2)
  ·rw[h1]
   show HX K [.ref p] _ Q;rw[ap_rListOf];refine⟨_,.inl (iQ iH),λl hl=>?_⟩;rw[h2]at k;exact k l _ (q.trans (iM hl)) (q.free hl) iH λl h=>(zn h).elim
inductive uV(A:Adr)(vs:List V)(H:Hp)(Q:VK)(E:XK):Prop
 |mk (b q:Addr) (z:Str) (k:BkD) (ls:RL) (_:vs=[.ref b,.str z,.ref q]) (_:jk A H b k) (_:H q=some (.lst (jB ls))) (_:kY A H ls) (_:q∉k.M b) (_:k.rs.length<=50) (_:∀H',Stp (k.M b) (k.M b) H H'->jk A H' b {k with rs:=keepR k.rs z q ls}->Q .non H'):uV A vs H Q E
def jV(T:Txt K mg A D):jQ P w K mg base CX0 1 A.abv D.abv ["self", "ware", "row"] (uV A):=by
 refine T.adC.okv Gy λ_ _ _ _ H vs Q E hr h=>?_
 ·obtain⟨b,q,z,kb,ls,rfl,hB,hq,hL,hs,hz,k⟩:=h
  refine⟨_,(iG (jX (jl (Ke) (jt (nA (K:=K)) (by rfl) T.ae3 (by decide+kernel) (pav 2 iD)) iJ (jr _)) (iG (Be (uF hr) (fv K 0) (pvD 1) (pvD 2) rfl)) (iG (jo (aaj (fv K 0) (pvD 1) nu ⟨rfl,rfl,rfl,rfl⟩))))),?_⟩;walk_at "a";obtain⟨dx,hb⟩:=hB.i;have hC:=Du T hB;refine⟨_,.inl (iQ hq),?_⟩;rw[jc];have hR:=hB.row (z:=z) (sH hq hs) (hB.lots hL);by_cases hl:ls.length=0
  ·rw[ze (by omega)]
   unfold aij;walk_at "i";have e:keepR kb.rs z q ls=Rw kb.rs z:=zo hl;rw[e]at hR k;refine rd hb hC.c hC.r (by rfl) ⟨kb.rows,rfl,.inl ⟨_,.inl hB.r⟩,_,hB.r,Sum.inr z,rfl,λv hv=>?_,λhn=>?_⟩
   ·rw[aas]
    exact k _ (pK BkD.mr) hR
   ·rcases alj kb.rs z with⟨t,_,_,h3,_⟩|⟨_,_,h3⟩
    ·rw[hn]at h3;cases h3
    ·rw[Wi h3]at k
     exact k H (pB (same_refl _)) hB
  ·rw[zo (by omega)]
   have e:keepR kb.rs z q ls=YL kb.rs z q ls:=ze hl;rw[e]at hR k;refine rd hb hC.c hC.r (by rfl) ⟨kb.rows,rfl,_,FN (k:=Sum.inr z) hB.r (by unfold kvR;rw[za,zq];omega),?_⟩;rw[ajn _ _ _ ls];exact k _ (pK BkD.mr) hR
def jk.me{H:Hp}{b:Addr}{k:BkD}(h:jk A H b k){sp:Sp}:(k.C,sp)∈[(A.ac2,sp),(A.ac4,sp)]:=by
 rcases h.c with⟨e,_⟩|⟨e,_⟩
 ·rw[e];exact zj
 ·rw[e];exact zp _ zj
def aad{ls:RL}{i:Nat}{l:Addr×jz}(h:ls[i]? =some l):pcs (ls.take (i+1))=pcs (ls.take i)+l.2.p:=by
 rw[zN,h];show pcs (ls.take i++[l])=_;rw[aiU];unfold pcs;simp
inductive JR(A:Adr)(vs:List V)(H:Hp)(Q:VK)(E:XK):Prop
 |mk (b q:Addr) (z:Str) (k:BkD) (ls:RL) (ns:List Int) (_:vs=[.ref b,.str z,.ref q]) (_:jk A H b k) (_:H q=some (.lst (jB ls))) (_:kY A H ls) (_:(∀l∈ls,1<=l.2.p/\l.2.n∈ns)) (_:Shp ns (rowOf k.rs z)) (_:ns.length<=58) (_:k.rs.length<=50) (_:∀q' ms H',Stp (k.M b) (k.M b) H H'->jk A H' b {k with rs:=keepR k.rs z q' ms}->Shp ns ms->pcs ms=pcs (rowOf k.rs z)+pcs ls->Q .non H'):JR A vs H Q E
def oK(T:Txt K mg A D):jQ P w K mg base CX0 5 A.abA D.abA ["self", "ware", "lots"] (JR A):=by
 refine T.adH.okv uG λ_ _ _ _ H vs Q E hr h=>?_
 ·obtain⟨b,q,z,kb,ls,ns,rfl,hB,hq,hL,am,hS,hn,hz,k⟩:=h
  refine ⟨_,(iB (ji (i:=3) uG.nd rfl orl (jE (pv 0) (mc T.agv T.ahe (kZ T) hr (lD T) (mc T.agI T.ahf (kZ T) hr (lD T) .nil)) jL (pav 1 iD)))
   (iB (oE zQ rfl (jW (K:=K) (pv 2)) (iW (i:=4) uG.nd rfl orl)
    (iG (ji (i:=3) uG.nd rfl orl (pcg (Ri T) hr T.adG (Va T) (pav 3 (pav 4 iD))))))
   (iG (jo (jE (pv 0) (mc T.agv T.ahg (jV T) hr (kh T) (mc T.agI T.ahh (jV T) hr (kh T) .nil)) jL (pav 1 (pav 3 iD))))))),?_⟩
  simp only[start_eq];walk_at "m";obtain⟨dx,hb⟩:=hB.i;refine md hb hB.me (by unfold BkD.fs BkD.xs;cases kb.x<;>rfl) ⟨b,z,kb,rfl,hB,λr H1 s1 al ap aj=>?_⟩
  try dsimp only
  rw[ap_seq,ap_for];walk_at "i";refine⟨⟨_,iQ (s1 _ _ hq)⟩,?_⟩
  refine Gg.listN (K:=K) (a:=q) (xs:=jB ls) (λi σ H2=>∃(r':Addr)(v4:Option V),σ=[some (.ref b),some (.str z),some (.ref q),some (.ref r'),v4]/\Same H H2/\H r'=none/\∃ms:RL,H2 r'=some (.lst (jB ms))/\kY A H2 ms/\Shp ns ms/\pcs ms=pcs (rowOf kb.rs z)+pcs (ls.take i))
   ⟨r,_,rfl,s1,al,rowOf kb.rs z,ap,aj,hS,by unfold pcs;simp⟩ (λi σ H2 _ ⟨_,_,_,s,_⟩=>s.seq (iQ hq)) ?_ ?_
  ·rintro i y σ H2 hi ⟨r',v4,rfl,s2,af,ms,h2,ad,aa,ab⟩ N hN
   obtain⟨l,ac,rfl⟩:=jU hi;have aq:=aa.len;have ag:=am l (get_mem ac);walk_at "i";refine⟨r',l.1,ms,l.2,rfl,h2,ad,(hL l (get_mem ac)).same s2,by omega,aa.u,λl3 an H3 s3 ao h3 ai e1 e2=>?_⟩;obtain⟨g1,g2⟩:=Uz aa ag.1 ag.2 e1 e2;refine hN _ _ ⟨l3,_,rfl,s2.trans s3,s2.free ao,an,h3,ai,g1,?_⟩;rw[g2,ab,aad ac];omega
  ·rintro σ H2 ⟨r',v4,rfl,s2,af,ms,h2,ad,aa,ab⟩
   have ae:=hB.same s2;obtain⟨ar,ah⟩:=ae.i;rw[jc,z0]at ab
   try dsimp only
   walk_at "i";exact md ah ae.me (by unfold BkD.fs BkD.xs;cases kb.x<;>rfl) ⟨b,r',z,kb,ms,rfl,ae,h2,ad,hB.fresh af,hz,λH4 o4 ak=>k r' ms H4 ((pB s2).trans o4) ak aa ab⟩
noncomputable def Kw(rs:RW):List (Key×V):=rs.map λt=>(Sum.inr t.1,.int (pcs t.2.2))
def aaC{ns:List Int}{W:List Str}{rs:RW}(h:Mq ns W rs):Vh (Kw rs):=by
 refine⟨λkv q=>?_,?_⟩
 ·obtain⟨t,ht,rfl⟩:=zi.mp q
  refine⟨t.1,pcs t.2.2,rfl,?_⟩;have h1:=Bs (h.n t ht).2.p;have h2:=yt.mpr (h.n t ht).1;omega
 ·unfold Kw
  rw[zx];have:((λx:Key×V=>x.1)∘λt:Str×Addr×RL=>((Sum.inr t.1:Key),V.int (pcs t.2.2)))=(λz:Str=>(Sum.inr z:Key))∘λt:Str×Addr×RL=>t.1:=rfl;rw[this,<-zx];exact zW.mpr (h.u.imp fun{a b} aa e=>aa (y4 e))
theorem QH:∀(rs:RW)(z:Str),jJ (Kw rs) z=pcs (rowOf rs z)
 |[],z=>rfl
 |t::rs,z=>by
  have q:=QH rs z;show jJ ((Sum.inr t.1,V.int (pcs t.2.2))::Kw rs) z=pcs (if t.1=z then t.2.2 else rowOf rs z);by_cases e:t.1=z
  ·rw[zo e]
   unfold jJ;rw[lN (by rw[e])]
  ·rw[ze e,<-q]
   unfold jJ;rw[lE (λh=>e (y4 h))]
noncomputable def alT:Key->Str
 |.inr z=>z
 |.inl _=>Str.ofString ""
theorem Mm:∀{rs:RW}{t:Str×Addr×RL},(rs.map (·.1)).Nodup->t∈rs->rowOf rs t.1=t.2.2
 |u::rs,t,hu,q=>by
  rw[zl,zP]at hu;unfold rowOf;rcases zu.mp q with e|q
  ·rw[e,zo rfl]
  ·have:u.1≠t.1:=λe=>hu.1 (by rw[e];exact zi.mpr ⟨t,q,rfl⟩)
   rw[ze this];exact Mm hu.2 q
inductive EY(A:Adr)(vs:List V)(H:Hp)(Q:VK)(E:XK):Prop
 |mk (b:Addr) (k:BkD) (ns:List Int) (W:List Str) (_:vs=[.ref b]) (_:jk A H b k) (_:Mq ns W k.rs) (_:W.length<=50) (_:ns.length<=58) (_:∀p kv H',Same H H'->H p=none->H' p=some (.dK kv)->Vh kv->kv.length<=50->(∀z,jJ kv z=pcs (rowOf k.rs z))->Q (.ref p) H'):EY A vs H Q E
def Fl(T:Txt K mg A D):jQ P w K mg base CX0 2 A.acl D.acl ["self"] (EY A):=by
 refine T.aer.okv NQ λ_ _ _ _ H vs Q E hr h=>?_
 ·obtain⟨b,q,ns,W,rfl,hB,hO,hW,hN,k⟩:=h
  refine⟨_,(iG (iY (Rx (nq (qQ (K:=K) rfl) (by rfl) T.ae9 (by decide+kernel) (iz (jO (cap:=[none,none]) (N':=["ware", "row"]) rfl (by walk_at "c") (Uq (Ib (K:=K) yd zzn PySem.F.type_dict_items Sv (fv K 0))) (λ_ _ _ _=>(nO (K:=K) (n:=2) rfl (jy (iW (i:=0) (show(["ware", "row"]:List Str).Nodup from by decide+kernel) rfl orl orr) (jy (iW (i:=1) (show(["ware", "row"]:List Str).Nodup from by decide+kernel) rfl orl orr) nM)))) (λ_ _ _ _=>jP) (λ_ _ _ _=>(lY (pav 0 (iz (pcg (Ou T) hr T.aeq (Sd T) (pav 1 iD)) iD))))) iD))))),?_⟩;walk_at "a";obtain⟨dx,hb⟩:=hB.i;have hC:=Du T hB;refine rd hb hC.c hC.r (v:=.ref q.rows) (by rfl) ⟨.inr (.inr (.inl ⟨rfl,.inl ⟨_,hB.r⟩⟩)),?_⟩;refine⟨_,_,rfl,rfl,hB.r,λv hv=>⟨v,rfl,q.rows,iH,kvR q.rs,(iU (jN hB.r hv)).trans hB.r,λo=>?_⟩⟩;have h3:(upd (upd H v (Gk v q.rows)) q.rows (.frz o (.dK (kvR q.rs)))) q.rows=some (.frz o (.dK (kvR q.rs))):=iH;have o3:∀a o',a≠q.rows->H a=some o'->(upd (upd H v (Gk v q.rows)) q.rows (.frz o (.dK (kvR q.rs)))) a=some o':=λa o' aj h=>(iU aj).trans (iM hv _ _ h);generalize upd (upd H v (Gk v q.rows)) q.rows (.frz o (.dK (kvR q.rs)))=H3 at h3 o3⊢
  have af:LC A H3 q.rs:=λt ht=>⟨o3 _ _ (hB.ner (hB.frz.l t ht).1 λ_ c=>by cases c) (hB.frz.l t ht).1,λl hl=>by
   obtain⟨dy,hy⟩:=(hB.frz.l t ht).2 l hl;exact⟨dy,o3 _ _ (hB.ner hy λ_ c=>by cases c) hy⟩⟩
  have ah:(kvR q.rs).length=q.rs.length:=by unfold kvR;rw[za]
  have hz:q.rs.length<=50:=zV hO.len hW;refine lu.itemsF (λσ=>∃a b,σ=[a,b]) (λ_=>true) (λkv v H'=>∃b,v=.ref b/\H' b=some (.tup [kV kv.1,.int (pcs (rowOf q.rs (alT kv.1)))])) h3 ⟨_,_,rfl⟩ (by rw[ah,zq];omega) ?_ ?_
  ·rintro D i kv z σ H5 p R1 R2 ⟨_,_,rfl⟩ s5 hD ⟨acc,hA⟩ hp k1 k2
   obtain ⟨t,ht,rfl⟩:∃t,q.rs[i]? =some t/\kv=(Sum.inr t.1,.ref t.2.1):=by
    unfold kvR at z;rw[zd]at z
    cases e:q.rs[i]? with
    |none=>rw[e]at z;cases z
    |some t=>rw[e]at z;exact⟨t,rfl,(zw z).symm⟩
   have ab:=zm ht;have s6:=iM (o:=.tup [kV (Sum.inr t.1),.ref t.2.1]) hp;have h6:(upd H5 p (.tup [kV (Sum.inr t.1),.ref t.2.1])) p=some (.tup [.str t.1,.ref t.2.1]):=iH;have ae:=s6 _ _ hA;have aa:=(af.same s5).same s6 t ab;generalize upd H5 p (.tup [kV (Sum.inr t.1),.ref t.2.1])=H6 at h6 ae aa k1 k2⊢;walk_at "i";refine⟨_,jD h6,rfl,_,_,rfl,_,_,rfl,rfl,t.2.1,t.2.2,rfl,aa.1,aa.2,by have:=(hO.n t ab).2.len;omega,λH7 s7=>?_⟩;refine⟨sz,λu hu=>k1 rfl _ _ _ ⟨_,_,rfl⟩ (s7.trans (iM hu)) λH' hb=>⟨u,rfl,?_⟩⟩;have e1:rowOf q.rs (alT (Sum.inr t.1))=t.2.2:=Mm hO.u ab;have ep:((t.2.2.map (·.2)).map jz.p).sum=pcs t.2.2:=by unfold pcs;rw[zx];rfl
   rw[e1,<-ep];exact hb _ _ (λe=>by rw[e,s7 _ _ ae]at hu;cases hu) iH
  ·intro D H4 acc hD s4 hA ac hF
   have ag:(kvR q.rs).filter (λ_=>true)=kvR q.rs:=zzd.mpr λ_ _=>rfl;rw[ag]at ac hF;have ak:(Kw q.rs).length=q.rs.length:=by unfold Kw;rw[za]
   have hF':∀(i:Nat) v,acc[i]? =some v->∃kv,(Kw q.rs)[i]? =some kv/\∃b,v=.ref b/\H4 b=some (.tup [kV kv.1,kv.2]):=λi v hv=>by
    obtain⟨kv,h1,b,h2,h4⟩:=hF i v hv;unfold kvR at h1;rw[zd]at h1
    cases e:q.rs[i]? with
    |none=>rw[e]at h1;cases h1
    |some t=>
     rw[e]at h1;cases h1;have e1:rowOf q.rs (alT (Sum.inr t.1))=t.2.2:=Mm hO.u (zm e);rw[e1]at h4;exact⟨(Sum.inr t.1,.int (pcs t.2.2)),by unfold Kw;rw[zd,e];rfl,b,h2,h4⟩
   have hH:=aaC hO;rw[ap_dictPairs];refine⟨acc,kfD H4,vfD H4,iQ hA,by omega,λy hy=>?_,λp hp=>?_⟩
   ·obtain⟨i,hi,e⟩:=zZ hy
    obtain⟨kv,_,b,rfl,hb⟩:=hF' i y (by rw[zh hi,e]);exact⟨b,rfl,by rw[Xm hb,Wu hb];exact jD hb⟩
   ·rw[Xy (by omega) hF' hH.u]
    have s5:=s4.trans (iM (o:=.dK (Kw q.rs)) hp);have ad:p≠q.rows:=λe=>by rw[e,s4 _ _ h3]at hp;cases hp
    have ai:H p=none:=by
     cases e:H p with
     |none=>rfl
     |some o'=>rw[s4 _ _ (o3 _ _ ad e)]at hp;cases hp
    refine⟨q.rows,o,kvR q.rs,s5 _ _ h3,λo u e=>?_,k p (Kw q.rs) _ (λa o' h=>?_) ai ((iU ad).trans iH) hH (by omega) (QH q.rs)⟩
    ·have e:H q.rows=some (.frz o u):=e
     rw[hB.r]at e;cases e
    ·by_cases c:a=q.rows
     ·rw[c,hB.r]at h
      rw[c,iH];exact h
     ·rw[iU c]
      exact s5 _ _ (o3 _ _ c h)
inductive uX(A:Adr)(vs:List V)(H:Hp)(Q:VK)(E:XK):Prop
 |mk (b x:Addr) (k:BkD) (ns:List Int) (W:List Str) (d n m f:Int) (w:Str) (_:vs=[.ref b,.ref x]) (_:jk A H b k) (_:IsE A H x (.split d n w m f)) (_:Mo m f) (_:Mq ns W k.rs) (_:W.length<=50) (_:ns.length<=58) (_:(rowOf k.rs w=[]\/1<=pcs (rowOf k.rs w)*m/f)) (_:∀q ms H',Stp (k.M b) (k.M b) H H'->jk A H' b {k with rs:=keepR k.rs w q ms}->Shp ns ms->pcs ms=pcs (rowOf k.rs w)*m/f->Q .non H'):uX A vs H Q E
def uZ(T:Txt K mg A D):jQ P w K mg base CX0 5 A.ab6 D.ab6 ["self", "entry"] (uX A):=by
 refine T.aed.okv FQ λ_ _ _ _ H vs Q E hr h=>?_
 ·obtain⟨b,x,kb,ns,W,d,n,m,f,w,rfl,z,⟨dx,nv,hx,_⟩,hM,hO,hW,hN,hp,k⟩:=h
  refine⟨_,(iG (jo (jE (pv 0) (mc T.agv T.ahg (jV T) hr (kh T) (mc T.agI T.ahh (jV T) hr (kh T) .nil)) jL (iz (fv K 1) (iz (pcg (QT T) hr T.aec (QX T) (iz (jE (pv 0) (mc T.agv T.ahe (kZ T) hr (lD T) (mc T.agI T.ahf (kZ T) hr (lD T) .nil)) jL (iz (fv K 1) iD)) (iz (fv K 1) (iz (fv K 1) iD)))) iD))))),?_⟩;walk_at "a";obtain⟨db,hb⟩:=z.i;have hl:=(hO.row w).len;have hz:=hO.len;refine md hb z.me (by unfold BkD.fs BkD.xs;cases kb.x<;>rfl) (rd hx T.ago T.ags (by rfl) (md hb z.me (by unfold BkD.fs BkD.xs;cases kb.x<;>rfl) (rd hx T.ago T.ags (by rfl) ⟨b,w,kb,rfl,z,λr H1 s1 aj ah ae=>?_⟩)));have aa:=s1 _ _ hx;refine rd aa T.ago T.agt (by rfl) (rd aa T.ago T.agu (by rfl) ⟨r,rowOf kb.rs w,m,f,ns,rfl,ah,ae,by omega,hM,hO.row w,hp,λq ms H2 s2 hq ag ad af ab=>?_⟩);have S2:=s1.trans s2;have ai:=z.same S2;exact⟨b,q,w,kb,ms,rfl,ai,ag,ad,z.fresh (s1.free hq),by omega,λH3 o3 ac=>k q ms H3 ((pB S2).trans o3) ac af ab⟩
theorem jk.day{H:Hp}{b:Addr}{k:BkD}(h:jk A H b k){x C dx:Addr}{fs:List (Str×V)}{v:V}(q:H x=some (.ins C dx ((Str.ofString "day",v)::fs))):vQ H (k.M b) x=some (.ins C dx ((Str.ofString "day",v)::fs)):=sH q λc=>by
 obtain⟨o,e,c⟩:=h.own c;rw[q]at e;obtain rfl:=zw e;rcases c with⟨_,c⟩|⟨_,c⟩|⟨_,c⟩
 ·injection c with _ _ c
  exact absurd (Prod.mk.inj (yT c).1).1 (by decide+kernel)
 ·cases c
 ·cases c
inductive rG(A:Adr)(vs:List V)(H:Hp)(Q:VK)(E:XK):Prop
 |mk (b x:Addr) (k:BkD) (ns:List Int) (W:List Str) (d n s t:Int) (w u:Str) (_:vs=[.ref b,.ref x]) (_:jk A H b k) (_:IsE A H x (.part d n w u s t)) (_:Shr s t) (_:w≠u) (_:w∈W) (_:Mq ns W k.rs) (_:W.length<=50) (_:ns.length<=58) (_:∀q1 l1 q ms H',Stp (k.M b) (k.M b) H H'->jk A H' b {k with rs:=keepR (keepR k.rs w q1 l1) u q ms}->Shp ns l1->pcs l1=pcs (rowOf k.rs w)->Shp ns ms->pcs ms=pcs (rowOf k.rs u)+pcs (rowOf k.rs w)->Q .non H'):rG A vs H Q E
def qY(T:Txt K mg A D):jQ P w K mg base CX0 6 A.ab8 D.ab8 ["self", "entry"] (rG A):=by
 refine T.aef.okv rH λ_ _ _ _ H vs Q E hr h=>?_
 ·obtain⟨b,x,kb,ns,W,d,n,s,t,w,u,rfl,hB,⟨dx,nv,hx,_⟩,hs,ai,hw,hO,hW,hN,k⟩:=h
  refine ⟨_,(iB (ji (i:=2) rH.nd rfl orl (pcg (Mw T) hr T.aee (Qq T) (iz (jE (pv 0) (mc T.agv T.ahe (kZ T) hr (lD T) (mc T.agI T.ahf (kZ T) hr (lD T) .nil)) jL (iz (fv K 1) iD)) (iz (fv K 1) (iz (fv K 1) iD)))))
   (iB (jo (jE (pv 0) (mc T.agv T.ahg (jV T) hr (kh T) (mc T.agI T.ahh (jV T) hr (kh T) .nil)) jL (iz (fv K 1) (iz (jF (jm (K:=K)) (pvD 2) iJ (λ_ _=>rfl)) iD))))
   (iG (jo (jE (pv 0) (mc T.agv T.ahk (oK T) hr (qj T) (mc T.agI T.ahl (oK T) hr (qj T) .nil)) jL (iz (fv K 1) (iz (jF (jm (K:=K)) (pvD 2) iJ (λ_ _=>rfl)) iD))))))),?_⟩
  obtain⟨db,hb⟩:=hB.i;have hl:=(hO.row w).len;have hz:=hO.len;simp only[start_eq];walk_at "m";refine md hb hB.me (by unfold BkD.fs BkD.xs;cases kb.x<;>rfl) (rd hx T.afI T.afM (by rfl) ⟨b,w,kb,rfl,hB,λr H1 s1 ax au ao=>?_⟩);have af:=s1 _ _ hx;refine rd af T.afI T.afO (by rfl) (rd af T.afI T.afP (by rfl) ⟨r,rowOf kb.rs w,s,t,rfl,au,ao,by omega,hs,λtt q1 q2 l1 l2 H2 s2 ar as az ht h1 h2 aq ak e1 e2=>?_⟩);have S2:=s1.trans s2;have z:=hB.same S2;obtain⟨ba,ah⟩:=z.i;have ae:=S2 _ _ hx;have m1:Sim (rowOf kb.rs w) l1:=Xp (f:=rst s t) (λd=>⟨rfl,rfl⟩) e1;have m2:Sim (rowOf kb.rs w) l2:=Xp (f:=prt s t) (λd=>⟨rfl,rfl⟩) e2;have ac:=m1.shp (hO.row w);have ad:=m2.shp (hO.row w);walk_at "m";refine md ah z.me (by unfold BkD.fs BkD.xs;cases kb.x<;>rfl) (rd ae T.afI T.afM (by rfl) ⟨_,jD ht,_,rfl,b,q1,w,kb,l1,rfl,z,h1,aq,hB.fresh (s1.free ar),by omega,λH3 o3 aa=>?_⟩);have G:Same (vQ H2 (kb.M b)) H3:=λa o h=>ud _ _ (o3.same _ _ h);have ag:=G _ _ (z.tup ht);have am:=G _ _ (sH h2 (hB.fresh (s1.free as)));have al:=kY.same (z.lots ak) G;have av:=G _ _ (z.day ae);obtain⟨aw,an⟩:=aa.i;have ab:=hO.keep hw (q:=q1) ac;have ay:=ab.len;have aj:rowOf (keepR kb.rs w q1 l1) u=rowOf kb.rs u:=by rw[xQ,ze (λc=>ai c.symm)]
  exact md an aa.me (by unfold BkD.fs BkD.xs;cases kb.x<;>rfl) (rd av T.afI T.afN (by rfl) ⟨_,jD ag,_,rfl,b,q2,u,_,l2,ns,rfl,aa,am,al,λl hl=>⟨ad.p l hl,ad.m l hl⟩,ab.row u,hN,(show(keepR kb.rs w q1 l1).length<=50 by omega),λq' ms H4 o4 ap g1 g2=>k q1 l1 q' ms H4 ((pB S2).trans (o3.trans o4)) ap ac m1.pcs g1 (by rw[g2,m2.pcs];show pcs (rowOf (keepR kb.rs w q1 l1) u)+_=_;rw[aj])⟩)
def Uw(k:BkD):k.fs.length<1000:=by unfold BkD.fs BkD.xs;cases k.x<;>simp
def QF(k:BkD)(i:Int):DP (Str.ofString "brought") (.int i) k.fs={k with brought:=i}.fs:=by cases k;rfl
def XQ(k:BkD)(i:Int):DP (Str.ofString "paid") (.int i) k.fs={k with paid:=i}.fs:=by cases k;rfl
def amj{H:Hp}{y:Addr}{d:jz}(h:mL A H y d):kY A H [(y,d)]:=λl q=>by rw[zC.mp q];exact h
inductive wB(A:Adr)(vs:List V)(H:Hp)(Q:VK)(E:XK):Prop
 |mk (b x:Addr) (k:BkD) (ns:List Int) (W:List Str) (d n p c s:Int) (w:Str) (_:vs=[.ref b,.ref x]) (_:jk A H b k) (_:IsE A H x (.gift d n w p c s)) (_:1<=p) (_:n∈ns) (_:Mq ns W k.rs) (_:W.length<=50) (_:ns.length<=58) (_:∀q ms H',Stp (k.M b) (k.M b) H H'->jk A H' b {k with rs:=keepR k.rs w q ms,brought:=k.brought+c}->Shp ns ms->pcs ms=pcs (rowOf k.rs w)+p->Q .non H'):wB A vs H Q E
def wu(T:Txt K mg A D):jQ P w K mg base CX0 6 A.abK D.abK ["self", "entry"] (wB A):=by
 refine T.adR.okv Hj λ_ _ _ _ H vs Q E hr h=>?_
 ·obtain⟨b,x,kb,ns,W,d,n,p,c,s,w,rfl,hB,⟨dx,nv,hx,_⟩,hp,hn,hO,hW,hN,k⟩:=h
  refine ⟨_,(iB (jo (jE (pv 0) (mc T.agv T.ahk (oK T) hr (qj T) (mc T.agI T.ahl (oK T) hr (qj T) .nil)) jL (iz (fv K 1) (iz (kW (iz (lR T.ag5 (jT (K:=K) T) (hr.mono (by decide)) (by rfl) T.afs (jY T) .nil jL (iz (fv K 1) (iz (fv K 1) (iz (fv K 1) (iz (fv K 1) iD))))) iD)) iD))))
   (iG (jA (K:=K) (pv 0) (ju kE (fv K 0) (fv K 1)) rfl))),?_⟩
  obtain⟨db,hb⟩:=hB.i;have hz:=hO.len;simp only[start_eq];walk_at "m";refine md hb hB.me (by unfold BkD.fs BkD.xs;cases kb.x<;>rfl) (rd hx T.af9 T.agd (by rfl) (rd hx T.af9 T.agc (by rfl) (rd hx T.af9 T.agg (by rfl) (rd hx T.af9 T.age (by rfl) (rd hx T.af9 T.agf (by rfl) (λy dy hy ag _=>?_))))));refine qb (A:=A) ⟨n,s,p,c⟩ hy ag λH1 s1 hL=>⟨sz,λq hq=>?_⟩;have s2:=s1.trans (iM (o:=.lst [.ref y]) hq);have ad:(upd H1 q (.lst [.ref y])) q=some (.lst (jB [(y,⟨n,s,p,c⟩)])):=iH;have ab:=hL.same (iM (o:=.lst [.ref y]) hq);generalize upd H1 q (HO.lst [.ref y])=H2 at s2 ad ab⊢;have ae:=hB.same s2;refine⟨b,q,w,kb,[(y,⟨n,s,p,c⟩)],ns,rfl,ae,ad,amj ab,λl hl=>by rw[zC.mp hl];exact⟨hp,hn⟩,hO.row w,hN,by omega,λq' ms H3 o3 z g1 g2=>?_⟩;have G:Same (vQ H2 (kb.M b)) H3:=λa o h=>ud _ _ (o3.same _ _ h);have ah:=G _ _ (ae.day (s2 _ _ hx));obtain⟨af,ac⟩:=z.i;have aa:=Du T z
  try dsimp only
  refine rd ac aa.c aa.b (by rfl) (rd ah T.af9 T.agf (by rfl) ⟨_,rfl,_,rfl,_,af,_,ac,aa.c,aa.b,Uw _,?_⟩);rw[QF];exact k q' ms _ ((pB s2).trans (o3.trans (pK BkD.mb))) (z.put (la:=kb.last) (pa:=kb.paid) (br:=kb.brought+c) z.z.p) g1 (by rw[g2];unfold pcs;simp)
noncomputable def Tk(e:Ent)(w:Str)(p:Int):Prop:=(∃d n r f,e=.sell d n w p r f none)\/∃d n,e=.give d n w p none
def alF(T:Txt K mg A D){H:Hp}{x:Addr}{e:Ent}{w:Str}{p:Int}(h:IsE A H x e)(he:Tk e w p):∃C dx v fs,H x=some (.ins C dx ((Str.ofString "day",v)::fs))/\Cls K C/\jg K C "ware" /\jg K C "pieces" /\jg K C "named" /\
  List.lookup (Str.ofString "ware") ((Str.ofString "day",v)::fs)=some (.str w)/\List.lookup (Str.ofString "pieces") ((Str.ofString "day",v)::fs)=some (.int p)/\List.lookup (Str.ofString "named") ((Str.ofString "day",v)::fs)=some .non:=by
 obtain⟨dx,z,q,hn⟩:=h;rcases he with⟨d,n,r,f,rfl⟩|⟨d,n,rfl⟩
 ·have hn:z=.non:=hn
  subst hn;exact⟨_,dx,_,_,q,T.afZ,T.af3,T.af4,T.af7,by rfl,by rfl,by rfl⟩
 ·have hn:z=.non:=hn
  subst hn;exact⟨_,dx,_,_,q,T.agh,T.agl,T.agm,T.agn,by rfl,by rfl,by rfl⟩
inductive uy(A:Adr)(vs:List V)(H:Hp)(Q:VK)(E:XK):Prop
 |mk (b x Cw dw:Addr) (k:BkD) (ns:List Int) (W:List Str) (e:Ent) (w:Str) (p:Int) (_:vs=[.ref b,.ref x]) (_:jk A H b k) (_:H k.way=some (.ins Cw dw [])) (_:TY A Cw) (_:IsE A H x e) (_:Tk e w p) (_:Mq ns W k.rs) (_:W.length<=50) (_:ns.length<=58) (_:1<=p) (_:p<=pcs (rowOf k.rs w)) (_:pcs (rowOf k.rs w)<=1000000000) (_:∀la l1 q ms H',Stp (k.M b) (k.M b) H H'->jk A H' b {k with rs:=keepR k.rs w q ms}->H la=none->H' la=some (.lst (jB l1))->kY A H' l1->Shp ns l1->pcs l1=p->l1≠[]->Shp ns ms->pcs ms=pcs (rowOf k.rs w) - p->Q (.ref la) H'):uy A vs H Q E
def mZ(T:Txt K mg A D):jQ P w K mg base CX0 6 A.ab1 D.ab1 ["self", "entry"] (uy A):=by
 refine T.ad8.okv ux λ_ _ _ _ H vs Q E hr h=>?_
 ·obtain⟨b,x,Cw,dw,kb,ns,W,e,w,p,rfl,z,hw,ad,ai,he,hO,hW,hN,ag,ac,ab,k⟩:=h
  obtain⟨C,dx,v,fs,hx,c0,c1,c2,c3,f1,f2,f3⟩:=alF T ai he
  refine ⟨_,(iB (UG ((iG (ji (i:=2) ux.nd rfl orl (pcg (Qd T) hr T.ad7 (Rt T) (iz (fv K 0) (iz (jE (pv 0) (mc T.agv T.ahe (kZ T) hr (lD T) (mc T.agI T.ahf (kZ T) hr (lD T) .nil)) jL (iz (fv K 1) iD)) (iz (fv K 1) (iz (fv K 1) iD)))))))))
   (iB (jo (jE (pv 0) (mc T.agv T.ahg (jV T) hr (kh T) (mc T.agI T.ahh (jV T) hr (kh T) .nil)) jL (iz (fv K 1) (iz (jF (jm (K:=K)) (pvD 2) iJ (λ_ _=>rfl)) iD))))
   (iG (iY (jF (jm (K:=K)) (pvD 2) iJ (λ_ _=>rfl)))))),?_⟩
  simp only[start_eq];walk_at "m";obtain⟨db,hb⟩:=z.i;have hC:=Du T z;have hz:=hO.len;refine rd hb hC.c hC.w (by rfl) (md hb z.me (by unfold BkD.fs BkD.xs;cases kb.x<;>rfl) (rd hx c0 c1 f1 ⟨b,w,kb,rfl,z,λl H1 s1 ak h1 ah=>?_⟩));have aa:=s1 _ _ hx;refine rd aa c0 c2 f2 (rd aa c0 c3 f3 ⟨kb.way,Cw,dw,l,ns,rowOf kb.rs w,p,rfl,s1 _ _ hw,ad,h1,ah,hO.row w,by omega,ab,ag,ac,λt la lb l1 l2 H2 s2 ht h5 h6 h7 h8 g1 g2 g3 g4 g5 g6 g7 g8=>?_⟩);have S2:=s1.trans s2;have q:=z.same S2;obtain⟨al,af⟩:=q.i;have aj:=s2 _ _ aa;walk_at "m";refine md af q.me (by unfold BkD.fs BkD.xs;cases kb.x<;>rfl) (rd aj c0 c1 f1 ⟨_,jD ht,.ref lb,rfl,b,lb,w,kb,l2,rfl,q,h6,h8,z.fresh (s1.free g7),by omega,λH3 o3 ae=>?_⟩);have G:Same (vQ H2 (kb.M b)) H3:=λa o h=>ud _ _ (o3.same _ _ h);exact⟨_,jD (G _ _ (q.tup ht)),.ref la,rfl,k la l1 lb l2 H3 ((pB S2).trans o3) ae (s1.free g6) (G _ _ (sH h5 (z.fresh (s1.free g6)))) (kY.same (q.lots h7) G) g1 g2 g3 g4 g5⟩
inductive wH(A:Adr)(vs:List V)(H:Hp)(Q:VK)(E:XK):Prop
 |mk (b x Cw dw:Addr) (k:BkD) (ns:List Int) (W:List Str) (d n p r f:Int) (w:Str) (_:vs=[.ref b,.ref x]) (_:jk A H b k) (_:H k.way=some (.ins Cw dw [])) (_:TY A Cw) (_:IsE A H x (.sell d n w p r f none)) (_:Mq ns W k.rs) (_:W.length<=50) (_:ns.length<=58) (_:1<=p) (_:p<=pcs (rowOf k.rs w)) (_:pcs (rowOf k.rs w)<=1000000000) (_:k.sl.length<=100) (_:∀y s q ms H',Stp (k.M b) (k.M b) H H'->jk A H' b {k with rs:=keepR k.rs w q ms,sl:=k.sl++[(y,s)]}->s.n=n->s.d=d->s.w=w->s.lo=none->(s.ps.map λr=>r.2.2).sum=s.pr->Shp ns ms->pcs ms=pcs (rowOf k.rs w) - p->Q .non H'):wH A vs H Q E
def wZ(T:Txt K mg A D):jQ P w K mg base CX0 7 A.ab2 D.ab2 ["self", "entry"] (wH A):=by
 refine T.ad9.okv Jt λ_ _ _ _ H vs Q E hr h=>?_
 ·obtain⟨b,x,Cw,dw,z,ns,W,d,n,p,r,f,w,rfl,hB,hw,ad,hx,hO,hW,hN,ag,ae,ac,ak,k⟩:=h
  refine⟨_,(iG (jo (qx (K:=K) zH zR zS mD (fv K 0) (iz (pcg (Vg T) hr T.adV (Xc T) (pav 1 (iz (jE (pv 0) (mc T.agv T.ahy (mZ T) hr (nF T) (mc T.agI T.ahz (mZ T) hr (nF T) .nil)) jL (pav 1 iD)) iD))) iD)))),?_⟩;obtain⟨db,hb⟩:=hB.i;have hC:=Du T hB;walk_at "a";refine rd hb hC.c hC.s (v:=.ref z.sales) (by rfl) ⟨tyL (iQ hB.s),?_⟩;refine md hb hB.me (by unfold BkD.fs BkD.xs;cases z.x<;>rfl) ⟨b,x,Cw,dw,z,ns,W,_,w,p,rfl,hB,hw,ad,hx,.inl ⟨d,n,r,f,rfl⟩,hO,hW,hN,ag,ae,ac,λla l1 q ms H1 o1 ab am h1 ah g1 g2 g3 g4 g5=>?_⟩;have G:Same (vQ H (z.M b)) H1:=λa o h=>ud _ _ (o1.same _ _ h);have aj:IsE A H1 x (.sell d n w p r f none):=let⟨dx,nv,e,c⟩:=hx;⟨dx,nv,G _ _ (hB.day e),c⟩
  have al:=g1.len;refine⟨x,la,d,n,p,r,f,w,none,l1,rfl,aj,h1,ah,g3,by omega,g1.p,by omega,λy s H2 s2 hy af hS e1 e2 e3 e4 e5 e6 e7=>?_⟩;have aa:=ab.same s2;have ai:=aa.sal hS (ab.fresh af);have hE:=aa.sale ai;show Hq (V.ref z.sales) [V.ref y] H2 _;rw[ap_append];refine⟨_,aa.s,?_,?_⟩
  ·unfold pZ
   rw[za,zq];show z.sl.length<_;omega
  rw[show pZ z.sl++[V.ref y]=pZ (z.sl++[(y,s)]) by unfold pZ;rw[zv];rfl];exact k y s q ms _ (o1.trans ((pB s2).trans (pK BkD.ms))) hE e1 e2 e3 e5 e7 g4 g5
inductive vY(A:Adr)(vs:List V)(H:Hp)(Q:VK)(E:XK):Prop
 |mk (b x Cw dw:Addr) (k:BkD) (ns:List Int) (W:List Str) (d n p:Int) (w:Str) (_:vs=[.ref b,.ref x]) (_:jk A H b k) (_:H k.way=some (.ins Cw dw [])) (_:TY A Cw) (_:IsE A H x (.give d n w p none)) (_:Mq ns W k.rs) (_:W.length<=50) (_:ns.length<=58) (_:1<=p) (_:p<=pcs (rowOf k.rs w)) (_:pcs (rowOf k.rs w)<=1000000000) (_:k.gv.length<=100) (_:∀g q ms H',Stp (k.M b) (k.M b) H H'->jk A H' b {k with rs:=keepR k.rs w q ms,gv:=k.gv++[g]}->g.2.2.2.length<=58->Shp ns ms->pcs ms=pcs (rowOf k.rs w) - p->Q .non H'):vY A vs H Q E
def wD(T:Txt K mg A D):jQ P w K mg base CX0 7 A.ab3 D.ab3 ["self", "entry"] (vY A):=by
 refine T.aea.okv HN λ_ _ _ _ H vs Q E hr h=>?_
 ·obtain⟨b,x,Cw,dw,kb,ns,W,d,n,p,w,rfl,hB,hw,ad,hx,hO,hW,hN,af,ae,ac,al,k⟩:=h
  refine⟨_,(iG (jo (qx (K:=K) zH zR zS mD (fv K 0) (iz (lY (iz (fv K 1) (iz (jE (pv 0) (mc T.agv T.ahy (mZ T) hr (nF T) (mc T.agI T.ahz (mZ T) hr (nF T) .nil)) jL (pav 1 iD)) iD))) iD)))),?_⟩;obtain⟨db,hb⟩:=hB.i;have hC:=Du T hB;have aj:=hx;obtain⟨dx,nv,ak,_⟩:=aj;walk_at "a";refine rd hb hC.c hC.g (v:=.ref kb.givs) (by rfl) ⟨tyL (iQ hB.g),?_⟩;refine rd ak T.agh T.agk (by rfl) (md hb hB.me (by unfold BkD.fs BkD.xs;cases kb.x<;>rfl) ⟨b,x,Cw,dw,kb,ns,W,_,w,p,rfl,hB,hw,ad,hx,.inr ⟨d,n,rfl⟩,hO,hW,hN,af,ae,ac,λla l1 q ms H1 o1 ah ai h1 ag g1 g2 g3 g4 g5=>?_⟩);have am:=g1.len;refine⟨sz,λt ht=>?_⟩;have s2:=iM (o:=.tup [V.int n,V.ref la]) ht;have aa:(upd H1 t (.tup [V.int n,V.ref la])) t=some (.tup [V.int n,V.ref la]):=iH;have z:=ah.same s2;have h2:=s2 _ _ h1;have ab:=ag.same s2;show Hq (V.ref kb.givs) [V.ref t] (upd H1 t (.tup [V.int n,V.ref la])) _;generalize upd H1 t (.tup [V.int n,V.ref la])=H2 at s2 aa z h2 ab;have hE:=z.giv (t:=(t,n,la,l1)) (z.tup aa) (sH h2 (hB.fresh ai)) (z.lots ab);rw[ap_append];refine⟨_,z.g,?_,?_⟩
  ·unfold Og
   rw[za,zq];show kb.gv.length<_;omega
  rw[show Og kb.gv++[V.ref t]=Og (kb.gv++[(t,n,la,l1)]) by unfold Og;rw[zv];rfl];exact k _ q ms _ (o1.trans ((pB s2).trans (pK BkD.mv))) hE (by show l1.length<=58;omega) g4 g5
inductive xK(A:Adr)(vs:List V)(H:Hp)(Q:VK)(E:XK):Prop
 |mk (x:Addr) (s:jR) (n:Int) (_:vs=[.ref x,.int n]) (_:kI A H x s) (_:∀y pl H',Same H H'->H y=none->H pl=none->kI A H' y {s with pl:=pl,lo:=some n}->Q (.ref y) H'):xK A vs H Q E
def HS(T:Txt K mg A D):jQ P w K mg base CX0 3 A.abH D.abH ["sale", "number"] (xK A):=by
 refine T.adO.F.okv Hu λ_ _ _ _ H vs Q E hr h=>?_
 ·obtain⟨x,s,n,rfl,q,k⟩:=h
  refine⟨_,(iG (iY (lR T.ag6 (pQ (K:=K) T) (hr.mono (by decide)) (by rfl) T.afu (qM T) .nil jL (iz (fv K 0) (iz (fv K 0) (iz (fv K 0) (iz (fv K 0) (iz (fv K 0) (pav 1 iD))))))))),?_⟩;obtain⟨dx,hi⟩:=q.i;walk_at "a";refine rd hi T.agS T.agT (by rfl) (rd hi T.agS T.agU (by rfl) (rd hi T.agS T.agV (by rfl) (rd hi T.agS T.agW (by rfl) (rd hi T.agS T.agX (by rfl) (λy dy hy aa _=>?_)))));exact⟨y,s.pl,s.n,s.d,s.pr,s.w,some n,s.ps,H,dy,rfl,pX hy aa,q.p,q.t,q.l,λpl H' s' z hS=>⟨rfl,k y pl H' s' hy z hS⟩⟩
noncomputable def jR.opn(s:jR):Bool:=decide (s.lo=none) && decide (s.pr - s.co<0)
inductive wU(A:Adr)(vs:List V)(H:Hp)(Q:VK)(E:XK):Prop
 |mk (x:Addr) (s:jR) (_:vs=[.ref x]) (_:kI A H x s) (_:∀H',Same H H'->Q (.bl s.opn) H'):wU A vs H Q E
def JX(T:Txt K mg A D):jQ P w K mg base CX0 3 A.abE D.abE ["sale"] (wU A):=by
 refine T.adL.F.okv Ik λ_ _ _ _ H vs Q E z h=>?_
 ·obtain⟨x,s,rfl,q,k⟩:=h
  refine⟨_,(iG (iY (Qv (uU (Fy) (fv K 0) nu (jr _)) (Tw (uU (Qz) (lU (pv 0) (mc T.agS T.ahi (pA T) z (qw T) .nil) jL) iJ (jr _)))))),?_⟩;obtain⟨dx,hi⟩:=q.i;walk_at "a";refine rd hi T.agS T.agY (v:=loV s.lo) (by rfl) (?_);unfold jR.opn at k
  cases e:s.lo with
  |none=>
   rw[zo (show loV none=V.non from rfl)];rw[e,zE rfl,Bool.true_and]at k;exact md hi zj (by rfl) ⟨x,s,rfl,q,λH' s'=>⟨_,rfl,k H' s'⟩⟩
  |some i=>
   rw[ze (show¬loV (some i)=V.non from λc=>by cases c)];rw[e,zI (λc=>by cases c),zzL]at k;exact k H (same_refl _)
noncomputable def aic(s:jR)(w:Str)(d g:Int):Bool:=s.opn && (decide (s.w=w) && decide (d - s.d<=g))
inductive lA(A:Adr)(vs:List V)(H:Hp)(Q:VK)(E:XK):Prop
 |mk (b x y:Addr) (k:BkD) (g:Int) (la:Addr) (zs:List V) (s:jR) (d n p r f:Int) (w:Str) (_:vs=[.ref b,.ref x,.ref y]) (_:jk A H b k) (_:k.x=some (g,la,zs)) (_:IsE A H x (.buy d n w p r f)) (_:kI A H y s) (_:∀H',Same H H'->Q (.bl (aic s w d g)) H'):lA A vs H Q E
def oG(T:Txt K mg A D):jQ P w K mg base CX0 4 A.abF D.abF ["self", "entry", "sale"] (lA A):=by
 refine T.adM.okv vM λ_ _ _ _ H vs Q E hr h=>?_
 ·obtain⟨b,x,y,kb,g,la,zs,s,d,n,p,r,f,w,rfl,hB,hk,⟨dx,nv,hx,_⟩,hy,k⟩:=h
  refine⟨_,(iG (iY (Qv (pcg (JX T) hr T.adL (Ko T) (pav 2 iD)) (Qv (uU (mW) (fv K 2) (fv K 1) (jr _)) (Tw (uU (aiy) (ju pY (fv K 1) (fv K 2)) (fv K 0) (jr _))))))),?_⟩;walk_at "a";refine⟨y,s,rfl,hy,λH1 q=>?_⟩;refine⟨_,rfl,?_⟩;unfold aic at k;obtain⟨dy,hi⟩:=hy.i;have aa:=q _ _ hi;have ab:=q _ _ hx
  cases e:s.opn with
  |false=>
   rw[ze (by decide)];rw[e,zzL]at k;exact k H1 q
  |true=>
   rw[zo rfl];rw[e,Bool.true_and]at k;refine rd aa T.agS T.agV (by rfl) (rd ab T.afQ T.afU (by rfl) ⟨rfl,?_⟩);by_cases c:s.w=w
   ·rw[zo (by rw[c])]
    rw[zE c,Bool.true_and]at k;obtain⟨db,hb⟩:=(hB.same q).i;rcases hB.c with⟨_,c2⟩|⟨c1,_⟩
    ·rw[hk]at c2;cases c2
    ·refine rd ab T.afQ T.afS (by rfl) (rd aa T.agS T.agU (by rfl) ⟨_,rfl,_,rfl,rd hb (by rw[c1];exact T.agI) (by rw[c1];exact T.agQ) (v:=.int g) (by unfold BkD.fs BkD.xs;rw[hk];rfl) (?_)⟩)
     exact⟨_,rfl,k H1 q⟩
   ·rw[ze (λz=>c (V.str.inj z))]
    rw[zI c,zzL]at k;exact k H1 q
noncomputable def vN{α:Type}(P:α->V->Prop):List α->List V->Prop
 |[],[]=>True
 |y::ys,v::vs=>P y v/\vN P ys vs
 |[],_::_=>False
 |_::_,[]=>False
theorem vN.snoc{α:Type}{P:α->V->Prop}:∀{ys:List α}{vs:List V}{y:α}{v:V},vN P ys vs->P y v->vN P (ys++[y]) (vs++[v])
 |[],[],_,_,_,p=>⟨p,trivial⟩
 |_::_,_::_,_,_,h,p=>⟨h.1,vN.snoc h.2 p⟩
 |[],_::_,_,_,h,_=>h.elim
 |_::_,[],_,_,h,_=>h.elim
theorem vN.imp{α:Type}{P R:α->V->Prop}:∀{ys:List α}{vs:List V},vN P ys vs->(∀y v,P y v->R y v)->vN R ys vs
 |[],[],_,_=>trivial
 |_::_,_::_,h,f=>⟨f _ _ h.1,vN.imp h.2 f⟩
 |[],_::_,h,_=>h.elim
 |_::_,[],h,_=>h.elim
theorem vN.len{α:Type}{P:α->V->Prop}:∀{ys:List α}{vs:List V},vN P ys vs->vs.length=ys.length
 |[],[],_=>rfl
 |_::_,_::_,h=>congrArg (·+1) (vN.len h.2)
 |[],_::_,h=>h.elim
 |_::_,[],h=>h.elim
theorem vN.map{α:Type}{f:α->V}:∀{ys:List α}{vs:List V},vN (λy v=>v=f y) ys vs->vs=ys.map f
 |[],[],_=>rfl
 |_::_,_::_,h=>by rw[zl,<-vN.map h.2,h.1]
 |[],_::_,h=>h.elim
 |_::_,[],h=>h.elim
def vN.ints{α:Type}{f:α->Int}{ys:List α}{vs:List V}(h:vN (λy v=>v=.int (f y)) ys vs):vs=(ys.map f).map V.int:=by rw[vN.map h,zx];rfl
def filter_all{α:Type}(l:List α):l.filter (λ_=>true)=l:=zzd.mpr λ_ _=>rfl
def Zn{α:Type}{f:α->V}{ys:List α}{a:Addr}{cap:List (Option Nat)}{g:TG}{tt:TT}{te:TE}{σ:L2.St}{H:Hp}{Q:VK}(Sσ:L2.St->Prop)(ab:α->Bool)(F:Addr->α->V->Hp->Prop)(hS:SqL K H a (ys.map f))(h0:Sσ (pD σ cap))(hz:ys.length<=100000)
  (hs:∀D y,y∈ys->∀(σ:L2.St)(H5:Hp)(R1:L2.St->VK)(R2:L2.St->Hp->Prop),Sσ σ->Same H H5->H D=none->(∃acc,H5 D=some (.lst acc))->(ab y=true->∀v z H6,Sσ z->Same H5 H6->(∀H',But D H6 H'->F D y v H')->R1 z v H6)->(ab y=false->∀z H6,Sσ z->Same H5 H6->R2 z H6)->g (f y) σ H5 λz H4=>tt z H4 λb H5=>if b=true then te z H5 (R1 z)else R2 z H5)
  (k:∀D H' acc,H D=none->Same H H'->H' D=some (.lst acc)->vN (λy v=>F D y v H') (ys.filter ab) acc->Q (.ref D) H'):lu cap (Itl K a) g tt te σ H Q:=by
 intro D hD;have hz':ys.length<=sizeLine:=by rw[zq];omega
 refine⟨λi m acc σ H2=>m=ys.length - i/\i<=ys.length/\Sσ σ/\Same H H2/\acc.length<=i/\vN (λy v=>∀H',But D H2 H'->F D y v H') ((ys.take i).filter ab) acc,⟨ys.length,rfl,zJ _,h0,iM hD,zJ _,trivial⟩,?_⟩;rintro i m acc σ1 H2 ⟨rfl,hi,hσ,sm,ae,hF⟩ hA;by_cases aa:i<ys.length
 ·have hx:(ys.map f)[i]? =some (f ys[i]):=by simp[aa]
  refine .inr ⟨⟨ys.map f,f ys[i],sm.seq hS,hx⟩,λy H3 hy=>?_⟩;obtain rfl:H3=H2:=hy.1;obtain rfl:y=f ys[i]:=zw ((hy.2 _ (sm.seq hS)).symm.trans hx);have htk:ys.take (i+1)=ys.take i++[ys[i]]:=by rw[zN,zh aa];rfl
  refine hs D ys[i] (yD aa) σ1 H3 _ _ hσ sm hD ⟨_,hA⟩ (λhf v z H6 ac s6 ad=>?_) λhf z H6 ac s6=>?_
  ·refine⟨acc,s6 _ _ hA,by omega,ys.length - (i+1),by omega,rfl,aa,ac,(sm.trans s6).upd hD,by rw[zA];show acc.length+1<=_;omega,?_⟩
   rw[htk,ye,yn hf];exact vN.snoc (vN.imp hF λy v h H' hb=>h H' λb o q e=>hb b o q ((iU q).trans (s6 _ _ e))) λH' hb=>ad H' λb o q e=>hb b o q ((iU q).trans e)
  ·refine⟨ys.length - (i+1),by omega,acc,s6 _ _ hA,rfl,aa,ac,sm.trans s6,by omega,?_⟩
   rw[htk,ye,yo (by rw[hf];decide),List.filter_nil,z5];exact vN.imp hF λy v h H' hb=>h H' λb o q e=>hb b o q (s6 _ _ e)
 ·obtain rfl:i=ys.length:=by omega
  rw[z0]at hF;exact .inl ⟨⟨_,sm.seq hS,by rw[za];exact zg _⟩,k D H2 acc hD sm hA (vN.imp hF λy v h=>h H2 λb o _ e=>e)⟩
def Mx{α:Type}{f:α->V}{ys:List α}{a:Addr}{cap:List (Option Nat)}{g:TG}{te:TE}{σ:L2.St}{H:Hp}{Q:VK}(Sσ:L2.St->Prop)(F:Addr->α->V->Hp->Prop)(hS:SqL K H a (ys.map f))(h0:Sσ (pD σ cap))(hz:ys.length<=100000)
  (hs:∀D y,y∈ys->∀(σ:L2.St)(q:Hp)(R:L2.St->VK),Sσ σ->Same H q->H D=none->(∃acc,q D=some (.lst acc))->(∀v z H6,Sσ z->Same q H6->(∀H',But D H6 H'->F D y v H')->R z v H6)->g (f y) σ q λz H4=>te z H4 (R z))
  (k:∀D H' acc,H D=none->Same H H'->H' D=some (.lst acc)->vN (λy v=>F D y v H') ys acc->Q (.ref D) H'):lu cap (Itl K a) g Kr te σ H Q:=
 Zn Sσ (λ_=>true) F hS h0 hz (λD y hy σ5 q R1 R2 hσ sm hD hA k1 k2=>by
  simp only[ap_noIf,if_true];exact hs D y hy σ5 q R1 hσ sm hD hA (k1 rfl)) λD H' acc hD sm hA hF=>k D H' acc hD sm hA (by rw[filter_all]at hF;exact hF)
def BkD.noM(k:BkD)(f:Str)(h:f∉["way", "rows", "last_place", "paid", "brought", "sales_done", "givings_done", "days", "layings"].map Str.ofString):List.lookup f k.fs=none:=by
 simp only[zl,zza,zu,zn,or_false,not_or]at h;obtain⟨h1,h2,h3,h4,z,h6,h7,h8,h9⟩:=h;unfold BkD.fs BkD.xs
 have q:∀{g:String}{v:V}{r:List (Str×V)},f≠Str.ofString g->List.lookup f ((Str.ofString g,v)::r)=List.lookup f r:=fun{g v r} c=>by
  rw[zz1];rw[show(f==Str.ofString g)=false from beq_eq_false_iff_ne.mpr c]
 cases k.x with
 |none=>exact(q h1).trans ((q h2).trans ((q h3).trans ((q h4).trans ((q z).trans ((q h6).trans (q h7))))))
 |some y=>exact(q h1).trans ((q h2).trans ((q h3).trans ((q h4).trans ((q z).trans ((q h6).trans ((q h7).trans ((q h8).trans (q h9))))))))
def uT{H:Hp}{M:List Addr}{a:Addr}{o:HO}(h:vQ H M a=some o):a∉M:=λc=>by
 unfold vQ at h;rw[zo c]at h;cases h
noncomputable def jR.core(s:jR):Int×Int×Str×Int×SP5:=(s.n,s.d,s.w,s.pr,s.ps)
def Hf(sl:List (Addr×jR)):(pZ sl).length=sl.length:=by unfold pZ;rw[za]
def jk.swap{H H':Hp}{b D dx:Addr}{k:BkD}{sl:List (Addr×jR)}(h:jk A H b k)(s:Same H H')(z:H D=none)(hl:H' D=some (.lst (pZ sl)))(hS:∀t∈sl,kI A H' t.1 t.2/\t.2.pl≠D/\t.2.pl∉k.M b):
  Stp (k.M b) ({k with sales:=D,sl:=sl}.M b) H (upd H' b (.ins k.C dx {k with sales:=D}.fs))/\jk A (upd H' b (.ins k.C dx {k with sales:=D}.fs)) b {k with sales:=D,sl:=sl}:=by
 have hM:∀m∈{k with sales:=D,sl:=sl}.M b,m=D\/m∈k.M b:=λm hm=>by
  have hm:m∈[b,k.rows,D,k.givs]++k.xm:=hm;show m=D\/m∈[b,k.rows,k.sales,k.givs]++k.xm;simp only[zK,zu,zn,or_false]at hm⊢;rcases hm with(c|c|c|c)|c
  ·exact .inr (.inl (.inl c))
  ·exact .inr (.inl (.inr (.inl c)))
  ·exact .inl c
  ·exact .inr (.inl (.inr (.inr (.inr c))))
  ·exact .inr (.inr c)
 have aa:D≠b:=λe=>by obtain⟨dy,hb⟩:=h.i;rw[<-e,z]at hb;cases hb
 have st:Stp (k.M b) ({k with sales:=D,sl:=sl}.M b) H (upd H' b (.ins k.C dx {k with sales:=D}.fs)):=⟨λa o n e=>(iU λc:a=b=>n (c▸BkD.mb)).trans (s _ _ e),λm hm=>(hM m hm).elim (λe=> .inr (e▸z)) .inl⟩;have n:∀{a:Addr}{o:HO},H a=some o->(∀C dx fs,o≠.ins C dx fs)->(upd H' b (.ins k.C dx {k with sales:=D}.fs)) a=some o:=λe f=>(iU (h.neb e f)).trans (s _ _ e);have hB':=h.same s;have F:=h.z.same st.same;have g:∀{a:Addr}{o:HO},H' a=some o->a≠D->a∉k.M b->vQ (upd H' b (.ins k.C dx {k with sales:=D}.fs)) ({k with sales:=D,sl:=sl}.M b) a=some o:=fun{a o} e c1 q=>sH ((iU λc:a=b=>q (c▸BkD.mb)).trans e) λc=>(hM _ c).elim c1 q;refine⟨st,h.c,⟨dx,iH⟩,n h.r λ_ _ _ c=>(by cases c),(iU aa).trans hl,n h.g λ_ _ _ c=>(by cases c),λy e=>?_,λc=>?_,⟨F.l,F.p,λt ht=>?_,F.g⟩⟩
 ·obtain⟨a,t⟩:=h.y y e
  exact⟨n a λ_ _ _ c=>(by cases c),fun(c:y.2.1=D)=>(by rw[c,z]at a;cases a),t.2⟩
 ·have:=h.g
  rw[<-show D=k.givs from c,z]at this;cases this
 ·obtain⟨⟨⟨dy,hi⟩,hp,hT,ab⟩,c1,q⟩:=hS t ht
  refine⟨⟨dy,g hi (λc=>by rw[c,hl]at hi;cases hi) (uT (hB'.ins hi))⟩,g hp c1 q,λr hr=>g (hT r hr) (λc=>?_) (uT (hB'.tup (hT r hr))),ab⟩;have:=hT r hr;rw[c,hl]at this;cases this
def jk.lay{H:Hp}{b la:Addr}{k:BkD}{g:Int}{zs ws:List V}(h:jk A H b k)(q:k.x=some (g,la,zs)):Stp (k.M b) ({k with x:=some (g,la,ws)}.M b) H (upd H la (.lst ws))/\jk A (upd H la (.lst ws)) b {k with x:=some (g,la,ws)}:=by
 have hM:{k with x:=some (g,la,ws)}.M b=k.M b:=by unfold BkD.M BkD.xm;rw[q]
 have hm:la∈k.M b:=by unfold BkD.M BkD.xm;rw[q];exact zF _ zj
 obtain⟨y1,z,y3⟩:=h.y _ q;have hs:=pK (H:=H) (o:=.lst ws) hm;have F:=h.z.same hs.same;have n:∀{a:Addr}{o:HO},H a=some o->a≠la->(upd H la (.lst ws)) a=some o:=λe f=>(iU f).trans e;refine⟨by rw[hM];exact hs,h.c.imp (λc=>by rw[q]at c;cases c.2) λc=>⟨c.1,λc=>by cases c⟩,?_,n h.r λc=>?_,n h.s (Ne.symm z),n h.g (Ne.symm y3),λy e=>?_,h.d,?_⟩
 ·obtain⟨dx,e⟩:=h.i
  refine⟨dx,(n e λc=>by rw[c,y1]at e;cases e).trans ?_⟩;unfold BkD.fs BkD.xs;rw[q]
 ·have:=h.r
  rw[c,y1]at this;cases this
 ·cases e
  exact⟨iH,z,y3⟩
 ·rw[hM]
  exact⟨F.l,F.p,F.s,F.g⟩
noncomputable def BkD.ll(k:BkD):Nat:=match k.x with
 |none=>0
 |some y=>y.2.2.length
inductive Vo(A:Adr)(C:Addr)(z:Bool)(vs:List V)(H:Hp)(Q:VK)(E:XK):Prop
 |mk (b x:Addr) (k:BkD) (d n p r f:Int) (w:Str) (_:vs=[.ref b,.ref x]) (_:k.C=C) (_:(z=true->k.x≠none)) (_:jk A H b k) (_:IsE A H x (.buy d n w p r f)) (_:k.sl.length<=100) (_:k.ll<=10000) (_:∀sa sl x' i H',Stp (k.M b) ({k with sales:=sa,sl:=sl,x:=x'}.M b) H H'->jk A H' b {k with sales:=sa,sl:=sl,x:=x'}->sl.map (λt=>t.2.core)=k.sl.map (λt=>t.2.core)->{k with sales:=sa,sl:=sl,x:=x'}.ll<=k.ll+100->Q (.int i) H'):Vo A C z vs H Q E
def KH(T:Txt K mg A D):jQ P w K mg base CX0 1 A.abB D.abB ["self", "entry"] (Vo A A.ac2 false):=by
 refine T.adI.okv KC λ_ _ _ _ H vs Q E hr h=>?_
 ·obtain⟨b,x,q,d,n,p,r,f,w,rfl,hC,hz,z,hx,hl,aa,k⟩:=h
  refine⟨_,(iG (iY iJ)),?_⟩;walk_at "a";exact k q.sales q.sl q.x 0 H (pB (same_refl _)) z rfl (yy _ _)
def kI.but{H H':Hp}{D x:Addr}{s:jR}{xs:List V}(h:kI A H x s)(q:H D=some (.lst xs))(hp:s.pl≠D)(b:But D H H'):kI A H' x s:=by
 obtain⟨dx,hi⟩:=h.i;refine⟨⟨dx,b _ _ (λe=>by rw[e,q]at hi;cases hi) hi⟩,b _ _ hp h.p,λr z=>?_,h.l⟩;have h1:=h.t r z;exact b _ _ (λe=>by rw[e,q]at h1;cases h1) h1
theorem akO{H:Hp}{R:jR->jR->Prop}:∀{sl:List (Addr×jR)}{acc:List V},vN (λt v=>∃y s,v=.ref y/\kI A H y s/\R t.2 s/\s.core=t.2.core) sl acc->∃q:List (Addr×jR),acc=pZ q/\q.map (λt=>t.2.core)=sl.map (λt=>t.2.core)/\∀t∈q,kI A H t.1 t.2/\∃u∈sl,R u.2 t.2
 |[],[],_=>⟨[],rfl,rfl,λt h=>(zn h).elim⟩
 |t::sl,v::acc,h=>by
  obtain⟨⟨y,s,rfl,hs,hr,hc⟩,h2⟩:=h;obtain⟨q,e1,e2,e3⟩:=akO h2;refine⟨(y,s)::q,by rw[e1];rfl,by rw[zl,e2,hc];rfl,λu z=>?_⟩;rcases zu.mp z with rfl|z
  ·exact⟨hs,t,zj,hr⟩
  ·obtain⟨g1,v,g2,g3⟩:=e3 u z
   exact⟨g1,v,zp _ g2,g3⟩
 |[],_::_,h=>h.elim
 |_::_,[],h=>h.elim
def VJ(k:BkD)(a:Addr):DP (Str.ofString "sales_done") (.ref a) k.fs={k with sales:=a}.fs:=by cases k;rfl
def Ad(T:Txt K mg A D):jQ P w K mg base CX0 5 A.abI D.abI ["self", "entry"] (Vo A A.ac4 true):=by
 refine T.adP.okv pU λ_ _ _ _ H vs Q E hr h=>?_
 ·obtain⟨b,x,kb,d,n,p,r,f,w,rfl,ai,hz,hB,hx,hl,ap,k⟩:=h
  obtain⟨⟨g,la,zs⟩,hk⟩:=Option.ne_none_iff_exists'.mp (hz rfl)
  refine ⟨_,(iB (oO (i:=2) pU.nd rfl rfl (cap:=[none,some 0,some 1]) (N':=["sale", "self", "entry"]) rfl (by walk_at "c") (kJ (K:=K) (fv K 0)) (λ_ _ _ _=>(iW (i:=0) (show(["sale", "self", "entry"]:List Str).Nodup from by decide+kernel) rfl orl orr)) (λ_ _ _ _=>(BL (nD (jE (pv 1) (mc T.agI T.ahj (oG T) hr (pF T) .nil) jL (pav 2 (pav 0 iD)))))) (λ_ _ _ _=>(pvD 0)))
   (iB (jo (qx (K:=K) zH zzg zzh Hg (fv K 0) (iz (jO (cap:=[none,some 1]) (N':=["sale", "entry"]) rfl (by walk_at "c") (jW (K:=K) (pv 2)) (λ_ _ _ _=>(iW (i:=0) (show(["sale", "entry"]:List Str).Nodup from by decide+kernel) rfl orl orr)) (λ_ _ _ _=>jP) (λ_ _ _ _=>(lY (iz (fv K 0) (iz (fv K 1) (iz (ajj YJ (lU (pv 0) (mc T.agS T.ahi (pA T) hr (qw T) .nil) jL)) iD)))))) iD)))
   (iB (jA (K:=K) (pv 0) (jO (cap:=[none,some 0,some 1]) (N':=["sale", "self", "entry"]) rfl (by walk_at "c") (kJ (K:=K) (fv K 0)) (λ_ _ _ _=>(iW (i:=0) (show(["sale", "self", "entry"]:List Str).Nodup from by decide+kernel) rfl orl orr)) (λ_ _ _ _=>jP) (λ_ _ _ _=>(uR (nD (jE (pv 1) (mc T.agI T.ahj (oG T) hr (pF T) .nil) jL (pav 2 (pav 0 iD)))) (pcg (HS T) hr T.adO (Le T) (pav 0 (iz (fv K 2) iD))) (pvD 0)))) rfl)
   (iG (iY (jt (mO (K:=K) rfl) (by rfl) T.ae8 (by decide+kernel) (iz (jO (cap:=[none]) (N':=["sale"]) rfl (by walk_at "c") (jW (K:=K) (pv 2)) (λ_ _ _ _=>(iW (i:=0) nd1 rfl orl orr)) (λ_ _ _ _=>jP) (λ_ _ _ _=>(ajj YJ (lU (pv 0) (mc T.agS T.ahi (pA T) hr (qw T) .nil) jL)))) iD))))))),?_⟩
  obtain⟨db,hb⟩:=hB.i;have hC:=Du T hB;have bx:zs.length<=10000:=by unfold BkD.ll at ap;rw[hk]at ap;exact ap
  simp only[start_eq];walk_at "m";refine rd hb hC.c hC.s (by rfl) ⟨kb.sales,rfl,⟨_,iQ hB.s⟩,?_⟩;refine Zn (f:=λt:Addr×jR=>V.ref t.1) (λσ=>∃a,σ=[a,some (.ref b),some (.ref x)]) (λt=>aic t.2 w d g) (λ_ t v _=>v=.ref t.1) (iQ hB.s) ⟨_,rfl⟩ (by omega) ?_ ?_
  ·rintro Da t ht σ H5 R1 R2 ⟨_,rfl⟩ sm hD hA k1 k2
   walk_at "i";obtain⟨an,ar⟩:=(hB.same sm).i;refine⟨_,an,_,ar,lA A,by rw[ai];exact zj,BkD.noM _ _ (by decide+kernel),b,x,t.1,kb,g,la,zs,t.2,d,n,p,r,f,w,rfl,hB.same sm,hk,hx.same sm,(hB.frz.s t ht).same sm,λH6 s6=>⟨_,rfl,?_⟩⟩
   cases e:aic t.2 w d g with
   |true=>rw[zo rfl];exact k1 e _ _ H6 ⟨_,rfl⟩ s6 λ_ _=>rfl
   |false=>rw[ze (by decide)];exact k2 e _ H6 ⟨_,rfl⟩ s6
  ·intro D1 H1 bq ay s1 ae bg
   rw[vN.map bg]at ae;have av:(kb.sl.filter λt=>aic t.2 w d g).length<=kb.sl.length:=yk _ _;have ah:∀t∈kb.sl.filter λt=>aic t.2 w d g,t∈kb.sl:=λt h=>(yB.mp h).1;generalize(kb.sl.filter λt=>aic t.2 w d g)=tk at ae av ah;have ao:=hB.same s1;obtain⟨bu,bp⟩:=ao.i;walk_at "m";refine rd bp (by rw[ai];exact T.agI) (by rw[ai];exact T.agR) (v:=.ref la) (by unfold BkD.fs BkD.xs;rw[hk];rfl) ⟨tyL (iQ (ao.y _ hk).1),⟨_,iQ ae⟩,?_⟩;refine Mx (f:=λt:Addr×jR=>V.ref t.1) (λσ=>∃a,σ=[a,some (.ref x)]) (λ_ _ _ _=>True) (iQ ae) ⟨_,rfl⟩ (by omega) ?_ ?_
   ·rintro Da t ht σ H5 R ⟨_,rfl⟩ sm hD hA kk
    have ab:=((hB.frz.s t (ah t ht)).same s1).same sm;obtain⟨dt,hi⟩:=ab.i;obtain⟨dx,nv,al,_⟩:=(hx.same s1).same sm;walk_at "i";exact rd hi T.agS T.agT (by rfl) (rd al T.afQ T.afT (by rfl) (md hi zj (by rfl) ⟨t.1,t.2,rfl,ab,λH6 s6=>⟨_,rfl,sz,λp hp=>kk _ _ _ ⟨_,rfl⟩ (s6.trans (iM hp)) λ_ _=>trivial⟩⟩))
   ·intro D2 H2 q bv s2 bn bf
    have bw:=vN.len bf;have aq:=ao.same s2;refine⟨la,D2,zs,q,rfl,rfl,(aq.y _ hk).1,bn,by rw[zq];omega,?_⟩;obtain⟨o3,aa⟩:=aq.lay hk (ws:=zs++q);have S2:=s1.trans s2;have ak:(upd H2 la (.lst (zs++q))) D1=some (.lst (tk.map λt=>V.ref t.1)):=o3.k D1 _ (hB.fresh ay) (s2 _ _ ae);have bb:IsE A (upd H2 la (.lst (zs++q))) x (.buy d n w p r f):=let⟨dx,nv,e,c⟩:=hx.same S2;⟨dx,nv,o3.k x _ (uT (aq.day e)) e,c⟩
    generalize upd H2 la (.lst (zs++q))=H3 at o3 aa ak bb;obtain⟨k3,ac⟩:∃k3,k3={kb with x:=some (g,la,zs++q)}:=⟨_,rfl⟩;have be:k3.C=A.ac4:=by rw[ac];exact ai
    have bl:k3.x=some (g,la,zs++q):=by rw[ac]
    have ba:k3.sl=kb.sl:=by rw[ac]
    have az:∀{sa sl},{kb with sales:=sa,sl:=sl,x:=some (g,la,zs++q)}={k3 with sales:=sa,sl:=sl}:=by rw[ac];exact rfl
    rw[<-ac]at o3 aa;clear ac;rw[<-ba]at hl av ah k;obtain⟨bz,bh⟩:=aa.i;have ag:=Du T aa;walk_at "m";refine rd bh ag.c ag.s (by rfl) ⟨k3.sales,rfl,⟨_,iQ aa.s⟩,?_⟩;refine Mx (f:=λt:Addr×jR=>V.ref t.1) (λσ=>∃a,σ=[a,some (.ref b),some (.ref x)]) (λDa t v H'=>∃y s,v=.ref y/\kI A H' y s/\(s.pl≠Da/\s.pl∉k3.M b)/\s.core=t.2.core) (iQ aa.s) ⟨_,rfl⟩ (by omega) ?_ ?_
    ·rintro Da t ht σ H5 R ⟨_,rfl⟩ sm hD ⟨acc,hA⟩ kk
     have ad:=aa.same sm;obtain⟨an,ar⟩:=ad.i;have as:=aa.frz.s t ht;have ab:=as.same sm;have aw:=bb.same sm;walk_at "i";refine⟨_,an,_,ar,lA A,by rw[be];exact zj,BkD.noM _ _ (by decide+kernel),b,x,t.1,k3,g,la,_,t.2,d,n,p,r,f,w,rfl,ad,bl,aw,ab,λH6 s6=>⟨_,rfl,?_⟩⟩
     cases e:aic t.2 w d g with
     |true=>
      rw[zo rfl];obtain⟨dx,nv,al,_⟩:=aw.same s6
      exact ⟨_,dx,_,al,T.afQ,T.afT,_,by rfl,t.1,t.2,n,rfl,ab.same s6,λy pl H7 s7 hy am bd=>kk (.ref y) _ H7 ⟨_,rfl⟩ (s6.trans s7) λH' hb=>
       have af:pl≠Da:=λc=>by rw[c,s6 _ _ hA]at am;cases am
       ⟨y,_,rfl,bd.but (s7 _ _ (s6 _ _ hA)) af hb,⟨af,(ad.same s6).fresh am⟩,rfl⟩⟩
     |false=>
      rw[ze (by decide)];have af:t.2.pl≠Da:=λc=>by have:=as.p;rw[c,hD]at this;cases this
      exact kk (.ref t.1) _ H6 ⟨_,rfl⟩ s6 λH' hb=>⟨t.1,t.2,rfl,(ab.same s6).but (s6 _ _ hA) af hb,⟨af,uT (aa.z.s t ht).p⟩,rfl⟩
    ·intro D4 H4 br bo s4 au bj
     obtain⟨bc,e1,e2,e3⟩:=akO (R:=λ_ s=>s.pl≠D4/\s.pl∉k3.M b) bj;rw[e1]at au;obtain⟨bi,bk⟩:=(aa.same s4).i;refine sw bk ag.c ag.s (Uw _) (?_);rw[VJ];obtain⟨o5,ad⟩:=aa.swap s4 bo au (dx:=bi) λt ht=>let⟨g1,_,_,g2⟩:=e3 t ht;⟨g1,g2⟩
     generalize upd H4 b _=H5 at o5 ad;have o:=(pB S2).trans (o3.trans o5);have aj:=o5.k D1 _ (λc=>(o3.f D1 c).elim (hB.fresh ay) λz=>by rw[s2 _ _ ae]at z;cases z) ak;have ab:∀t∈tk,kI A H5 t.1 t.2:=λt ht=>(hB.z.s t (ba▸ah t ht)).same λa u h=>ud _ _ (o.same _ _ h);refine⟨⟨_,iQ aj⟩,?_⟩;refine Mx (f:=λt:Addr×jR=>V.ref t.1) (λσ=>∃a,σ=[a]) (λ_ t v _=>v=.int (-(t.2.pr - t.2.co))) (iQ aj) ⟨_,rfl⟩ (by omega) ?_ ?_
     ·rintro Da t ht σ H6 R ⟨_,rfl⟩ sm hD hA kk
      obtain⟨dt,hi⟩:=((ab t ht).same sm).i;walk_at "i";exact md hi zj (by rfl) ⟨t.1,t.2,rfl,(ab t ht).same sm,λH7 s7=>⟨_,rfl,kk _ _ _ ⟨_,rfl⟩ s7 λ_ _=>rfl⟩⟩
     ·intro D6 H6 bs bt s6 ax bm
      rw[vN.ints bm]at ax;walk_at "a";refine⟨_,iQ ax,k D4 bc (some (g,la,zs++q)) _ H6 ?_ ?_ e2 ?_⟩
      ·rw[az];exact o.trans (pB s6)
      ·rw[az];exact ad.same s6
      ·unfold BkD.ll
       rw[hk];show(zs++q).length<=zs.length+100;rw[zA];omega
def xV(K:Fg_)(C:Addr):kitOne K (.ref C) (.ref C)=some true:=zo (by simp)
def ajU(T:Txt K mg A D){H:Hp}{x:Addr}{e:Ent}(h:IsE A H x e):Kd K H (.ref x) (.ref (e.cls A)):=by
 obtain⟨dx,z,q,_⟩:=h
 cases e with
 |buy=>exact T.afR.of q
 |sell=>exact T.af0.of q
 |gift=>exact T.aga.of q
 |give=>exact T.agi.of q
 |split=>exact T.agp.of q
 |part=>exact T.afJ.of q
def amr(T:Txt K mg A D)(e:Ent):kitOne K (.ref (e.cls A)) (.ref A.acX)=some (Bc e)/\kitOne K (.ref (e.cls A)) (.ref A.acY)=some (rP e)/\kitOne K (.ref (e.cls A)) (.ref A.acZ)=some (sJ e)/\
  kitOne K (.ref (e.cls A)) (.ref A.ac0)=some (sO e)/\kitOne K (.ref (e.cls A)) (.ref A.ac1)=some (oZ e)/\kitOne K (.ref (e.cls A)) (.ref A.acW)=some (sZ e):=by
 cases e with
 |buy=>obtain⟨a,b,c,d,f⟩:=T.ah5;exact⟨xV _ _,a,b,c,d,f⟩
 |sell=>obtain⟨a,b,c,d,f⟩:=T.ah6;exact⟨a,xV _ _,b,c,d,f⟩
 |gift=>obtain⟨a,b,c,d,f⟩:=T.ah7;exact⟨a,b,xV _ _,c,d,f⟩
 |give=>obtain⟨a,b,c,d,f⟩:=T.ah8;exact⟨a,b,c,xV _ _,d,f⟩
 |split=>obtain⟨a,b,c,d,f⟩:=T.ah9;exact⟨a,b,c,d,xV _ _,f⟩
 |part=>obtain⟨a,b,c,d,f⟩:=T.aia;exact⟨a,b,c,d,f,xV _ _⟩
noncomputable def Ent.oth:Ent->Str
 |.part _ _ _ u _ _=>u
 |e=>e.ware
noncomputable def mK:List Str:=["tin", "ore", "abcdefgh"]
noncomputable def aiX(c:Str->Int):Ent->Str->Int
 |.buy _ _ w p _ _,z=>if z=w then c w+p else c z
 |.gift _ _ w p _ _,z=>if z=w then c w+p else c z
 |.sell _ _ w p _ _ _,z=>if z=w then c w - p else c z
 |.give _ _ w p _,z=>if z=w then c w - p else c z
 |.split _ _ w m f,z=>if z=w then c w*m/f else c z
 |.part _ _ w u _ _,z=>if z=u then c u+c w else c z
noncomputable def ajq(c:Str->Int):Ent->Prop
 |.sell _ _ w p _ _ _=>p<=c w
 |.give _ _ w p _=>p<=c w
 |.split _ _ w m f=>c w=0\/1<=c w*m/f
 |_=>True
noncomputable def runC(es:List Ent):Str->Int:=es.foldl aiX λ_=>0
def Dj(es:List Ent)(e:Ent):runC (es++[e])=aiX (runC es) e:=by unfold runC;rw[List.foldl_append];rfl
structure Zg(es:List Ent):Prop where
 g:∀e∈es,e.good/\e.lots=none/\e.ware∈mK/\e.oth∈mK
 f:∀(i:Nat) e,es[i]? =some e->ajq (runC (es.take i)) e
 m:∀(i:Nat) z,runC (es.take i) z<=1000000000
def Zg.nil:Zg []:=⟨λe h=>(zn h).elim,λi e h=>by simp at h,λi z=>by rw[List.take_nil];show(0:Int)<=_;decide⟩
def Zg.snoc{es:List Ent}{e:Ent}(h:Zg es)(hg:e.good/\e.lots=none/\e.ware∈mK/\e.oth∈mK)(hf:ajq (runC es) e)(hm:∀z,aiX (runC es) e z<=1000000000):Zg (es++[e]):=by
 refine⟨λd hd=>?_,λi d hi=>?_,λi z=>?_⟩
 ·rcases zK.mp hd with hd|hd
  ·exact h.g d hd
  ·rw[zC.mp hd];exact hg
 ·by_cases c:i<es.length
  ·rw[z9 c]at hi
   rw[yN (by omega)];exact h.f i d hi
  ·rw[z7 (by omega)]at hi
   have q:i - es.length=0:=by
    have:=(zk.mp hi).1;simp at this;omega
   rw[q]at hi;cases hi;rw[show i=es.length by omega,yN (zg _),z0];exact hf
 ·by_cases c:i<=es.length
  ·rw[yN c]
   exact h.m i z
  ·rw[zT (by rw[zA];show es.length+1<=i;omega),Dj]
   exact hm z
noncomputable def YH(H:Hp)(tl:EL):Prop:=∀r∈tl,aii H r.1 r.2
theorem YH.same{H H':Hp}{tl:EL}(h:YH H tl)(s:Same H H'):YH H' tl:=λr q=>(h r q).same s
def jk.lm{H:Hp}{b:Addr}{k:BkD}(h:jk A H b k):∃z,(k.C,Vo A k.C z)∈[(A.ac2,Vo A A.ac2 false),(A.ac4,Vo A A.ac4 true)]/\(z=true->k.x≠none):=by
 rcases h.c with⟨e,_⟩|⟨e,c⟩
 ·exact⟨false,by rw[e];exact zj,λz=>by cases z⟩
 ·exact⟨true,by rw[e];exact zp _ zj,λ_=>c⟩
inductive Aq(A:Adr)(vs:List V)(H:Hp)(Q:VK)(E:XK):Prop
 |mk (b x:Addr) (k:BkD) (ns:List Int) (W:List Str) (d n p r f:Int) (w:Str) (_:vs=[.ref b,.ref x]) (_:jk A H b k) (_:IsE A H x (.buy d n w p r f)) (_:1<=p) (_:n∈ns) (_:Mq ns W k.rs) (_:W.length<=50) (_:ns.length<=58) (_:k.sl.length<=100) (_:k.ll<=10000) (_:∀sa sl x' q ms H',Stp (k.M b) ({k with sales:=sa,sl:=sl,x:=x'}.M b) H H'->jk A H' b {k with sales:=sa,sl:=sl,x:=x',rs:=keepR k.rs w q ms,paid:=k.paid+(p*r+f)}->sl.map (λt=>t.2.core)=k.sl.map (λt=>t.2.core)->{k with sales:=sa,sl:=sl,x:=x'}.ll<=k.ll+100->Shp ns ms->pcs ms=pcs (rowOf k.rs w)+p->Q .non H'):Aq A vs H Q E
def Af(T:Txt K mg A D):jQ P w K mg base CX0 6 A.abJ D.abJ ["self", "entry"] (Aq A):=by
 refine T.adQ.okv Ai λ_ _ _ _ H vs Q E hr h=>?_
 ·obtain⟨b,x,kb,ns,W,d,n,p,r,f,w,rfl,hB,hE,hp,hn,hO,hW,hN,aj,an,k⟩:=h
  have ak:=hE;obtain⟨dx,nv,hx,_⟩:=ak
  refine ⟨_,(iB (ji (i:=2) Ai.nd rfl orl (ju kE (fv K 1) (jE (pv 0) (mc T.agv T.ahm (KH T) hr (Nq T) (mc T.agI T.ahn (Ad T) hr (Bx T) .nil)) jL (pav 1 iD))))
   (iB (jo (jE (pv 0) (mc T.agv T.ahk (oK T) hr (qj T) (mc T.agI T.ahl (oK T) hr (qj T) .nil)) jL (iz (fv K 1) (iz (kW (iz (lR T.ag5 (jT (K:=K) T) (hr.mono (by decide)) (by rfl) T.afs (jY T) .nil jL (iz (fv K 1) (iz (fv K 1) (iz (fv K 1) (pav 2 iD))))) iD)) iD))))
   (iG (jA (K:=K) (pv 0) (ju kE (fv K 0) (fv K 1)) rfl)))),?_⟩
  obtain⟨db,hb⟩:=hB.i;have hz:=hO.len;obtain⟨z,hm,ai⟩:=hB.lm;simp only[start_eq];walk_at "m";refine rd hx T.afQ T.afY (by rfl) (md hb hm (kb.noM _ (by decide+kernel)) ⟨b,x,kb,d,n,p,r,f,w,rfl,rfl,ai,hB,hE,aj,an,λsa sl x' i H1 o1 ad e1 e2=>?_⟩);refine⟨_,rfl,_,rfl,?_⟩;have aa:=o1.k x _ (uT (hB.day hx)) hx;obtain⟨aq,ao⟩:=ad.i;walk_at "m";refine md ao ad.me (BkD.noM _ _ (by decide+kernel)) (rd aa T.afQ T.afU (by rfl) (rd aa T.afQ T.afT (by rfl) (rd aa T.afQ T.afS (by rfl) (rd aa T.afQ T.afV (by rfl) (λy dy hy am _=>?_)))));refine qb (A:=A) ⟨n,d,p,_⟩ hy am λH2 s1 hL=>⟨sz,λq hq=>?_⟩;have s2:=s1.trans (iM (o:=.lst [.ref y]) hq);have ah:(upd H2 q (.lst [.ref y])) q=some (.lst (jB [(y,⟨n,d,p,p*r+f+i⟩)])):=iH;have af:=hL.same (iM (o:=.lst [.ref y]) hq);generalize upd H2 q (HO.lst [.ref y])=H3 at s2 ah af⊢;have ae:=ad.same s2;refine⟨b,q,w,_,[(y,⟨n,d,p,p*r+f+i⟩)],ns,rfl,ae,ah,amj af,λl hl=>by rw[zC.mp hl];exact⟨hp,hn⟩,hO.row w,hN,(show kb.rs.length<=50 by omega),λq' ms H4 o4 ab g1 g2=>?_⟩;have ap:=o4.k x _ (uT (ae.day (s2 _ _ aa))) (s2 _ _ aa);obtain⟨al,ag⟩:=ab.i;have ac:=Du T ab
  try dsimp only
  refine rd ag ac.c ac.p (by rfl) (rd ap T.afQ T.afY (by rfl) ⟨_,rfl,_,rfl,_,al,_,ag,ac.c,ac.p,Uw _,?_⟩);rw[XQ];exact k sa sl x' q' ms _ (o1.trans ((pB s2).trans (o4.trans (pK BkD.mb)))) (ab.put (la:=kb.last) (pa:=kb.paid+(p*r+f)) (br:=kb.brought) ab.z.p) e1 e2 g1 (by rw[g2];unfold pcs;simp)
structure StB(ns:List Int)(es:List Ent)(k:BkD):Prop where
 r:Mq ns mK k.rs
 c:∀z,pcs (rowOf k.rs z)=runC es z
 n:(k.sl.map λt=>t.2.core.1).Sublist (es.map Ent.num)
 p:∀c∈k.sl.map (λt=>t.2.core),(c.2.2.2.2.map λr=>r.2.2).sum=c.2.2.2.1
 g:∀t∈k.gv,t.2.2.2.length<=58
 v:k.gv.length<=es.length
 l:k.ll<=100*es.length
theorem StB.sl{ns:List Int}{es:List Ent}{k:BkD}(h:StB ns es k):k.sl.length<=es.length:=by have:=h.n.length_le;rwa [za,za]at this
structure Can(A:Adr)(H:Hp)(ns:List Int)(es:List Ent)(k:BkD)(e:Ent):Prop where
 s:StB ns es k
 l:es.length<=56
 nl:ns.length<=58
 g:e.good/\e.lots=none/\e.ware∈mK/\e.oth∈mK
 n:e.num∈ns
 f:ajq (runC es) e
 m:∀z,runC es z<=1000000000
 w:∃Cw dw,H k.way=some (.ins Cw dw [])/\TY A Cw
def YM(k:BkD):(k.sl.map λt=>t.2.core.1)=(k.sl.map λt=>t.2.core).map (·.1):=by rw[zx];rfl
def StB.next{ns:List Int}{es:List Ent}{k q:BkD}{e:Ent}(h:StB ns es k)(hr:Mq ns mK q.rs)(hc:∀z,pcs (rowOf q.rs z)=aiX (λz=>pcs (rowOf k.rs z)) e z)(hs:q.sl.map (λt=>t.2.core)=k.sl.map (λt=>t.2.core))(hg:∀t∈q.gv,t.2.2.2.length<=58)(hv:q.gv.length<=k.gv.length+1)(hl:q.ll<=k.ll+100):StB ns (es++[e]) q:=by
 refine⟨hr,λz=>?_,?_,?_,hg,?_,?_⟩
 ·rw[hc,Dj,show(λz=>pcs (rowOf k.rs z))=runC es from funext h.c]
 ·rw[YM,hs,<-YM,zv]
  exact h.n.trans (zzf _ _)
 ·rw[hs];exact h.p
 ·have:=h.v;rw[zA];show _<=es.length+1;omega
 ·have:=h.l;rw[zA];show _<=100*(es.length+1);omega
inductive rC(A:Adr)(vs:List V)(H:Hp)(Q:VK)(E:XK):Prop
 |mk (b x:Addr) (k:BkD) (e:Ent) (es:List Ent) (ns:List Int) (_:vs=[.ref b,.ref x]) (_:jk A H b k) (_:IsE A H x e) (_:Can A H ns es k e) (_:∀k' H',jk A H' b k'->Stp (k.M b) (k'.M b) H H'->StB ns (es++[e]) k'->k'.C=k.C->k'.way=k.way->Q .non H'):rC A vs H Q E
def rn(T:Txt K mg A D):jQ P w K mg base CX0 8 A.ab9 D.ab9 ["self", "entry"] (rC A):=by
 refine T.aeg.okv Di λ_ _ _ _ H vs Q E hr h=>?_
 ·obtain⟨b,x,kb,e,es,ns,rfl,hB,hE,hC,k⟩:=h
  obtain⟨db,hb⟩:=hB.i;refine⟨_,(iG (jX (nD (jt (uc (K:=K)) (by rfl) T.aeY (by decide+kernel) (pav 1 (iz (lZ (v:=V.ref A.acX) (by rfl) T.afm rfl) iD)))) (iG (jo (jE (pv 0) (mc T.agv T.ahA (Af T) hr (Df T) (mc T.agI T.ahB (Af T) hr (Df T) .nil)) jL (pav 1 iD)))) (iG (jX (nD (jt (uc (K:=K)) (by rfl) T.aeY (by decide+kernel) (pav 1 (iz (lZ (v:=V.ref A.acZ) (by rfl) T.afo rfl) iD)))) (iG (jo (jE (pv 0) (mc T.agv T.ahC (wu T) hr (Am T) (mc T.agI T.ahD (wu T) hr (Am T) .nil)) jL (pav 1 iD)))) (iG (jX (nD (jt (uc (K:=K)) (by rfl) T.aeY (by decide+kernel) (pav 1 (iz (lZ (v:=V.ref A.acY) (by rfl) T.afn rfl) iD)))) (iG (jo (jE (pv 0) (mc T.agv T.ahE (wZ T) hr (Aj T) (mc T.agI T.ahF (wZ T) hr (Aj T) .nil)) jL (pav 1 iD)))) (iG (jX (nD (jt (uc (K:=K)) (by rfl) T.aeY (by decide+kernel) (pav 1 (iz (lZ (v:=V.ref A.ac0) (by rfl) T.afp rfl) iD)))) (iG (jo (jE (pv 0) (mc T.agv T.ahG (wD T) hr (Ao T) (mc T.agI T.ahH (wD T) hr (Ao T) .nil)) jL (pav 1 iD)))) (iG (jX (nD (jt (uc (K:=K)) (by rfl) T.aeY (by decide+kernel) (pav 1 (iz (lZ (v:=V.ref A.ac1) (by rfl) T.afq rfl) iD)))) (iG (jo (jE (pv 0) (mc T.agv T.ahI (uZ T) hr (wY T) (mc T.agI T.ahJ (uZ T) hr (wY T) .nil)) jL (pav 1 iD)))) (iG (jX (nD (jt (uc (K:=K)) (by rfl) T.aeY (by decide+kernel) (pav 1 (iz (lZ (v:=V.ref A.acW) (by rfl) T.afl rfl) iD)))) (iG (jo (jE (pv 0) (mc T.agv T.ahK (qY T) hr (uv T) (mc T.agI T.ahL (qY T) hr (uv T) .nil)) jL (pav 1 iD)))) jx)))))))))))),?_⟩;have ty:=ajU T hE;obtain⟨k1,k2,k3,k4,k5,k6⟩:=amr T e;obtain⟨hg,ho,hw,hu⟩:=hC.g;have hS:=hC.s;have hl:=hC.l;have af:=hS.sl;have ag:=hS.l;have ae:=hS.v;have w3:mK.length<=50:=by decide
  have hf:=hC.f;have hm:=hC.m;rw[<-show(λz=>pcs (rowOf kb.rs z))=runC es from funext hS.c]at hf hm;have nf:∀f:Str,f∉["way", "rows", "last_place", "paid", "brought", "sales_done", "givings_done", "days", "layings"].map Str.ofString->List.lookup f kb.fs=none:=λf=>kb.noM f
  have ab:∀{rs:RW}{z:Str}{q:Addr}{ms:RL}{y:Str},rs=keepR kb.rs z q ms->pcs (rowOf rs y)=if y=z then pcs ms else pcs (rowOf kb.rs y):=fun{rs z q ms y} e=>by
   rw[e,xQ];split<;>rfl
  simp only[start_eq]
  cases e with
  |buy d n w p r f=>
   dsimp only[Bc,rP,sJ,sO,oZ,sZ]at k1 k2 k3 k4 k5 k6;refine sc1 rfl ty k1 ?_;walk_at "i";refine md hb hB.me (nf _ (by decide+kernel)) ⟨b,x,kb,ns,mK,d,n,p,r,f,w,rfl,hB,hE,hg.2.1.1,hC.n,hS.r,w3,hC.nl,by omega,by omega,λsa sl x' q ms H' o aa e1 e2 e3 e4=>k _ H' aa o (hS.next (hS.r.keep hw e3) (λz=>?_) e1 hS.g (ym _) e2) rfl rfl⟩;rw[ab rfl,e4];rfl
  |gift d n w p c s=>
   dsimp only[Bc,rP,sJ,sO,oZ,sZ]at k1 k2 k3 k4 k5 k6;refine sc0 rfl ty k1 ?_;refine sc1 rfl ty k3 ?_;walk_at "i";refine md hb hB.me (nf _ (by decide+kernel)) ⟨b,x,kb,ns,mK,d,n,p,c,s,w,rfl,hB,hE,hg.2.1.1,hC.n,hS.r,w3,hC.nl,λq ms H' o aa e3 e4=>k _ H' aa o (hS.next (hS.r.keep hw e3) (λz=>?_) rfl hS.g (ym _) (yy _ _)) rfl rfl⟩;rw[ab rfl,e4];rfl
  |sell d n w p r f o=>
   dsimp only[Bc,rP,sJ,sO,oZ,sZ]at k1 k2 k3 k4 k5 k6;obtain rfl:o=none:=ho;obtain⟨Cw,dw,ac,ad⟩:=hC.w;refine sc0 rfl ty k1 ?_;refine sc0 rfl ty k3 ?_;refine sc1 rfl ty k2 ?_;walk_at "i";refine md hb hB.me (nf _ (by decide+kernel)) ⟨b,x,Cw,dw,kb,ns,mK,d,n,p,r,f,w,rfl,hB,ac,ad,hE,hS.r,w3,hC.nl,hg.2.1.1,hf,hm w,by omega,λy s q ms H' o aa e1 e2 e3 e4 e5 e6 e7=>k _ H' aa o ⟨hS.r.keep hw e6,λz=>?_,?_,?_,hS.g,?_,?_⟩ rfl rfl⟩
   ·rw[ab rfl,e7,Dj,<-show(λz=>pcs (rowOf kb.rs z))=runC es from funext hS.c];rfl
   ·show(List.map _ (kb.sl++[(y,s)])).Sublist _
    rw[zv,zv];refine hS.n.append ?_;show[s.n].Sublist [n];rw[e1];exact yZ _
   ·show∀c∈List.map _ (kb.sl++[(y,s)]),_
    rw[zv];intro c hc;rcases zK.mp hc with hc|hc
    ·exact hS.p c hc
    ·rw[zC.mp hc];exact e5
   ·rw[zA];exact zV ae (yy _ _)
   ·rw[zA];show kb.ll<=100*(es.length+1);omega
  |give d n w p o=>
   dsimp only[Bc,rP,sJ,sO,oZ,sZ]at k1 k2 k3 k4 k5 k6;obtain rfl:o=none:=ho;obtain⟨Cw,dw,ac,ad⟩:=hC.w;refine sc0 rfl ty k1 ?_;refine sc0 rfl ty k3 ?_;refine sc0 rfl ty k2 ?_;refine sc1 rfl ty k4 ?_;walk_at "i";refine md hb hB.me (nf _ (by decide+kernel)) ⟨b,x,Cw,dw,kb,ns,mK,d,n,p,w,rfl,hB,ac,ad,hE,hS.r,w3,hC.nl,hg.2.1.1,hf,hm w,by omega,λg q ms H' o aa e1 e6 e7=>k _ H' aa o (hS.next (hS.r.keep hw e6) (λz=>?_) rfl (λt ht=>?_) ?_ (yy _ _)) rfl rfl⟩
   ·rw[ab rfl,e7];rfl
   ·rcases zK.mp ht with ht|ht
    ·exact hS.g t ht
    ·rw[zC.mp ht];exact e1
   ·show(kb.gv++[g]).length<=_
    rw[zA];exact zg _
  |split d n w m f=>
   dsimp only[Bc,rP,sJ,sO,oZ,sZ]at k1 k2 k3 k4 k5 k6;refine sc0 rfl ty k1 ?_;refine sc0 rfl ty k3 ?_;refine sc0 rfl ty k2 ?_;refine sc0 rfl ty k4 ?_;refine sc1 rfl ty k5 ?_;walk_at "i";refine md hb hB.me (nf _ (by decide+kernel)) ⟨b,x,kb,ns,mK,d,n,m,f,w,rfl,hB,hE,(by obtain⟨_,h1,h2⟩:=hg;unfold Rg at h1 h2;exact⟨⟨by omega,by omega⟩,by omega,by omega⟩),hS.r,w3,hC.nl,hf.imp_left (λc=>?_),λq ms H' o aa e6 e7=>k _ H' aa o (hS.next (hS.r.keep hw e6) (λz=>?_) rfl hS.g (ym _) (yy _ _)) rfl rfl⟩
   ·have h1:=Bs (hS.r.row w).p
    have c:pcs (rowOf kb.rs w)=0:=c;exact zz4.mp (by omega)
   ·rw[ab rfl,e7];rfl
  |part d n w u s t=>
   dsimp only[Bc,rP,sJ,sO,oZ,sZ]at k1 k2 k3 k4 k5 k6;refine sc0 rfl ty k1 ?_;refine sc0 rfl ty k3 ?_;refine sc0 rfl ty k2 ?_;refine sc0 rfl ty k4 ?_;refine sc0 rfl ty k5 ?_;refine sc1 rfl ty k6 ?_;walk_at "i";refine md hb hB.me (nf _ (by decide+kernel)) ⟨b,x,kb,ns,mK,d,n,s,t,w,u,rfl,hB,hE,?_,Ne.symm hg.2.2.1,hw,hS.r,w3,hC.nl,λq1 l1 q ms H' o aa e1 e2 e6 e7=>k _ H' aa o (hS.next ((hS.r.keep hw e1).keep hu e6) (λz=>?_) rfl hS.g (ym _) (yy _ _)) rfl rfl⟩
   ·obtain⟨h1,h2⟩:=hg.2.2.2
    unfold Rg at h1 h2;exact⟨⟨by omega,by omega⟩,by omega,by omega⟩
   ·show pcs (rowOf (keepR (keepR kb.rs w q1 l1) u q ms) z)=(if z=u then pcs (rowOf kb.rs u)+pcs (rowOf kb.rs w)else pcs (rowOf kb.rs z))
    rw[xQ];by_cases c:z=u
    ·rw[zo c,zo c,e7]
    ·rw[ze c,ze c,xQ]
     by_cases c2:z=w
     ·rw[zo c2,e2,c2]
     ·rw[ze c2]
def Nx{t u:TS}{D:Ends}{σ:L2.St}{H:Hp}(P:L2.St->Hp->Prop)(h1:∀q H',P q H'->u D q H')(h2:∀N:L2.St->Hp->Prop,(∀q H',P q H'->N q H')->t {D with nx:=N} σ H):Yt t u D σ H:=h2 _ h1
noncomputable def Aft(k:BkD)(e:Ent):Prop:=∀t,k.last=some t->t.2.1<e.day\/(t.2.1=e.day/\t.2.2<e.num)
def ajP{a b c d:Int}(h:c<a\/(c=a/\d<b)):HT.lexLe [a,b] [c,d]=false:=by
 unfold HT.lexLe;by_cases e:a=c
 ·rw[zo e]
  unfold HT.lexLe;rw[ze (by omega)];exact zI (by omega)
 ·rw[ze e]
  exact zI (by omega)
def Yy(k:BkD)(l:Option (Addr×Int×Int)):DP (Str.ofString "last_place") (Rf l) k.fs={k with last:=l}.fs:=by cases k;rfl
def aiQ(A:Adr)(e:Ent):∃q,q e=true/\(e.cls A,CP A q)∈[(A.acX,CP A Bc),(A.acY,CP A rP),(A.acZ,CP A sJ),(A.ac0,CP A sO),(A.ac1,CP A oZ),(A.acW,CP A sZ)]:=by
 cases e with
 |buy=>exact⟨Bc,rfl,zm (i:=0) rfl⟩
 |sell=>exact⟨rP,rfl,zm (i:=1) rfl⟩
 |gift=>exact⟨sJ,rfl,zm (i:=2) rfl⟩
 |give=>exact⟨sO,rfl,zm (i:=3) rfl⟩
 |split=>exact⟨oZ,rfl,zm (i:=4) rfl⟩
 |part=>exact⟨sZ,rfl,zm (i:=5) rfl⟩
def ajt{e:Ent}{q:List (Key×V)}(h:ajq (jJ q) e):e.beh q≠none:=by
 cases e with
 |buy=>exact λc=>by cases c
 |gift=>exact λc=>by cases c
 |part=>exact λc=>by cases c
 |sell d n w p r f o=>
  have h:p<=jJ q w:=h;rw[Ent.beh,ze (by omega)];exact λc=>by cases c
 |give d n w p o=>
  have h:p<=jJ q w:=h;rw[Ent.beh,ze (by omega)];exact λc=>by cases c
 |split d n w m f=>
  have h:jJ q w=0\/1<=jJ q w*m/f:=h;rw[Ent.beh,ze (by omega)];exact λc=>by cases c
def jk.isE{H:Hp}{b x C dx:Addr}{k:BkD}{e:Ent}{q:V}(h:jk A H b k)(_:IsE A H x e)(z:H x=some (.ins C dx (e.fs q))):vQ H (k.M b) x=some (.ins C dx (e.fs q)):=by cases e<;>exact h.day z
def jk.keepE{H H':Hp}{b x:Addr}{k:BkD}{M:List Addr}{e:Ent}(h:jk A H b k)(o:Stp (k.M b) M H H')(q:IsE A H x e)(ho:e.lots=none):IsE A H' x e:=let⟨dx,nv,z,c⟩:=q;⟨dx,nv,o.k x _ (uT (h.isE q z)) z,by rw[ho]at c⊢;exact c⟩
inductive Lk(A:Adr)(vs:List V)(H:Hp)(Q:VK)(E:XK):Prop
 |mk (b x:Addr) (k:BkD) (e:Ent) (es:List Ent) (ns:List Int) (_:vs=[.ref b,.ref x]) (_:jk A H b k) (_:IsE A H x e) (_:Can A H ns es k e) (_:Aft k e) (_:∀k' t H',jk A H' b k'->Stp (k.M b) (k'.M b) H H'->StB ns (es++[e]) k'->k'.C=k.C->k'.way=k.way->k'.last=some (t,e.day,e.num)->Q .non H'):Lk A vs H Q E
def Lw(T:Txt K mg A D):jQ P w K mg base CX0 9 A.acm D.acm ["self", "entry"] (Lk A):=by
 refine T.aes.okv Vl λ_ _ _ _ H vs Q E hr h=>?_
 ·obtain⟨b,x,kb,e,es,ns,rfl,hB,hx,hC,hA,k⟩:=h
  obtain⟨db,hb⟩:=hB.i;have hc:=Du T hB;have ag:=λf h=>kb.noM f h
  refine ⟨_,(iB (jX (PW.pt (Qi (jl (Nh) (fv K 0) nu (jr _)) (Iw (jl ((aiO (K:=K) hr)) (pcg (Bw T) hr T.adz (Ed T) (pav 1 iD)) (fv K 0) (jr _))))) (iG (mJ)) jx)
   (iB (jX (jl (Fy) (jE (pv 1) (mc T.afQ T.ahO (Dw T) hr (Eu T) (mc T.afZ T.ahP (BK T) hr (Dr T) (mc T.af9 T.ahQ (BP T) hr (Dq T) (mc T.agh T.ahR (Bv T) hr (Cj T) (mc T.ago T.ahS (xZ T) hr (Ca T) (mc T.afI T.ahT (vL T) hr (wC T) .nil)))))) jL (iz (lU (pv 0) (mc T.agv T.ahU (Fl T) hr (Js T) (mc T.agI T.ahV (Fl T) hr (Js T) .nil)) jL) iD)) nu (jr _)) (iG (mJ)) jx)
   (iB (jo (jE (pv 0) (mc T.agv T.ahM (rn T) hr (tM T) (mc T.agI T.ahN (rn T) hr (tM T) .nil)) jL (pav 1 iD)))
   (iG (jA (K:=K) (pv 0) (pcg (Bw T) hr T.adz (Ed T) (pav 1 iD)) rfl))))),?_⟩
  simp only[start_eq];refine Nx (λσ' H'=>σ'=[some (.ref b),some (.ref x)]/\Same H H') ?_ ?_
  ·rintro σ1 H1 ⟨rfl,s1⟩
   refine Nx (λσ' H'=>σ'=[some (.ref b),some (.ref x)]/\Same H H') ?_ ?_
   ·rintro σ2 H2 ⟨rfl,s2⟩
    have ab:=hB.same s2;have ai:=hx.same s2;obtain⟨ay,am⟩:=ab.i;have aq:Can A H2 ns es kb e:=⟨hC.s,hC.l,hC.nl,hC.g,hC.n,hC.f,hC.m,let⟨Cw,dw,h1,h2⟩:=hC.w;⟨Cw,dw,s2 _ _ h1,h2⟩⟩;walk_at "m";refine md am ab.me (ag _ (by decide+kernel)) ⟨b,x,kb,e,es,ns,rfl,ab,ai,aq,λk3 H3 an o3 q c3 w3=>?_⟩;have as:=ab.keepE o3 ai hC.g.2.1
    try dsimp only
    refine⟨x,e,rfl,as,λt ht=>?_⟩;have s4:=iM (o:=.tup [V.int e.day,V.int e.num]) ht;have aa:=an.same s4;have ah:(upd H3 t (.tup [V.int e.day,V.int e.num])) t=some (.tup [V.int e.day,V.int e.num]):=iH;generalize upd H3 t (.tup [V.int e.day,V.int e.num])=H4 at s4 aa ah⊢;obtain⟨aw,ao⟩:=aa.i;have ae:=Du T aa;refine sw ao ae.c ae.l (Uw _) (?_);rw[show V.ref t=Rf (some (t,e.day,e.num))from rfl,Yy];exact k _ t _ (aa.put (la:=some (t,e.day,e.num)) (pa:=k3.paid) (br:=k3.brought) λu hu=>by cases hu;exact aa.tup ah) ((pB s2).trans (o3.trans ((pB s4).trans (pK BkD.mb)))) ⟨q.r,q.c,q.n,q.p,q.g,q.v,q.l⟩ c3 w3 rfl
   ·intro N hN
    have ac:=hB.same s1;obtain⟨au,ar⟩:=ac.i;obtain⟨dx,nv,aj,ap⟩:=hx.same s1;walk_at "i";obtain⟨av,hk,ad⟩:=aiQ A e;have hS:=hC.s;refine md aj ad (by cases e<;>rfl) (md ar ac.me (ag _ (by decide+kernel)) ⟨b,kb,ns,mK,rfl,ac,hS.r,by decide,hC.nl,λp kv H2 s2 hp ak hH hl hv=>?_⟩);have af:ajq (jJ kv) e:=by rw[show jJ kv=runC es from funext λz=>(hv z).trans (hS.c z)];exact hC.f
    refine⟨x,p,e,kv,hk,rfl,⟨dx,nv,s2 _ _ aj,ap.same s2⟩,hC.g.1,.inl ak,hH,by omega,λc=>(ajt af c).elim,λax _ p2 H3 s3 _ _=>?_⟩;show(if V.ref p2=V.non then _ else _);rw[ze (λc=>by cases c)];exact hN _ _ ⟨rfl,s1.trans (s2.trans s3)⟩
  ·intro N hN
   walk_at "i";refine rd hb hc.c hc.l (v:=Rf kb.last) (by rfl) (?_)
   cases hl:kb.last with
   |none=>
    rw[ze (by simp[Rf])];exact hN _ _ ⟨rfl,same_refl _⟩
   |some t=>
    rw[zo (by simp[Rf])];refine⟨x,e,rfl,hx,λt1 al=>?_⟩;have s1:=iM (o:=.tup [V.int e.day,V.int e.num]) al;refine rd (s1 _ _ hb) hc.c hc.l (v:=Rf kb.last) (by rfl) (?_);rw[hl];refine⟨t1,t.1,[e.day,e.num],[t.2.1,t.2.2],rfl,rfl,jD iH,jD (s1 _ _ (hB.frz.p t hl)),_,rfl,?_⟩;rw[ajP (hA t hl),ze (by decide)];exact hN _ _ ⟨rfl,s1⟩
structure Ini(B H:Hp)(x C dx:Addr)(fs:List (Str×V))(os:List (Addr×HO)):Prop where
 n:New B H x C dx fs
 o:∀p∈os,p.1≠x/\B p.1=none/\H p.1=some p.2
 u:os.Pairwise λp q=>p.1≠q.1
theorem Ini.put{B H:Hp}{x C dx:Addr}{fs:List (Str×V)}{os:List (Addr×HO)}(h:Ini B H x C dx fs os)(gs:List (Str×V)):Ini B (upd H x (.ins C dx gs)) x C dx gs os:=⟨h.n.put rfl,λp q=>let⟨a,b,c⟩:=h.o p q;⟨a,b,(iU a).trans c⟩,h.u⟩
def Ini.new{B H:Hp}{x C dx q:Addr}{o:HO}{fs:List (Str×V)}{os:List (Addr×HO)}(h:Ini B H x C dx fs os)(hq:H q=none):Ini B (upd H q o) x C dx fs ((q,o)::os):=by
 have s:=iM (o:=o) hq;refine⟨h.n.same s,λp z=>?_,List.pairwise_cons.mpr ⟨λp z e=>?_,h.u⟩⟩
 ·rcases zu.mp z with rfl|z
  ·exact⟨λe=>(by have:=h.n.h;rw[<-show q=x from e,hq]at this;cases this),h.n.s.free hq,iH⟩
  ·obtain⟨a,b,c⟩:=h.o p z
   exact⟨a,b,s _ _ c⟩
 ·have:=(h.o p z).2.2
  rw[<-show q=p.1 from e,hq]at this;cases this
noncomputable def k0(C w pr ps pg:Addr)(x:Option (Int×Addr×List V)):BkD:=⟨C,w,pr,ps,pg,[],none,0,0,[],[],x⟩
noncomputable def os0(pr ps pg:Addr):List (Addr×HO):=[(pg,.lst []),(ps,.lst []),(pr,.dK [])]
inductive vA(K:Fg_)(vs:List V)(H:Hp)(Q:VK)(E:XK):Prop
 |mk (x w:Addr) (B:Hp) (C dx:Addr) (_:vs=[.ref x,.ref w]) (_:New B H x C dx []) (_:CB K C) (_:∀pr ps pg H',Ini B H' x C dx (k0 C w pr ps pg none).fs (os0 pr ps pg)->Q .non H'):vA K vs H Q E
def vq(T:Txt K mg A D):jQ P w K mg base CX0 1 A.aco D.aco ["self", "way"] (vA K):=by
 refine T.aeu.okv Gv λ_ _ _ _ H vs Q E hr h=>?_
 ·obtain⟨x,w,B,C,dx,rfl,hN,z,k⟩:=h
  refine ⟨_,(iB (jA (K:=K) (pv 0) (pvD 1) rfl)
   (iB (jA (K:=K) (pv 0) Sy rfl)
   (iB (jA (K:=K) (pv 0) nu rfl)
   (iB (jA (K:=K) (pv 0) iJ rfl)
   (iB (jA (K:=K) (pv 0) iJ rfl)
   (iB (jA (K:=K) (pv 0) (kW iD) rfl)
   (iG (jA (K:=K) (pv 0) (kW iD) rfl)))))))),?_⟩
  have q:Ini B H x C dx [] []:=⟨hN,λp h=>(zn h).elim,.nil⟩;clear hN;simp only[start_eq];refine jK λu hu=>?_;rw[ap_seq];walk_at "i";refine sw q.n.h z.c z.w (by decide) ?_;rw[xR _ _ (by decide+kernel)];have q:=q.put ([]++[(Str.ofString "way",V.ref w)]);generalize upd H x _=H1 at q⊢;subst hu
  try dsimp only
  refine jK λu hu=>?_;rw[ap_seq];walk_at "i";intro pr aa;have q:=q.new (o:=.dK []) aa;generalize upd H1 pr _=H1a at q⊢;refine sw q.n.h z.c z.r (by simp) ?_;rw[mj (f:=Str.ofString "rows") ["way"]];have q:=q.put (([]++[(Str.ofString "way",V.ref w)])++[(Str.ofString "rows",V.ref pr)]);generalize upd H1a x _=H2 at q⊢;subst hu
  try dsimp only
  refine jK λu hu=>?_;rw[ap_seq];walk_at "i";refine sw q.n.h z.c z.l (by simp) ?_;rw[mj (f:=Str.ofString "last_place") ["way", "rows"]];have q:=q.put ((([]++[(Str.ofString "way",V.ref w)])++[(Str.ofString "rows",V.ref pr)])++[(Str.ofString "last_place",V.non)]);generalize upd H2 x _=H3 at q⊢;subst hu
  try dsimp only
  refine jK λu hu=>?_;rw[ap_seq];walk_at "i";refine sw q.n.h z.c z.p (by simp) ?_;rw[mj (f:=Str.ofString "paid") ["way", "rows", "last_place"]];have q:=q.put (((([]++[(Str.ofString "way",V.ref w)])++[(Str.ofString "rows",V.ref pr)])++[(Str.ofString "last_place",V.non)])++[(Str.ofString "paid",V.int 0)]);generalize upd H3 x _=H4 at q⊢;subst hu
  try dsimp only
  refine jK λu hu=>?_;rw[ap_seq];walk_at "i";refine sw q.n.h z.c z.b (by simp) ?_;rw[mj (f:=Str.ofString "brought") ["way", "rows", "last_place", "paid"]];have q:=q.put ((((([]++[(Str.ofString "way",V.ref w)])++[(Str.ofString "rows",V.ref pr)])++[(Str.ofString "last_place",V.non)])++[(Str.ofString "paid",V.int 0)])++[(Str.ofString "brought",V.int 0)]);generalize upd H4 x _=H5 at q⊢;subst hu
  try dsimp only
  refine jK λu hu=>?_;rw[ap_seq];walk_at "i";refine⟨sz,λps ab=>?_⟩;have q:=q.new (o:=.lst []) ab;generalize upd H5 ps _=H5a at q⊢;refine sw q.n.h z.c z.s (by simp) ?_;rw[mj (f:=Str.ofString "sales_done") ["way", "rows", "last_place", "paid", "brought"]];have q:=q.put (((((([]++[(Str.ofString "way",V.ref w)])++[(Str.ofString "rows",V.ref pr)])++[(Str.ofString "last_place",V.non)])++[(Str.ofString "paid",V.int 0)])++[(Str.ofString "brought",V.int 0)])++[(Str.ofString "sales_done",V.ref ps)]);generalize upd H5a x _=H6 at q⊢;subst hu
  try dsimp only
  walk_at "i";refine⟨sz,λpg ac=>?_⟩;have q:=q.new (o:=.lst []) ac;generalize upd H6 pg _=H6a at q⊢;refine sw q.n.h z.c z.g (by simp) ?_;rw[mj (f:=Str.ofString "givings_done") ["way", "rows", "last_place", "paid", "brought", "sales_done"]];exact k pr ps pg _ (q.put _)
def akB{B H:Hp}{x C dx w pr ps pg:Addr}{z:Option (Int×Addr×List V)}{os:List (Addr×HO)}(h:Ini B H x C dx (k0 C w pr ps pg z).fs (os++os0 pr ps pg))(hc:(C=A.ac2/\z=none)\/(C=A.ac4/\z≠none))(hx:∀y,z=some y->(y.2.1,HO.lst [])∈os/\y.2.2=[]):
  jk A H x (k0 C w pr ps pg z)/\∀m∈(k0 C w pr ps pg z).M x,B m=none:=by
 have m1:(pg,HO.lst [])∈os++os0 pr ps pg:=zF _ (zm (i:=0) rfl);have m2:(ps,HO.lst [])∈os++os0 pr ps pg:=zF _ (zm (i:=1) rfl);have m3:(pr,HO.dK [])∈os++os0 pr ps pg:=zF _ (zm (i:=2) rfl);have hu:=List.pairwise_append.mp h.u;have aa:pg≠ps:=List.rel_of_pairwise_cons hu.2.1 zj;refine⟨⟨hc,⟨dx,h.n.h⟩,(h.o _ m3).2.2,(h.o _ m2).2.2,(h.o _ m1).2.2,λy e=>?_,Ne.symm aa,⟨λt q=>(zn q).elim,λt q=>(by cases q),λt q=>(zn q).elim,λt q=>(zn q).elim⟩⟩,λm hm=>?_⟩
 ·obtain⟨g1,g2⟩:=hx y e
  refine⟨by rw[g2];exact(h.o _ (yH _ g1)).2.2,hu.2.2 _ g1 _ (zm (i:=1) rfl),hu.2.2 _ g1 _ (zm (i:=0) rfl)⟩
 ·unfold BkD.M at hm
  rcases zK.mp hm with c|c
  ·rcases zu.mp c with rfl|c
   ·exact h.n.n
   rcases zu.mp c with rfl|c
   ·exact(h.o _ m3).2.1
   rcases zu.mp c with rfl|c
   ·exact(h.o _ m2).2.1
   ·rw[zC.mp c]
    exact(h.o _ m1).2.1
  ·unfold BkD.xm at c
   split at c
   ·exact(zn c).elim
   ·next y e=>
    rw[zC.mp c];exact(h.o _ (yH _ (hx y e).1)).2.1
inductive oF(A:Adr)(vs:List V)(H:Hp)(Q:VK)(E:XK):Prop
 |mk (x w:Addr) (g:Int) (B:Hp) (dx:Addr) (_:vs=[.ref x,.ref w,.int g]) (_:New B H x A.ac4 dx []) (_:∀k H',Same B H'->jk A H' x k->(∀m∈k.M x,B m=none)->(∃pr ps pg xo,k=k0 A.ac4 w pr ps pg xo/\k.ll=0)->Q .non H'):oF A vs H Q E
def vO(T:Txt K mg A D):jQ P w K mg base CX0 2 A.acq D.acq ["self", "way", "days"] (oF A):=by
 refine T.aew.okv vI λ_ _ _ _ H vs Q E hr h=>?_
 ·obtain⟨x,w,g,B,dx,rfl,hN,k⟩:=h
  refine ⟨_,(iB (jo (oX T.ah4 (vq (K:=K) T) (hr.mono (by decide)) (by rfl) T.afr T.aeu.kp (wL T) .nil jL (pav 0 (pav 1 iD))))
   (iB (jA (K:=K) (pv 0) (pvD 2) rfl)
   (iG (jA (K:=K) (pv 0) (kW iD) rfl)))),?_⟩
  have hC:CB K A.ac4:=⟨T.agI,T.agJ,T.agK,T.agL,T.agM,T.agN,T.agO,T.agP⟩;simp only[start_eq];walk_at "m";refine⟨x,w,B,A.ac4,dx,rfl,hN,hC,λpr ps pg H1 q=>?_⟩;walk_at "a";refine sw q.n.h T.agI T.agQ (show(7:Nat)<1000 by decide) (?_);rw[mj (f:=Str.ofString "days") ["way", "rows", "last_place", "paid", "brought", "sales_done", "givings_done"]];have q:=q.put ((k0 A.ac4 w pr ps pg none).fs++[(Str.ofString "days",V.int g)]);generalize upd H1 x _=H2 at q⊢;refine⟨sz,λla z=>?_⟩;have q:=q.new (o:=.lst []) z;generalize upd H2 la _=H3 at q⊢;refine sw q.n.h T.agI T.agR (show(8:Nat)<1000 by decide) (?_);rw[mj (f:=Str.ofString "layings") ["way", "rows", "last_place", "paid", "brought", "sales_done", "givings_done", "days"]];have q:=q.put ((k0 A.ac4 w pr ps pg (some (g,la,[]))).fs);obtain⟨g1,g2⟩:=akB (A:=A) (os:=[(la,.lst [])]) q (.inr ⟨rfl,λc=>by cases c⟩) λy e=>by cases e;exact⟨zj,rfl⟩
  exact k _ _ q.n.s g1 g2 ⟨pr,ps,pg,_,rfl,rfl⟩
def st0{ns:List Int}{k:BkD}(h:∃C w pr ps pg q,k=k0 C w pr ps pg q/\k.ll=0):StB ns [] k:=by
 obtain⟨C,w,pr,ps,pg,q,rfl,hl⟩:=h;exact⟨⟨.nil,λt h=>(zn h).elim,λt h=>(zn h).elim⟩,λz=>rfl,yZ _,λt h=>(zn h).elim,λt h=>(zn h).elim,zg _,by rw[hl];exact zJ _⟩
inductive JQ(A:Adr)(vs:List V)(H:Hp)(Q:VK)(E:XK):Prop
 |mk (b q:Addr) (k:BkD) (es:EL) (hs:List Ent) (_:vs=[.ref b,.ref q]) (_:jk A H b k) (_:(∃C w pr ps pg xo,k=k0 C w pr ps pg xo/\k.ll=0)) (_:(∃Cw dw,H k.way=some (.ins Cw dw [])/\TY A Cw)) (_:k.way∉k.M b) (_:H q=some (.lst (CQ es))) (_:Nz A H es) (_:Zg hs) (_:hs.Pairwise BfE) (_:hs.length<=56) (_:(hs.map Ent.num).Nodup) (_:(es.map (·.2)).Perm hs) (_:∀k' H',jk A H' b k'->Stp (k.M b) (k'.M b) H H'->StB (hs.map Ent.num) hs k'->k'.C=k.C->Q (.ref b) H'):JQ A vs H Q E
def vm(T:Txt K mg A D):jQ P w K mg base CX0 10 A.acn D.acn ["book", "entries"] (JQ A):=by
 refine T.aet.F.okv vH λ_ _ _ _ H vs Q E hr h=>?_
 ·obtain⟨b,q,kb,es,z,rfl,hB,h0,hw,aq,hq,hE,hH,hb,hl,hn,ah,k⟩:=h
  refine ⟨_,(iB (oE zQ rfl (kJ (K:=K) (pcg (Rj T) hr T.adA (Wg T) (pav 1 iD))) (iW (i:=2) vH.nd rfl orl)
    (iG (jo (jE (pv 0) (mc T.agv T.ahW (Lw T) hr (Qx T) (mc T.agI T.ahX (Lw T) hr (Qx T) .nil)) jL (pav 2 iD)))))
   (iG (iY (pvD 0)))),?_⟩
  simp only[start_eq];rw[ap_seq,ap_for];walk_at "i";have ax:es.length=z.length:=by have:=ah.length_eq;rwa [za]at this
  refine⟨q,es,rfl,hq,hE,by omega,?_,λp ab H1 s1 hp h1 af as=>?_⟩
  ·have:=(ah.map Ent.num).nodup_iff.mpr hn
   rwa [zx]at this
  have ag:ab.map (·.2)=z:=ajN ((af.map (·.2)).trans ah) as hb;have au:Nz A H1 ab:=λr hr=>(hE r (af.mem_iff.mp hr)).same s1;have ak:=hB.same s1;refine⟨p,rfl,⟨_,iQ h1⟩,?_⟩
  refine Gg.listN (K:=K) (a:=p) (xs:=CQ ab) (λi σ H2=>∃(k2:BkD)(v2:Option V),σ=[some (.ref b),some (.ref q),v2]/\jk A H2 b k2/\Stp (kb.M b) (k2.M b) H1 H2/\StB (z.map Ent.num) (z.take i) k2/\k2.C=kb.C/\k2.way=kb.way/\∀t,k2.last=some t->∃e∈z.take i,t.2.1=e.day/\t.2.2=e.num)
   ⟨kb,_,rfl,ak,pB (same_refl _),st0 h0,rfl,rfl,λt ht=>?_⟩ (λi σ H2 _ ⟨k2,_,_,_,o2,_⟩=>iQ (o2.k p _ (hB.fresh hp) h1)) ?_ ?_
  ·obtain⟨C,w,pr,ps,pg,xo,rfl,_⟩:=h0
   cases ht
  ·rintro i y σ H2 hi ⟨k2,v2,rfl,ac,o2,ae,c2,w2,ad⟩ N hN
   obtain⟨r,ai,rfl⟩:=OJ hi;have ar:=zm ai;have ay:i<ab.length:=(zk.mp ai).1;have aa:z[i]? =some r.2:=by rw[<-ag,zd,ai];rfl
   have hln':ab.length=z.length:=by rw[<-ag,za]
   have aj:=hH.g r.2 (zm aa);have av:=ak.keepE o2 (au r ar) aj.2.1;obtain⟨az,an⟩:=ac.i;have htk:z.take (i+1)=z.take i++[r.2]:=by rw[zN,aa];rfl
   have am:Can A H2 (z.map Ent.num) (z.take i) k2 r.2:=⟨ae,by rw[zU];omega,by rw[za];omega,aj,zi.mpr ⟨_,zm aa,rfl⟩,hH.f i _ aa,hH.m i,let⟨Cw,dw,g1,g2⟩:=hw;⟨Cw,dw,by rw[w2];exact o2.k _ _ aq (s1 _ _ g1),g2⟩⟩
   have al:Aft k2 r.2:=λt ht=>by
    obtain⟨e,he,ed,en⟩:=ad t ht;have h4:=hb;rw[<-yV i z]at h4
    have h5:=(List.pairwise_append.mp h4).2.2 e he r.2 (by
     have hil':i<z.length:=by omega
     rw[zzQ hil'];have:z[i]=r.2:=by rw[zh hil']at aa;exact zw aa
     rw[this];exact zj)
    rw[ed,en];exact h5
   walk_at "i";refine md an ac.me (k2.noM _ (by decide+kernel)) ⟨b,r.1,k2,r.2,_,_,rfl,ac,av,am,al,λk3 t H3 ao o3 ap c3 w3 aw=>?_⟩;refine hN _ _ ⟨k3,_,rfl,ao,o2.trans o3,htk▸ap,c3.trans c2,w3.trans w2,λu hu=>?_⟩;rw[aw]at hu;cases hu;exact⟨r.2,by rw[htk];exact zK.mpr (.inr (by simp)),rfl,rfl⟩
  ·rintro σ H2 ⟨k2,v2,rfl,ac,o2,ae,c2,w2,ad⟩
   rw[wO,show ab.length=z.length by rw[<-ag,za],z0]at ae;walk_at "a";exact k k2 H2 ac ((pB s1).trans o2) ae c2
structure alm(A:Adr)(H:Hp)(w q:Addr)(es:EL)(hs:List Ent):Prop where
 w:∃Cw dw,H w=some (.ins Cw dw [])/\TY A Cw
 q:H q=some (.lst (CQ es))
 e:Nz A H es
 h:Zg hs
 b:hs.Pairwise BfE
 l:hs.length<=56
 n:(hs.map Ent.num).Nodup
 p:(es.map (·.2)).Perm hs
def mine{B H:Hp}{b:Addr}{k q:BkD}(s:Same B H){H':Hp}(hm:∀m∈k.M b,B m=none)(o:Stp (k.M b) (q.M b) H H'):Same B H'/\∀m∈q.M b,B m=none:=
 ⟨λa u e=>o.k a u (λc=>by rw[hm a c]at e;cases e) (s _ _ e),λm c=>(o.f m c).elim (hm m) λe=>s.free e⟩
inductive Lx(A:Adr)(vs:List V)(H:Hp)(Q:VK)(E:XK):Prop
 |mk (w q:Addr) (es:EL) (hs:List Ent) (_:vs=[.ref w,.ref q]) (_:alm A H w q es hs) (_:∀b k H',Same H H'->jk A H' b k->(∀m∈k.M b,H m=none)->StB (hs.map Ent.num) hs k->Q (.ref b) H'):Lx A vs H Q E
def UW(T:Txt K mg A D):jQ P w K mg base CX0 11 A.acp D.acp ["way", "entries"] (Lx A):=by
 refine T.aev.F.okv Vb λ_ _ _ _ H vs Q E hr h=>?_
 ·obtain⟨w,q,es,hs,rfl,z,k⟩:=h
  refine⟨_,(iG (iY (pcg (vm T) hr T.aet (wN T) (iz (lR T.ag7 (vq (K:=K) T) (hr.mono (by decide)) (by rfl) T.afr (wL T) .nil jL (pav 0 iD)) (pav 1 iD))))),?_⟩;walk_at "a";intro b db hb ab _;have hN:=pX (C:=A.ac2) hb ab;refine⟨b,w,H,A.ac2,db,rfl,hN,⟨T.agv,T.agw,T.agx,T.agy,T.agz,T.agA,T.agB,T.agC⟩,λpr ps pg H1 hI=>⟨rfl,?_⟩⟩;obtain⟨hB,hm⟩:=akB (A:=A) (os:=[]) hI (.inl ⟨rfl,rfl⟩) λy e=>by cases e
  have s1:=hI.n.s;obtain⟨Cw,dw,w1,w2⟩:=z.w;refine⟨b,q,_,es,hs,rfl,hB,⟨_,_,_,_,_,_,rfl,rfl⟩,⟨Cw,dw,s1 _ _ w1,w2⟩,λc=>?_,s1 _ _ z.q,λr hr=>(z.e r hr).same s1,z.h,z.b,z.l,z.n,z.p,λk2 H2 aa o2 ac c2=>?_⟩
  ·have c:H w=none:=hm _ c
   rw[w1]at c;cases c
  ·obtain⟨g1,g2⟩:=mine s1 hm o2
   exact k b k2 H2 g1 aa g2 ac
inductive uq(A:Adr)(vs:List V)(H:Hp)(Q:VK)(E:XK):Prop
 |mk (w q:Addr) (g:Int) (es:EL) (hs:List Ent) (_:vs=[.ref w,.int g,.ref q]) (_:alm A H w q es hs) (_:∀b k H',Same H H'->jk A H' b k->(∀m∈k.M b,H m=none)->StB (hs.map Ent.num) hs k->Q (.ref b) H'):uq A vs H Q E
def DN(T:Txt K mg A D):jQ P w K mg base CX0 11 A.acr D.acr ["way", "days", "entries"] (uq A):=by
 refine T.aex.F.okv Ec λ_ _ _ _ H vs Q E hr h=>?_
 ·obtain⟨w,q,g,es,hs,rfl,z,k⟩:=h
  refine⟨_,(iG (iY (pcg (vm T) hr T.aet (wN T) (iz (lR T.ag8 (vO (K:=K) T) (hr.mono (by decide)) (by rfl) T.aft (xu T) .nil jL (pav 0 (pav 1 iD))) (pav 2 iD))))),?_⟩;walk_at "a";intro b db hb ab _;have hN:=pX (C:=A.ac4) hb ab;refine⟨b,w,g,H,db,rfl,hN,λk1 H1 s1 hB hm hk=>⟨rfl,?_⟩⟩;obtain⟨pr,ps,pg,xo,rfl,hl⟩:=hk;obtain⟨Cw,dw,w1,w2⟩:=z.w;refine⟨b,q,_,es,hs,rfl,hB,⟨_,_,_,_,_,_,rfl,hl⟩,⟨Cw,dw,s1 _ _ w1,w2⟩,λc=>?_,s1 _ _ z.q,λr hr=>(z.e r hr).same s1,z.h,z.b,z.l,z.n,z.p,λk2 H2 aa o2 ac c2=>?_⟩
  ·have c:H w=none:=hm _ c
   rw[w1]at c;cases c
  ·obtain⟨g1,g2⟩:=mine s1 hm o2
   exact k b k2 H2 g1 aa g2 ac
def Tt{H:Hp}{D:Addr}{u:HO}:But D H (upd H D u):=λb o n e=>(iU n).trans e
noncomputable def jR.dat(s:jR):(Int×Int×Str×Int×SP5)×Option Int:=(s.core,s.lo)
theorem aaT{H0 H:Hp}:∀{sl:List (Addr×jR)}{acc:List V},vN (λt v=>∃y s,v=.ref y/\(kI A H y s/\H0 s.pl=none)/\s.dat=t.2.dat) sl acc->∃q:List (Addr×jR),acc=pZ q/\q.map (λt=>t.2.dat)=sl.map (λt=>t.2.dat)/\∀t∈q,kI A H t.1 t.2/\H0 t.2.pl=none
 |[],[],_=>⟨[],rfl,rfl,λt h=>(zn h).elim⟩
 |t::sl,v::acc,h=>by
  obtain⟨⟨y,s,rfl,hs,hc⟩,h2⟩:=h;obtain⟨q,e1,e2,e3⟩:=aaT h2;refine⟨(y,s)::q,by rw[e1];rfl,by rw[zl,e2,hc];rfl,λu z=>?_⟩;rcases zu.mp z with rfl|z
  ·exact hs
  ·exact e3 u z
 |[],_::_,h=>h.elim
 |_::_,[],h=>h.elim
inductive Cu(A:Adr)(vs:List V)(H:Hp)(Q:VK)(E:XK):Prop
 |mk (b:Addr) (k:BkD) (_:vs=[.ref b]) (_:jk A H b k) (_:k.sl.length<=100) (_:∀l sl H',Same H H'->H l=none->H' l=some (.lst (pZ sl))->(∀t∈sl,kI A H' t.1 t.2/\H t.2.pl=none)->sl.map (λt=>t.2.dat)=k.sl.map (λt=>t.2.dat)->Q (.ref l) H'):Cu A vs H Q E
def lF(T:Txt K mg A D):jQ P w K mg base CX0 4 A.acu D.acu ["self"] (Cu A):=by
 refine T.aeA.okv Mp λ_ _ _ _ H vs Q E hr h=>?_
 ·obtain⟨b,kb,rfl,z,hl,k⟩:=h
  refine⟨_,(iG (iY (jO (cap:=[none]) (N':=["sale"]) rfl (by walk_at "c") (kJ (K:=K) (fv K 0)) (λ_ _ _ _=>(iW (i:=0) nd1 rfl orl orr)) (λ_ _ _ _=>jP) (λ_ _ _ _=>(pcg (IW T) hr T.aez (La T) (pav 0 iD)))))),?_⟩;walk_at "a";obtain⟨dx,hb⟩:=z.i;have hC:=Du T z;refine rd hb hC.c hC.s (by rfl) ⟨kb.sales,rfl,⟨_,iQ z.s⟩,?_⟩;refine Mx (f:=λt:Addr×jR=>V.ref t.1) (λσ=>∃a,σ=[a]) (λ_ t v H'=>∃y s,v=.ref y/\(kI A H' y s/\H s.pl=none)/\s.dat=t.2.dat) (iQ z.s) ⟨_,rfl⟩ (by omega) ?_ ?_
  ·rintro Da t ht σ H5 R ⟨_,rfl⟩ sm hD ⟨acc,hA⟩ kk
   walk_at "i";exact⟨t.1,t.2,rfl,(z.frz.s t ht).same sm,λy pl H6 s6 hy q hS=>kk (.ref y) _ H6 ⟨_,rfl⟩ s6 λH' hb=>⟨y,_,rfl,⟨hS.but (s6 _ _ hA) (λe=>by rw[show pl=Da from e,hA]at q;cases q) hb,sm.free q⟩,rfl⟩⟩
  ·intro Da H' acc hD sm hA hF
   obtain⟨sl,e1,e2,e3⟩:=aaT hF;exact k Da sl H' sm hD (e1▸hA) e3 e2
noncomputable def alQ(g:Int)(c:(Int×Int×Str×Int×SP5)×Option Int):List (List V):=nU ⟨c.1.1,c.1.2.1,c.1.2.2.1,c.1.2.2.2.1,0,c.1.2.2.2.2,c.2⟩ g
noncomputable def VG(g:Int)(k:BkD):List (List V):=(k.sl.map λt=>t.2.dat).flatMap (alQ g)
def GF{g:Int}{k:BkD}{sl:List (Addr×jR)}(h:sl.map (λt=>t.2.dat)=k.sl.map (λt=>t.2.dat)):VG g k=sl.flatMap λt=>nU t.2 g:=by
 unfold VG;rw[<-h,List.flatMap_map];rfl
def MP{sl:List (Addr×jR)}{g:Int}:(∀t∈sl,t.2.ps.length<=61)->(sl.flatMap λt=>nU t.2 g).length<=61*sl.length:=λh=>by
 induction sl with
 |nil=>exact zJ _
 |cons t sl ih=>
  rw[zzu,zA,zL];have h1:=h t zj;have h2:=ih λu q=>h u (zp _ q);have z:(nU t.2 g).length=t.2.ps.length:=by unfold nU;rw[za]
  omega
inductive Ez(A:Adr)(vs:List V)(H:Hp)(Q:VK)(E:XK):Prop
 |mk (b:Addr) (k:BkD) (g:Int) (_:vs=[.ref b,.int g]) (_:jk A H b k) (_:k.sl.length<=100) (_:∀l as H',Same H H'->H l=none->H' l=some (.lst (as.map V.ref))->lV H' as (VG g k)->Q (.ref l) H'):Ez A vs H Q E
def Fj(T:Txt K mg A D):jQ P w K mg base CX0 5 A.acM D.acM ["book", "long"] (Ez A):=by
 refine T.aeS.F.okv wJ λ_ _ _ _ H vs Q E hr h=>?_
 ·obtain⟨b,kb,g,rfl,hB,hl,k⟩:=h
  refine ⟨_,(iB (ji (i:=2) wJ.nd rfl orl (kW iD))
   (iB (oE zQ rfl (kJ (K:=K) (lU (pv 0) (mc T.agv T.ahY (lF T) hr (lW T) (mc T.agI T.ahZ (lF T) hr (lW T) .nil)) jL)) (iW (i:=3) wJ.nd rfl orl)
    (iG (jo (qx (K:=K) zH zzg zzh Hg (pvD 2) (iz (pcg (Jv T) hr T.aeR (Ld T) (pav 3 (pav 1 iD))) iD)))))
   (iG (iY (pvD 2))))),?_⟩
  simp only[start_eq];walk_at "m";refine⟨sz,λl ae=>?_⟩;have s1:=iM (o:=.lst []) ae;have h1:(upd H l (.lst [])) l=some (.lst []):=iH;generalize upd H l (.lst [])=H1 at s1 h1;have ad:=hB.same s1;obtain⟨db,al⟩:=ad.i
  (try dsimp only)
  rw[ap_seq,ap_for];walk_at "i";refine md al ad.me (kb.noM _ (by decide+kernel)) ⟨b,kb,rfl,ad,hl,λq sl H2 s2 hq h2 ai hd=>?_⟩;have am:sl.length=kb.sl.length:=by simpa using congrArg List.length hd
  have ak:l≠q:=λe=>by rw[<-e,h1]at hq;cases hq
  have S2:=s1.trans s2;rw[GF hd]at k;refine⟨q,rfl,⟨_,iQ h2⟩,?_⟩
  refine Gg.listN (K:=K) (a:=q) (xs:=pZ sl) (λi σ H3=>∃(v3:Option V)(as:List Addr),σ=[some (.ref b),some (.int g),some (.ref l),v3]/\Same H H3/\H3 q=some (.lst (pZ sl))/\(∀t∈sl,kI A H3 t.1 t.2/\t.2.pl≠l)/\H3 l=some (.lst (as.map V.ref))/\lV H3 as ((sl.take i).flatMap λt=>nU t.2 g))
   ⟨_,[],rfl,S2,h2,λt ht=>⟨(ai t ht).1,λe=>?_⟩,s2 _ _ h1,rfl,λi a e=>by simp at e⟩ (λi σ H3 _ ⟨_,_,_,_,h,_⟩=>iQ h) ?_ ?_
  ·have:=(ai t ht).2
   rw[e,h1]at this;cases this
  ·rintro i y σ H3 hi ⟨v3,as,rfl,s3,h3,z,ab,aa⟩ N hN
   obtain ⟨t,ht,rfl⟩:∃t,sl[i]? =some t/\y=.ref t.1:=by
    unfold pZ at hi;rw[zd]at hi
    cases e:sl[i]? with
    |none=>rw[e]at hi;cases hi
    |some r=>rw[e]at hi;exact⟨r,rfl,(zw hi).symm⟩
   have ah:=zm ht;have an:i<sl.length:=(zk.mp ht).1;walk_at "i";refine⟨tyL (iQ ab),t.1,t.2,g,rfl,(z t ah).1,λl4 aj H4 s4 ac h4 ag=>?_⟩;refine⟨l,l4,_,_,rfl,rfl,s4 _ _ ab,h4,?_,?_⟩
   ·have g1:=aa.1
    have g2:=ag.1;have g3:=MP (sl:=sl.take i) (g:=g) λu hu=>(z u (y6 hu)).1.l;have g4:=(z t ah).1.l;rw[zU]at g3;have h3:(nU t.2 g).length=t.2.ps.length:=by unfold nU;rw[za]
    rw[za,za,zq];omega
   ·have ac:=s4 _ _ ab
    have af:∀{as:List Addr}{xs:List (List V)}{o:HO},lV H4 as xs->lV (upd H4 l o) as xs:=λh=>⟨h.1,λi a e=>let⟨x,e1,e2⟩:=h.2 i a e;⟨x,e1,(iU λc=>by rw[c,ac]at e2;cases e2).trans e2⟩⟩
    have e:(sl.take (i+1)).flatMap (λt=>nU t.2 g)=(sl.take i).flatMap (λt=>nU t.2 g)++nU t.2 g:=by
     rw[zN,ht,List.flatMap_append,show(some t).toList=[t]from rfl,zzu,List.flatMap_nil,z5]
    exact hN _ _ ⟨_,as++aj,rfl,(s3.trans s4).upd ae,(iU (Ne.symm ak)).trans (s4 _ _ h3),λu hu=>⟨((z u hu).1.same s4).but ac (z u hu).2 Tt,(z u hu).2⟩,by rw[iH,zv],by rw[e];exact lV.app (af (aa.same s4)) (af ag)⟩
  ·rintro σ H3 ⟨v3,as,rfl,s3,h3,z,ab,aa⟩
   rw[Hf,z0]at aa;walk_at "a";exact k l as H3 s3 ae ab aa
noncomputable def cst(ls:RL):Int:=((ls.map (·.2)).map jz.c).sum
noncomputable def Ml(k:BkD):List (Key×V):=[(Sum.inr "paid",.int k.paid),(Sum.inr "brought",.int k.brought),(Sum.inr "laid",.int ((k.sl.filter λt=>decide (t.2.lo≠none)).map λt=> -(t.2.pr - t.2.co)).sum),(Sum.inr "sold",.int (k.sl.map λt=>t.2.co).sum),(Sum.inr "given",.int (k.gv.map λt=>cst t.2.2.2).sum),(Sum.inr "left",.int (k.rs.map λt=>cst t.2.2).sum),(Sum.inr "proceeds",.int (k.sl.map λt=>t.2.pr).sum)]
def ake{q z H5:Hp}{r:Addr}{kvs:List (Key×V)}(hr:q r=some (.dK kvs))(o4:∀a o,a≠r->q a=some o->z a=some o)(s:Same z H5):Same q (upd H5 r (.dK kvs)):=λa o h=>by
 by_cases c:a=r
 ·rw[c,hr]at h
  rw[c,iH];exact h
 ·rw[iU c]
  exact s _ _ (o4 _ _ c h)
def ajg{α:Type}{f:α->Int}{rs:List α}{acc:List V}(q:acc.length=rs.length)(h:∀(i:Nat) v,acc[i]? =some v->∃l,rs[i]? =some l/\v=.int (f l)):acc=(rs.map f).map V.int:=by
 refine yX λi=>?_;rw[zd,zd];by_cases hi:i<acc.length
 ·obtain⟨l,h1,h2⟩:=h i _ (zh hi)
  rw[zh hi,h2,h1];rfl
 ·rw[zX (by omega),zX (by omega)]
  rfl
inductive FJ(A:Adr)(vs:List V)(H:Hp)(Q:VK)(E:XK):Prop
 |mk (b:Addr) (k:BkD) (ns:List Int) (_:vs=[.ref b]) (_:jk A H b k) (_:Mq ns mK k.rs) (_:ns.length<=58) (_:k.sl.length<=100) (_:k.gv.length<=100) (_:(∀t∈k.gv,t.2.2.2.length<=58)) (_:∀p H',Same H H'->H p=none->H' p=some (.dK (Ml k))->Q (.ref p) H'):FJ A vs H Q E
def rB(T:Txt K mg A D):jQ P w K mg base CX0 3 A.acs D.acs ["self"] (FJ A):=by
 refine T.aey.okv Ow λ_ _ _ _ H vs Q E hr h=>?_
 ·obtain⟨b,q,ns,rfl,hB,hO,hN,hl,be,ar,k⟩:=h
  refine⟨_,(iG (iY (aiz (uQ jG (fv K 0) (uQ jG (fv K 0) (uQ jG (jt (mO (K:=K) rfl) (by rfl) T.ae8 (by decide+kernel) (iz (jO (cap:=[none]) (N':=["sale"]) rfl (by walk_at "c") (kJ (K:=K) (fv K 0)) (λ_ _ _ _=>(iW (i:=0) nd1 rfl orl orr)) (λ_ _ _ _=>(BL (jl (Nh) (fv K 0) nu (jr _)))) (λ_ _ _ _=>(ajj YJ (lU (pv 0) (mc T.agS T.ahi (pA T) hr (qw T) .nil) jL)))) iD)) (uQ jG (jt (mO (K:=K) rfl) (by rfl) T.ae8 (by decide+kernel) (iz (jO (cap:=[none]) (N':=["sale"]) rfl (by walk_at "c") (kJ (K:=K) (fv K 0)) (λ_ _ _ _=>(iW (i:=0) nd1 rfl orl orr)) (λ_ _ _ _=>jP) (λ_ _ _ _=>(pcg (vg T) hr T.adJ (vW T) (iz (fv K 0) iD)))) iD)) (uQ jG (jt (mO (K:=K) rfl) (by rfl) T.ae8 (by decide+kernel) (iz (jO (cap:=[none,none]) (N':=["number", "lots"]) rfl (by walk_at "c") (kJ (K:=K) (fv K 0)) (λ_ _ _ _=>(nO (K:=K) (n:=2) rfl (jy (iW (i:=0) (show(["number", "lots"]:List Str).Nodup from by decide+kernel) rfl orl orr) (jy (iW (i:=1) (show(["number", "lots"]:List Str).Nodup from by decide+kernel) rfl orl orr) nM)))) (λ_ _ _ _=>jP) (λ_ _ _ _=>(pcg (Er T) hr T.adX (JZ T) (pav 1 iD)))) iD)) (uQ jG (Rx (jt (mO (K:=K) rfl) (by rfl) T.ae8 (by decide+kernel) (iz (jO (cap:=[none]) (N':=["row"]) rfl (by walk_at "c") (WW (Ib (K:=K) yd zze PySem.F.type_dict_values Qk (fv K 0))) (λ_ _ _ _=>(iW (i:=0) nd1 rfl orl orr)) (λ_ _ _ _=>jP) (λ_ _ _ _=>(pcg (Er T) hr T.adX (JZ T) (pav 0 iD)))) iD))) (uQ jG (jt (mO (K:=K) rfl) (by rfl) T.ae8 (by decide+kernel) (iz (jO (cap:=[none]) (N':=["sale"]) rfl (by walk_at "c") (kJ (K:=K) (fv K 0)) (λ_ _ _ _=>(iW (i:=0) nd1 rfl orl orr)) (λ_ _ _ _=>jP) (λ_ _ _ _=>(fv K 0))) iD)) aiN))))))) rfl rfl (List.cons_ne_nil _ _) (Nat.le_of_ble_eq_true rfl)))),?_⟩;walk_at "a";unfold ajO;intro pd ah;simp only[TF];have sd:=iM (o:=.dK []) ah;have hd:(upd H pd (.dK [])) pd=some (.dK []):=iH;obtain⟨H1,e1⟩:∃H1,H1=upd H pd (HO.dK []):=⟨_,rfl⟩;rw[<-e1]at sd hd⊢;clear e1;have ab:=hB.same sd;have hC:=Du T hB;obtain⟨dx,hb⟩:=ab.i;walk_at "i";refine rd hb hC.c hC.p (by rfl) (rd hb hC.c hC.b (by rfl) (rd hb hC.c hC.s (by rfl) ⟨q.sales,rfl,⟨_,iQ ab.s⟩,?_⟩));refine Zn (f:=λt:Addr×jR=>V.ref t.1) (λσ=>∃a,σ=[a]) (λt=>decide (t.2.lo≠none)) (λ_ t v _=>v=.int (-(t.2.pr - t.2.co))) (iQ ab.s) ⟨_,rfl⟩ (by omega) ?_ ?_
  ·rintro Da t ht σ H5 R1 R2 ⟨_,rfl⟩ sm hD hA k1 k2
   have hS:=(ab.frz.s t ht).same sm;obtain⟨dt,hi⟩:=hS.i;walk_at "i";refine rd hi T.agS T.agY (v:=loV t.2.lo) (by rfl) (?_)
   cases e:t.2.lo with
   |none=>
    rw[e]at k2;exact k2 (by decide) _ _ ⟨_,rfl⟩ (same_refl _)
   |some i=>
    rw[e]at k1;exact md hi zj (by rfl) ⟨t.1,t.2,rfl,hS,λH7 s7=>⟨_,rfl,k1 (zE λc=>by cases c) _ _ _ ⟨_,rfl⟩ s7 λ_ _=>rfl⟩⟩
  intro D2 H2 ay bc s2 h2 an;rw[vN.ints an]at h2;rw[ap_rSum];refine⟨_,iQ h2,?_⟩;have af:=ab.same s2;refine rd (s2 _ _ hb) hC.c hC.s (by rfl) ⟨q.sales,rfl,⟨_,iQ af.s⟩,?_⟩;refine Mx (f:=λt:Addr×jR=>V.ref t.1) (λσ=>∃a,σ=[a]) (λ_ t v _=>v=.int t.2.co) (iQ af.s) ⟨_,rfl⟩ (by omega) ?_ ?_
  ·rintro Da t ht σ H5 R ⟨_,rfl⟩ sm hD hA kk
   have hS:=(af.frz.s t ht).same sm;obtain⟨dt,hi⟩:=hS.i;walk_at "i";exact rd hi T.agS T.agX (by rfl) ⟨t.2.pl,t.2.ps,rfl,hS.p,hS.t,hS.l,λH7 s7=>kk _ _ _ ⟨_,rfl⟩ s7 λ_ _=>rfl⟩
  intro D3 H3 az bg s3 h3 av;rw[vN.ints av]at h3;rw[ap_rSum];refine⟨_,iQ h3,?_⟩;have ae:=af.same s3;have ai:=s2.trans s3;refine rd (ai _ _ hb) hC.c hC.g (by rfl) ⟨q.givs,rfl,⟨_,iQ ae.g⟩,?_⟩;refine Mx (f:=λt:Addr×Int×Addr×RL=>V.ref t.1) (λσ=>∃a b,σ=[a,b]) (λ_ t v _=>v=.int (cst t.2.2.2)) (iQ ae.g) ⟨_,_,rfl⟩ (by omega) ?_ ?_
  ·rintro Da t ht σ H5 R ⟨_,_,rfl⟩ sm hD hA kk
   obtain⟨g1,g2,g3⟩:=ae.frz.g t ht;walk_at "i";exact⟨_,jD (sm _ _ g1),rfl,_,_,rfl,_,_,rfl,rfl,t.2.2.1,t.2.2.2,rfl,sm _ _ g2,g3.same sm,by have:=ar t ht;omega,λH7 s7=>kk _ _ _ ⟨_,_,rfl⟩ s7 λ_ _=>rfl⟩
  intro D4 H4 ax bf s4 h4 aq;rw[vN.ints aq]at h4;rw[ap_rSum];refine⟨_,iQ h4,?_⟩;have z:=ae.same s4;have ag:=ai.trans s4;refine rd (ag _ _ hb) hC.c hC.r (v:=.ref q.rows) (by rfl) ⟨.inr (.inr (.inl ⟨rfl,.inl ⟨_,z.r⟩⟩)),?_⟩;refine⟨_,_,rfl,rfl,z.r,λv hv=>⟨v,rfl,q.rows,iH,kvR q.rs,(iU (jN z.r hv)).trans z.r,λo=>?_⟩⟩;have h5:(upd (upd H4 v (xF v q.rows)) q.rows (.frz o (.dK (kvR q.rs)))) q.rows=some (.frz o (.dK (kvR q.rs))):=iH;have o5:∀a o',a≠q.rows->H4 a=some o'->(upd (upd H4 v (xF v q.rows)) q.rows (.frz o (.dK (kvR q.rs)))) a=some o':=λa o' au h=>(iU au).trans (iM hv _ _ h);generalize upd (upd H4 v (xF v q.rows)) q.rows (.frz o (.dK (kvR q.rs)))=H5 at h5 o5⊢
  have aj:LC A H5 q.rs:=λt ht=>⟨o5 _ _ (z.ner (z.frz.l t ht).1 λ_ c=>by cases c) (z.frz.l t ht).1,λl hl=>by
   obtain⟨dy,hy⟩:=(z.frz.l t ht).2 l hl;exact⟨dy,o5 _ _ (z.ner hy λ_ c=>by cases c) hy⟩⟩
  have am:(kvR q.rs).length=q.rs.length:=by unfold kvR;rw[za]
  have hz:q.rs.length<=3:=hO.len;refine aav (λσ=>∃a,σ=[a]) (λi v _=>∃t,q.rs[i]? =some t/\v=.int (cst t.2.2)) h5 ⟨_,rfl⟩ (by rw[am,zq];omega) ?_ ?_
  ·rintro Da i kv aa σ H6 R ⟨_,rfl⟩ s6 hD hA kk
   obtain ⟨t,ak,rfl⟩:∃t,q.rs[i]? =some t/\kv=(Sum.inr t.1,.ref t.2.1):=by
    unfold kvR at aa;rw[zd]at aa
    cases e:q.rs[i]? with
    |none=>rw[e]at aa;cases aa
    |some t=>rw[e]at aa;exact⟨t,rfl,(zw aa).symm⟩
   have ht:=zm ak;walk_at "i";exact⟨t.2.1,t.2.2,rfl,s6 _ _ (aj t ht).1,(aj t ht).2.same s6,by have:=(hO.n t ht).2.len;omega,λH7 s7=>kk _ _ _ ⟨_,rfl⟩ s7 λ_ _=>⟨t,ak,rfl⟩⟩
  ·intro D5 H7 ba bb s7 h7 ao ap
   rw[ajg (f:=λt:Str×Addr×RL=>cst t.2.2) (rs:=q.rs) (by rw[ao,am]) ap]at h7;rw[ap_rSum];refine⟨_,iQ h7,q.rows,o,kvR q.rs,s7 _ _ h5,λo u e=>?_,?_⟩
   ·have e:H q.rows=some (.frz o u):=e
    rw[hB.r]at e;cases e
   have ad:=ake z.r o5 s7;have ac:=z.same ad;generalize upd H7 q.rows (.dK (kvR q.rs))=H8 at ad ac⊢;refine rd ((ag.trans ad) _ _ hb) hC.c hC.s (by rfl) ⟨q.sales,rfl,⟨_,iQ ac.s⟩,?_⟩;refine Mx (f:=λt:Addr×jR=>V.ref t.1) (λσ=>∃a,σ=[a]) (λ_ t v _=>v=.int t.2.pr) (iQ ac.s) ⟨_,rfl⟩ (by omega) ?_ ?_
   ·rintro Da t ht σ H5 R ⟨_,rfl⟩ sm hD hA kk
    obtain⟨dt,hi⟩:=((ac.frz.s t ht).same sm).i;walk_at "i";exact rd hi T.agS T.agW (by rfl) (kk _ _ _ ⟨_,rfl⟩ (same_refl _) λ_ _=>rfl)
   intro D9 H9 aw bd s9 h9 as;rw[vN.ints as]at h9;rw[ap_rSum];have al:=ag.trans (ad.trans s9);refine⟨_,iQ h9,al _ _ hd,Ml q,rfl,(show(7:Nat)<=15 by decide),?_⟩
   have hm:Lq [] (Ml q)=Ml q:=by
    have:=Ng (Ml q) [] (by show([Sum.inr "paid",Sum.inr "brought",Sum.inr "laid",Sum.inr "sold",Sum.inr "given",Sum.inr "left",Sum.inr "proceeds"]:List Key).Nodup;decide+kernel);exact this
   rw[hm];exact k pd _ (λa o h=>(iU (jN h ah)).trans (al _ _ (sd _ _ h))) ah iH
def Ek{e:Int}(h1:0<=e)(h2:e<=1000000):alE 10 e:=⟨h1,h2,by decide⟩
structure Dg(B H:Hp)(l:Addr)(c:Int):Prop where
 s:But l B H
 n:∃c0,B l=some (.lst [.int c0])
 h:H l=some (.lst [.int c])
def Dg.of{H:Hp}{l:Addr}{c:Int}(h:H l=some (.lst [.int c])):Dg H H l c:=⟨λ_ _ _ e=>e,⟨c,h⟩,h⟩
def Dg.trans{B H H':Hp}{l:Addr}{c q:Int}(h:Dg B H l c)(g:Dg H H' l q):Dg B H' l q:=⟨λb o n e=>g.s b o n (h.s b o n e),h.n,g.h⟩
def Dg.same{B H H':Hp}{l:Addr}{c:Int}(h:Dg B H l c)(s:Same H H'):Dg B H' l c:=⟨λb o n e=>s _ _ (h.s b o n e),h.n,s _ _ h.h⟩
def Dg.put{B H:Hp}{l:Addr}{c:Int}(h:Dg B H l c)(q:Int):Dg B (upd H l (.lst [.int q])) l q:=⟨λb o n e=>(iU n).trans (h.s b o n e),h.n,iH⟩
def Dg.t{B H:Hp}{l b:Addr}{c:Int}{xs:List V}(h:Dg B H l c)(e:B b=some (.tup xs)):H b=some (.tup xs):=h.s b _ (λz=>by obtain⟨q,g⟩:=h.n;rw[z,g]at e;cases e) e
def Dg.d{B H:Hp}{l b:Addr}{c:Int}{xs:List (Key×V)}(h:Dg B H l c)(e:B b=some (.dK xs)):H b=some (.dK xs):=h.s b _ (λz=>by obtain⟨q,g⟩:=h.n;rw[z,g]at e;cases e) e
def Dg.off{q B H:Hp}{l:Addr}{c:Int}(h:Dg B H l c)(s:Same q B)(n:q l=none):Same q H:=λb o e=>h.s b o (λz=>by rw[z,n]at e;cases e) (s _ _ e)
def Xu{i j:Int}(q:0<j)(h1:j<10^30):Qa i j:=by
 refine⟨q,?_⟩;have:j.natAbs<2^100:=by omega
 exact zG this (yI (by decide) (by decide))
inductive rJ(vs:List V)(H:Hp)(Q:VK)(E:XK):Prop
 |mk (l:Addr) (c m:Int) (_:vs=[.ref l,.int m]) (_:H l=some (.lst [.int c])) (_:0<m) (_:m<10^30) (_:∀H',Dg H H' l (c/m)->Q (.int (c%m)) H'):rJ vs H Q E
def jq(T:Txt K mg A D):jQ P w K mg base CX0 1 A.acy D.acy ["_law_digits", "_law_many"] rJ:=by
 refine T.aeE.F.okv Fz λ_ _ _ _ H vs Q E hr h=>?_
 ·obtain⟨l,c,m,rfl,q,z,h1,k⟩:=h
  refine ⟨_,(iB (ji (i:=2) Fz.nd rfl orl (ju um (jF (mC (K:=K)) (pvD 0) iJ (λ_ _=>rfl)) (pvD 1)))
   (iB (Yw (ju rK (jF (mC (K:=K)) (pvD 0) iJ (λ_ _=>rfl)) (pvD 1)) (ajZ (pvD 0) iJ set_list))
   (iG (iY (pvD 2))))),?_⟩
  simp only[start_eq];walk_at "m";refine⟨_,iQ q,_,rfl,_,rfl,z,?_⟩;walk_at "m";refine⟨_,iQ q,_,rfl,_,rfl,Xu z h1,?_⟩;unfold amk;walk_at "i";exact⟨l,_,0,0,rfl,rfl,q,rfl,k _ ⟨λb o n e=>(iU n).trans e,⟨c,q⟩,iH⟩⟩
inductive Cm(vs:List V)(H:Hp)(Q:VK)(E:XK):Prop
 |mk (c k:Int) (_:vs=[.int c,.int k]) (_:0<=k) (_:k<=1000) (_:∀r:Int,Q (.int r) H):Cm vs H Q E
def Mr(T:Txt K mg A D):jQ P w K mg base CX0 1 A.acw D.acw ["_law_cell", "_law_k"] Cm:=by
 refine T.aeC.F.okv mY λ_ _ _ _ H vs Q E hr h=>?_
 ·obtain⟨c,k',rfl,aa,hk,k⟩:=h
  refine ⟨_,(iB (ji (i:=2) mY.nd rfl orl iJ)
   (iB (oE zQ rfl (IV (by rfl) T.afd (iz iJ iD)) (iW (i:=3) mY.nd rfl orl)
    (iB (ji (i:=4) mY.nd rfl orl (ju um (ju mH (ju kE (ju kE (ju kE (ju um (pvD 0) (ju uo iJ iJ)) (ju mH iJ (pvD 1))) (ju mH iJ (pvD 3))) iJ) iJ) iJ))
    (iB (ji (i:=4) mY.nd rfl orl (ju um (ju mH (ju kE (ju kE (pvD 4) (ju mH iJ (pvD 3))) (pvD 1)) iJ) iJ))
    (iG (ji (i:=2) mY.nd rfl orl (ju kE (ju mH (pvD 2) iJ) (pvD 4)))))))
   (iG (iY (pvD 2))))),?_⟩
  simp only[start_eq];walk_at "m";rw[ap_seq,ap_for];walk_at "i";refine⟨by decide,by decide,?_⟩;refine Gg.range (lo:=0) (n:=8) (λi σ H2=>H2=H/\∃(n:Int)(q z:Option V),σ=[some (.int c),some (.int k'),some (.int n),q,z]) ⟨rfl,0,_,_,rfl⟩ ?_ ?_
  ·rintro i σ H2 hi ⟨rfl,n,q,z,rfl⟩
   walk_at "i";walk_at "m";refine⟨Ek (by decide) (by decide),by decide,Pz (by decide) (by decide),Pz (by decide) (by decide),vd (by decide) (by decide),by decide,?_⟩;walk_at "m";refine⟨Pz (by decide) (by decide),vd (by decide) (by decide),by decide,?_⟩;exact vd (by decide) (by decide)
  ·rintro σ H2 ⟨rfl,n,q,z,rfl⟩
   walk_at "a";exact k n
inductive ph(vs:List V)(H:Hp)(Q:VK)(E:XK):Prop
 |mk (l:Addr) (c:Int) (_:vs=[.ref l]) (_:H l=some (.lst [.int c])) (_:∀v c' H',Dg H H' l c'->Rg 1 1000000 v->Q (.int v) H'):ph vs H Q E
def Ar(T:Txt K mg A D):jQ P w K mg base CX0 2 A.acD D.acD ["_law_digits"] ph:=by
 refine T.aeJ.F.okv KN λ_ _ _ _ H vs Q E hr h=>?_
 ·obtain⟨l,c,rfl,hl,k⟩:=h
  refine⟨_,(iG (iY (ju kE iJ (pcg (jq T) hr T.aeE (jw T) (pav 0 (iz (jF (mC (K:=K)) (kW (iz iJ (iz iJ (iz (ju uo iJ iJ) iD)))) (pcg (jq T) hr T.aeE (jw T) (pav 0 (iz iJ iD))) (λ_ _=>rfl)) iD)))))),?_⟩;simp only[start_eq];walk_at "i";refine⟨Ek (by decide) (by decide),sz,λp hp=>?_⟩;have z:p≠l:=λe=>by rw[e,hl]at hp;cases hp
  refine⟨l,c,3,rfl,(iU (Ne.symm z)).trans hl,by decide,by decide,λH1 D1=>?_⟩;obtain⟨v,hv,q⟩:=at3 (i:=c%3) (a:=9) (b:=500) (c:=1000000) (lo:=1) (hi:=1000000) (z6 _ (by decide)) (zY _ (by decide)) ⟨by decide,by decide⟩ ⟨by decide,by decide⟩ ⟨by decide,by decide⟩;refine⟨_,_,rfl,iQ (D1.s _ _ z iH),_,hv,l,_,v,rfl,D1.h,by have:=q.1;omega,by have:=q.2;omega,λH2 D2=>⟨_,rfl,k _ _ _ ⟨λb o n e=>(D1.trans D2).s b o n (iM hp _ _ e),⟨c,hl⟩,D2.h⟩ ?_⟩⟩;have h1:=z6 (c/3) (show v≠0 by have:=q.1;omega);have h2:=zY (c/3) (show 0<v by have:=q.1;omega);exact⟨by omega,by have:=q.2;omega⟩
inductive uL(vs:List V)(H:Hp)(Q:VK)(E:XK):Prop
 |mk (l:Addr) (c:Int) (_:vs=[.ref l]) (_:H l=some (.lst [.int c])) (_:∀v c' H',Dg H H' l c'->Rg 0 1000000000 v->Q (.int v) H'):uL vs H Q E
def CG(T:Txt K mg A D):jQ P w K mg base CX0 2 A.acC D.acC ["_law_digits"] uL:=by
 refine T.aeI.F.okv Mj λ_ _ _ _ H vs Q E hr h=>?_
 ·obtain⟨l,c,rfl,hl,k⟩:=h
  refine⟨_,(iG (iY (pcg (jq T) hr T.aeE (jw T) (pav 0 (iz (jF (mC (K:=K)) (kW (iz iJ (iz iJ (iz (ju kE (ju uo iJ iJ) iJ) iD)))) (pcg (jq T) hr T.aeE (jw T) (pav 0 (iz iJ iD))) (λ_ _=>rfl)) iD))))),?_⟩;simp only[start_eq];walk_at "i";refine⟨Ek (by decide) (by decide),sz,λp hp=>?_⟩;have z:p≠l:=λe=>by rw[e,hl]at hp;cases hp
  refine⟨l,c,3,rfl,(iU (Ne.symm z)).trans hl,by decide,by decide,λH1 D1=>?_⟩;obtain⟨v,hv,q⟩:=at3 (i:=c%3) (a:=10) (b:=100) (c:=1000000001) (lo:=1) (hi:=1000000001) (z6 _ (by decide)) (zY _ (by decide)) ⟨by decide,by decide⟩ ⟨by decide,by decide⟩ ⟨by decide,by decide⟩;refine⟨_,_,rfl,iQ (D1.s _ _ z iH),_,hv,l,_,v,rfl,D1.h,by have:=q.1;omega,by have:=q.2;omega,λH2 D2=>k _ _ _ ⟨λb o n e=>(D1.trans D2).s b o n (iM hp _ _ e),⟨c,hl⟩,D2.h⟩ ?_⟩;have h1:=z6 (c/3) (show v≠0 by have:=q.1;omega);have h2:=zY (c/3) (show 0<v by have:=q.1;omega);exact⟨by omega,by have:=q.2;omega⟩
inductive Fp(vs:List V)(H:Hp)(Q:VK)(E:XK):Prop
 |mk (l:Addr) (c h:Int) (_:vs=[.ref l,.int h]) (_:H l=some (.lst [.int c])) (_:Rg 1 1000000000 h) (_:∀v c' H',Dg H H' l c'->Rg 1 h v->Q (.int v) H'):Fp vs H Q E
def Ft(T:Txt K mg A D):jQ P w K mg base CX0 2 A.acB D.acB ["_law_digits", "_law_here"] Fp:=by
 refine T.aeH.F.okv PX λ_ _ _ _ H vs Q E hr h=>?_
 ·obtain⟨l,c,h,rfl,hl,z,k⟩:=h
  refine ⟨_,(iB (jX (jl (mW) (pcg (jq T) hr T.aeE (jw T) (pav 0 (iz iJ iD))) iJ (jr _)) (iG (iY (pvD 1))) jx)
   (iG (iY (ju kE iJ (pcg (jq T) hr T.aeE (jw T) (pav 0 (pav 1 iD))))))),?_⟩
  simp only[start_eq];walk_at "m";unfold Rg at z;refine⟨l,c,3,rfl,hl,by decide,by decide,λH1 q=>⟨rfl,?_⟩⟩;split
  ·exact k _ _ _ q ⟨z.1,zzT _⟩
  ·refine⟨l,_,h,rfl,q.h,by omega,by omega,λH2 D2=>⟨_,rfl,k _ _ _ (q.trans D2) ?_⟩⟩
   have h1:=z6 (c/3) (show h≠0 by omega);have h2:=zY (c/3) (show 0<h by omega);exact⟨by omega,by omega⟩
inductive uw(vs:List V)(H:Hp)(Q:VK)(E:XK):Prop
 |mk (l:Addr) (c d n h:Int) (w:Str) (_:vs=[.int d,.int n,.str w,.ref l,.int h]) (_:H l=some (.lst [.int c])) (_:Rg 0 1000000000 h) (_:∀t m f H',But l H H'->H' t=some (.tup [.str "split",.int d,.int n,.str w,.int m,.int f])->Rg 1 1000 m->Rg 1 1000 f->(h=0\/1<=h*m/f)->Q (.ref t) H'):uw vs H Q E
def DG(T:Txt K mg A D):jQ P w K mg base CX0 2 A.acz D.acz ["_law_day", "_law_number", "_law_ware", "_law_digits", "_law_here"] uw:=by
 refine T.aeF.F.okv oM λ_ _ _ _ H vs Q E hr h=>?_
 ·obtain⟨l,c,d,n,h,w,rfl,hl,hh,k⟩:=h
  refine ⟨_,(iB (ji (i:=5) oM.nd rfl orl (ju kE iJ (pcg (jq T) hr T.aeE (jw T) (pav 3 (iz iJ iD)))))
   (iB (ji (i:=6) oM.nd rfl orl (ju kE iJ (pcg (jq T) hr T.aeE (jw T) (pav 3 (iz iJ iD)))))
   (iB (jX (PW.pt (Ey (jl (Ke) (ju rK (ju mH (pvD 4) (pvD 5)) (pvD 6)) (ju uo iJ iJ) (jr _)) (Ag (PW.pt (Qi (jl (Ke) (pvD 4) iJ (jr _)) (Iw (jl (mW) (ju rK (ju mH (pvD 4) (pvD 5)) (pvD 6)) iJ (jr _)))))))) (iG (iY (lY (iz jG (pav 0 (pav 1 (pav 2 (iz iJ (iz iJ iD))))))))) jx)
   (iG (iY (lY (iz jG (pav 0 (pav 1 (pav 2 (pav 5 (pav 6 iD)))))))))))),?_⟩
  simp only[start_eq];walk_at "m";refine⟨l,c,10,rfl,hl,by decide,by decide,λH1 D1=>⟨_,rfl,?_⟩⟩;walk_at "m";refine⟨l,_,10,rfl,D1.h,by decide,by decide,λH2 D2=>⟨_,rfl,?_⟩⟩;have b1:=vp (x:=c) (m:=10) (lo:=0) (hi:=9) (by decide) (by decide) (by decide);have b2:=vp (x:=c/10) (m:=10) (lo:=0) (hi:=9) (by decide) (by decide) (by decide);generalize c/10%10=f0 at b2;generalize c%10=m0 at b1;unfold Rg at b1 b2 hh;walk_at "m";have c1:Ab h (1+m0):=Pz (by omega) (by omega);have c2:∀i:Int,Qa i (1+f0):=λi=>Xu (by omega) (by omega);have z:6<=sizeLine:=sz;have out:∀m f:Int,Rg 1 1000 m->Rg 1 1000 f->(h=0\/1<=h*m/f)->∀p,H2 p=none->Q (.ref p) (upd H2 p (.tup [.str (Str.ofString "split"),.int d,.int n,.str w,.int m,.int f])):=λm f hm hf hq p hp=>k p m f _ (λb o n e=>iM hp _ _ ((D1.trans D2).s b o n e)) iH hm hf hq;have q:Rg 1 1000 1:=⟨by decide,by decide⟩;have r2:Rg 1 1000 (1+m0):=⟨by omega,by omega⟩;have r3:Rg 1 1000 (1+f0):=⟨by omega,by omega⟩;have r0:h=0\/1<=h*1/1:=by rw[Int.mul_one,Int.ediv_one];omega
  have r4:0<=h*(1+m0)/(1+f0):=Int.ediv_nonneg (Int.mul_nonneg hh.1 (by omega)) (by omega);refine⟨c1,c2 _,Ek (by decide) (by decide),?_⟩;split
  ·exact⟨z,out 1 1 q q r0⟩
  ·split
   ·refine⟨c1,c2 _,?_⟩
    split
    ·exact⟨z,out 1 1 q q r0⟩
    ·exact⟨z,out _ _ r2 r3 (by omega)⟩
   ·exact⟨z,out _ _ r2 r3 (by omega)⟩
inductive vy(vs:List V)(H:Hp)(Q:VK)(E:XK):Prop
 |mk (l p cd:Addr) (c d n:Int) (w u:Str) (kvs:List (Key×V)) (_:vs=[.int d,.int n,.ref p,.ref l,.ref cd]) (_:H l=some (.lst [.int c])) (_:H p=some (.tup [.str w,.str u])) (_:H cd=some (.dK kvs)) (_:Cnt kvs) (_:((∀t s r H',But l H H'->H' t=some (.tup [.str "part",.int d,.int n,.str w,.str u,.int s,.int r])->Rg 1 1000000 r->Rg 0 r s->Q (.ref t) H')/\∀t H',But l H H'->H' t=some (.tup [.str "split",.int d,.int n,.str w,.int 1,.int 1])->Q (.ref t) H')):vy vs H Q E
def Gj(T:Txt K mg A D):jQ P w K mg base CX0 2 A.acA D.acA ["_law_day", "_law_number", "_law_wares", "_law_digits", "_law_counts"] vy:=by
 refine T.aeG.F.okv mF λ_ _ _ _ H vs Q E hr h=>?_
 ·obtain⟨l,p,cd,c,d,n,w,u,kvs,rfl,hl,hp,ac,hC,k1,k2⟩:=h
  refine ⟨_,(iB (Yw (pvD 2) (nO (K:=K) (n:=2) rfl (jy (iW (i:=5) mF.nd rfl orl) (jy (iW (i:=6) mF.nd rfl orl) nM))))
   (iB (ji (i:=7) mF.nd rfl orl (ju kE iJ (pcg (jq T) hr T.aeE (jw T) (pav 3 (iz (jF (mC (K:=K)) (kW (iz iJ (iz (ju uo iJ iJ) iD))) (pcg (jq T) hr T.aeE (jw T) (pav 3 (iz iJ iD))) (λ_ _=>rfl)) iD)))))
   (iB (ji (i:=8) mF.nd rfl orl (pcg (jq T) hr T.aeE (jw T) (pav 3 (iz (ju kE (pvD 7) iJ) iD))))
   (iB (jX (jl (Ke) (ju kE (pq (uF hr) (pvD 4) (pvD 5) iJ ⟨rfl,rfl,rfl,rfl⟩) (pq (uF hr) (pvD 4) (pvD 6) iJ ⟨rfl,rfl,rfl,rfl⟩)) (ju uo iJ iJ) (jr _)) (iG (iY (lY (iz jG (pav 0 (pav 1 (pav 5 (iz iJ (iz iJ iD))))))))) jx)
   (iG (iY (lY (iz jG (pav 0 (pav 1 (pav 5 (pav 6 (pav 8 (pav 7 iD)))))))))))))),?_⟩
  simp only[start_eq];walk_at "m";refine⟨_,jD hp,rfl,_,_,rfl,_,_,rfl,rfl,?_⟩;walk_at "m";refine⟨Ek (by decide) (by decide),sz,λq hq=>?_⟩;have aa:q≠l:=λe=>by rw[e,hl]at hq;cases hq
  refine⟨l,c,2,rfl,(iU (Ne.symm aa)).trans hl,by decide,by decide,λH1 D1=>?_⟩
  obtain ⟨v,hv,bv⟩:∃v,atI [V.int 9,V.int (10^(6:Int).toNat)] (c%2)=some (.int v)/\Rg 1 1000000 v:=by
   rcases(show c%2=0\/c%2=1 by omega)with e|e<;>rw[e]
   ·exact⟨9,rfl,by decide,by decide⟩
   ·exact⟨1000000,rfl,by decide,by decide⟩
  unfold Rg at bv;refine⟨_,_,rfl,iQ (D1.s _ _ aa iH),_,hv,l,_,v,rfl,D1.h,by omega,by omega,λH2 D2=>⟨_,rfl,?_⟩⟩;have D0:Dg H (upd H q (.lst [V.int 9,V.int (10^(6:Int).toNat)])) l c:=(Dg.of hl).same (iM hq);have D2:=D0.trans (D1.trans D2);have b1:=z6 (c/2) (show v≠0 by omega);have b2:=zY (c/2) (show 0<v by omega);obtain⟨r,ab⟩:∃r,r=1+c/2%v:=⟨_,rfl⟩;rw[<-ab];have br:Rg 1 1000000 r:=⟨by omega,by omega⟩;walk_at "m";refine⟨l,_,r+1,rfl,D2.h,by omega,by omega,λH3 D3=>?_⟩;have D3:=D2.trans D3;have s1:=z6 (c/2/v) (show r+1≠0 by omega);have s2:=zY (c/2/v) (show 0<r+1 by omega);generalize c/2/v%(r+1)=sh at s1 s2;obtain⟨g1,ad⟩:=hC.get w;obtain⟨g2,ae⟩:=hC.get u;walk_at "m";have z:=D3.d ac;refine⟨.inl ⟨kvs,.inl z⟩,_,Ln (k:=Sum.inr w) z,.inl ⟨kvs,.inl z⟩,_,Ln (k:=Sum.inr u) z,?_⟩;rw[g1,g2];walk_at "i";have bt:∀{p:Addr}{u:HO},H3 p=none->But l H (upd H3 p u):=λhp b o n e=>iM hp _ _ (D3.s b o n e);refine⟨Ek (by decide) (by decide),?_⟩;split
  ·exact⟨sz,λp hp=>k2 p _ (bt hp) iH⟩
  ·exact⟨sz,λp hp=>k1 p sh r _ (bt hp) iH br ⟨s1,by omega⟩⟩
def Qh:∀w∈mK,Nm w:=by
 unfold Nm;decide+kernel
def ZP:mK.Nodup:=by decide+kernel
inductive JH(vs:List V)(H:Hp)(Q:VK)(E:XK):Prop
 |mk (r cd:Addr) (d n kd ix rest:Int) (kvs:List (Key×V)) (_:vs=[.ref r,.ref cd,.bl true]) (_:H r=some (.tup [.int d,.int n,.int kd,.int ix,.int rest])) (_:H cd=some (.dK kvs)) (_:Cnt kvs) (_:(∀z,jJ kvs z<=1000000000)) (_:Rg 0 1000000 d) (_:Rg 0 1000000 n) (_:Rg 0 7 kd) (_:Rg 0 2 ix) (_:∀(t:Addr)(e:Ent)(H':Hp),Same H H'->H' t=some (.tup (.str e.word::e.args .non))->(e.good/\e.lots=none/\e.ware∈mK/\e.oth∈mK)->e.day=d->e.num=n->ajq (jJ kvs) e->Q (.ref t) H'):JH vs H Q E
def Ra(T:Txt K mg A D):jQ P w K mg base CX0 3 A.acE D.acE ["_law_raw_here", "_law_counts", "_law_giving"] JH:=by
 refine T.aeK.F.okv kO λ_ _ _ _ H vs Q E hr h=>?_
 ·obtain⟨r,cd,d,n,kd,ix,rest,kvs,rfl,as,ba,hC,hM,bd,bn,bk,bi,k⟩:=h
  refine ⟨_,(iB (Yw (pvD 0) (nO (K:=K) (n:=5) rfl (jy (iW (i:=3) kO.nd rfl orl) (jy (iW (i:=4) kO.nd rfl orl) (jy (iW (i:=5) kO.nd rfl orl) (jy (iW (i:=6) kO.nd rfl orl) (jy (iW (i:=7) kO.nd rfl orl) nM)))))))
   (iB (ji (i:=8) kO.nd rfl orl (kW (pav 7 iD)))
   (iB (ji (i:=9) kO.nd rfl orl (kW (iz jG (iz jG (iz jG iD)))))
   (iB (ji (i:=10) kO.nd rfl orl (jF (mC (K:=K)) (pvD 9) (pvD 6) (λ_ _=>rfl)))
   (iB (ji (i:=11) kO.nd rfl orl (pq (uF hr) (pvD 1) (pvD 10) iJ ⟨rfl,rfl,rfl,rfl⟩))
   (iB (jX (jl (mW) (pvD 5) iJ (jr _)) (iG (iY (pcg (DG T) hr T.aeF (FT T) (pav 3 (pav 4 (pav 10 (pav 8 (pav 11 iD)))))))) jx)
   (iB (jX (jl (mW) (pvD 5) iJ (jr _)) (iB (ji (i:=12) kO.nd rfl orl (jF (mC (K:=K)) (pvD 9) (ju um (ju kE (ju kE (pvD 6) iJ) (pcg (jq T) hr T.aeE (jw T) (pav 8 (iz iJ iD)))) iJ) (λ_ _=>rfl)))
    (iG (iY (pcg (Gj T) hr T.aeG (Jk T) (pav 3 (pav 4 (iz (lY (pav 10 (pav 12 iD))) (pav 8 (pav 1 iD))))))))) jx)
   (iB (jX (PW.pt (Qi (jl (mW) (pvD 5) iJ (jr _)) (Iw (PW.pt (Ey (jl (mW) (pvD 11) iJ (jr _)) (Ey (Ae (nD (pvD 2))) (Ag (jl (mW) (pcg (jq T) hr T.aeE (jw T) (pav 8 (iz iJ iD))) iJ (jr _))))))))) (iB (ji (i:=13) kO.nd rfl orl (jF (mC (K:=K)) (kW (iz (pcg (jq T) hr T.aeE (jw T) (pav 8 (iz iJ iD))) (iz (pcg (jq T) hr T.aeE (jw T) (pav 8 (iz (ju uo iJ iJ) iD))) iD))) (pcg (jq T) hr T.aeE (jw T) (pav 8 (iz iJ iD))) (λ_ _=>rfl)))
    (iG (iY (lY (iz jG (pav 3 (pav 4 (pav 10 (iz (pcg (Ar T) hr T.aeJ (Dl T) (pav 8 iD)) (pav 13 (iz (pcg (jq T) hr T.aeE (jw T) (pav 8 (iz (ju kE (pvD 3) iJ) iD))) iD))))))))))) jx)
   (iB (jX (jl (mW) (pvD 5) iJ (jr _)) (iG (iY (lY (iz jG (pav 3 (pav 4 (pav 10 (iz (pcg (Ft T) hr T.aeH (HD T) (pav 8 (pav 11 iD))) (iz nu iD))))))))) jx)
   (iB (jX (PW.pt (Ey (jl (Qz) (pvD 5) iJ (jr _)) (Ag (jl (mW) (pvD 11) iJ (jr _))))) (iG (iY (lY (iz jG (pav 3 (pav 4 (pav 10 (iz (pcg (Ar T) hr T.aeJ (Dl T) (pav 8 iD)) (iz (pcg (CG T) hr T.aeI (Fw T) (pav 8 iD)) (iz (pcg (jq T) hr T.aeE (jw T) (pav 8 (iz iJ iD))) iD)))))))))) jx)
   (iG (iY (lY (iz jG (pav 3 (pav 4 (pav 10 (iz (pcg (Ft T) hr T.aeH (HD T) (pav 8 (pav 11 iD))) (iz (pcg (CG T) hr T.aeI (Fw T) (pav 8 iD)) (iz (pcg (jq T) hr T.aeE (jw T) (pav 8 (iz iJ iD))) (iz nu iD))))))))))))))))))))),?_⟩
  unfold Rg at bd bn bk bi;simp only[start_eq];walk_at "n";refine⟨_,jD as,rfl,_,_,rfl,_,_,rfl,_,_,rfl,_,_,rfl,_,_,rfl,rfl,?_⟩;walk_at "n";refine⟨sz,λl hl=>?_⟩;have s1:=iM (o:=.lst [.int rest]) hl;have h1:(upd H l (.lst [.int rest])) l=some (.lst [.int rest]):=iH;generalize upd H l (.lst [.int rest])=H1 at s1 h1;walk_at "n";refine⟨sz,λwa ao=>?_⟩;have s2:=iM (o:=.lst [.str (Str.ofString "tin"),.str (Str.ofString "ore"),.str (Str.ofString "abcdefgh")]) ao;have h2:(upd H1 wa (.lst [.str (Str.ofString "tin"),.str (Str.ofString "ore"),.str (Str.ofString "abcdefgh")])) wa=some (.lst (mK.map V.str)):=iH;generalize upd H1 wa (.lst [.str (Str.ofString "tin"),.str (Str.ofString "ore"),.str (Str.ofString "abcdefgh")])=H2 at s2 h2;obtain⟨w,az,an⟩:=Wt (ws:=mK) (i:=ix) bi.1 (by show ix<3;omega);have q:=zm an;have av:Nm w:=Qh w q;walk_at "n";refine⟨_,iQ h2,_,az,?_⟩;have S2:=s1.trans s2;have ad:=S2 _ _ ba;obtain⟨hg,ai⟩:=hC.get w;have af:=hM w;walk_at "n";refine⟨.inl ⟨kvs,.inl ad⟩,_,Ln (k:=Sum.inr w) ad,?_⟩;rw[hg];have ac:=s2 _ _ h1;have ar:wa≠l:=λe=>by rw[e,ac]at h2;cases h2
  have ak:=ai;generalize aj:jJ kvs w=th at hg ai af;walk_at "n";have hB:Base d n w:=⟨bd.1,bd.2,bn.1,bn.2,av⟩;have ab:∀{X:Hp},But l H2 X->Same H X:=λb x o e=>b x o (λz=>by rw[z,hl]at e;cases e) (S2 _ _ e);by_cases h6:kd=6
  ·rw[zo h6]
   exact⟨l,rest,d,n,th,w,rfl,ac,⟨ai,af⟩,λt m f H' b ht hm hf hq=>k t (.split d n w m f) H' (ab b) ht ⟨⟨hB,hm,hf⟩,rfl,q,q⟩ rfl rfl (by show jJ kvs w=0\/_;rw[aj];exact hq)⟩
  rw[ze h6];walk_at "n";by_cases h7:kd=7
  ·rw[zo h7]
   walk_at "n";refine⟨l,rest,2,rfl,ac,by decide,by decide,λH3 D3=>?_⟩;have b3:0<=rest%2/\rest%2<2:=by omega
   generalize rest%2=q3 at b3;have aq:0<=(ix+1+q3)%3:=z6 _ (by decide);have bb:(ix+1+q3)%3<3:=zY _ (by decide);obtain⟨u,au,ah⟩:=Wt (ws:=mK) (i:=(ix+1+q3)%3) aq bb;have ap:Nm u:=Qh u (zm ah);have be:u≠w:=aiK ZP ah an λe=>aai (L:=3) bi.1 (by omega) b3.1 (by omega) (by omega);refine⟨_,rfl,by decide,_,iQ (D3.s _ _ ar h2),_,au,?_⟩;rw[ap_ret];walk_at "i";refine⟨sz,λp hp=>?_⟩;have ae:l≠p:=λe=>by rw[<-e,D3.h]at hp;cases hp
   have D4:=D3.same (iM (o:=.tup [V.str w,V.str u]) hp)
   exact ⟨l,p,cd,_,d,n,w,u,kvs,rfl,D4.h,iH,D4.d ad,hC,λt s r H' b ht hr hs=>k t (.part d n w u s r) H' (ab (λx o nn e=>b x o nn (D4.s x o nn e))) ht ⟨⟨hB,ap,be,hr,hs⟩,rfl,q,zm ah⟩ rfl rfl trivial,
    λt H' b ht=>k t (.split d n w 1 1) H' (ab (λx o nn e=>b x o nn (D4.s x o nn e))) ht ⟨⟨hB,⟨by decide,by decide⟩,⟨by decide,by decide⟩⟩,rfl,q,q⟩ rfl rfl (by show jJ kvs w=0\/1<=jJ kvs w*1/1;rw[Int.mul_one,Int.ediv_one];omega)⟩
  rw[ze h7]
  have ag:∀(H6:Hp)(c6:Int),Dg H2 H6 l c6->∀(aa:Int),Rg 0 1000000000000000 aa->ph [V.ref l] H6 (λx H1=>rJ [V.ref l,V.int (d+1)] H1 (λy H1=>7<=sizeLine/\∀p,H1 p=none->Q (V.ref p) (upd H1 p (HO.tup [V.str (Str.ofString "gift"),V.int d,V.int n,V.str w,x,V.int aa,y]))) E0) E0:=λH6 c6 D6 aa bc=>
   ⟨l,c6,rfl,D6.h,λv c7 H7 D7 bv=>⟨l,c7,d+1,rfl,D7.h,by omega,by omega,λH8 D8=>⟨sz,λp hp=>by
    unfold Rg at bc bv;have z1:=z6 c7 (show d+1≠0 by omega);have z2:=zY c7 (show 0<d+1 by omega);have D:=((D6.trans D7).trans D8).same (iM (o:=.tup [V.str (Str.ofString "gift"),V.int d,V.int n,V.str w,V.int v,V.int aa,V.int (c7%(d+1))]) hp);exact k p (.gift d n w v aa (c7%(d+1))) _ (ab D.s) iH ⟨⟨hB,⟨by omega,by omega⟩,⟨by omega,by omega⟩,⟨by omega,by omega⟩⟩,rfl,q,q⟩ rfl rfl trivial⟩⟩⟩
  have am:ph [V.ref l] H2 (λx H1=>uL [V.ref l] H1 (λax H1=>rJ [V.ref l,V.int 50] H1 (λaw H1=>7<=sizeLine/\∀p,H1 p=none->Q (V.ref p) (upd H1 p (HO.tup [V.str (Str.ofString "buy"),V.int d,V.int n,V.str w,x,ax,aw]))) E0) E0) E0:=
   ⟨l,rest,rfl,ac,λv c3 H3 D3 bv=>⟨l,c3,rfl,D3.h,λpr c4 H4 D4 bp=>⟨l,c4,50,rfl,D4.h,by decide,by decide,λH5 D5=>⟨sz,λp hp=>by
    unfold Rg at bv bp;have D:=((D3.trans D4).trans D5).same (iM (o:=.tup [V.str (Str.ofString "buy"),V.int d,V.int n,V.str w,V.int v,V.int pr,V.int (c4%50)]) hp);exact k p (.buy d n w v pr (c4%50)) _ (ab D.s) iH ⟨⟨hB,⟨by omega,by omega⟩,⟨by omega,by omega⟩,⟨by omega,by omega⟩⟩,rfl,q,q⟩ rfl rfl trivial⟩⟩⟩⟩
  have al:∀(x y c:Int),Rg 0 999 x->Rg 0 999999999999999 y->∃v,atI [V.int x,V.int y] (c%2)=some (.int v)/\Rg 0 1000000000000000 v:=λx y c bx ay=>by
   unfold Rg at bx ay;rcases(show c%2=0\/c%2=1 by omega)with e|e<;>rw[e]
   ·exact⟨x,rfl,by omega,by omega⟩
   ·exact⟨y,rfl,by omega,by omega⟩
  walk_at "n";by_cases h5:kd=5
  ·rw[zo h5]
   by_cases h0:th=0
   ·rw[zo h0]
    walk_at "n";refine⟨l,rest,1000,rfl,ac,by decide,by decide,λH4 D4=>⟨Ek (by decide) (by decide),l,_,10^(15:Int).toNat,rfl,D4.h,by decide,by decide,λH5 D5=>⟨sz,λp hp=>?_⟩⟩⟩;have D5:=D4.trans D5;obtain⟨v,hv,bv⟩:=al (rest%1000) (rest/1000%10^(15:Int).toNat) (rest/1000/10^(15:Int).toNat) (vp (by decide) (by decide) (by decide)) (vp (by decide) (by decide) (by decide));have D6:=D5.same (iM (o:=.lst [V.int (rest%1000),V.int (rest/1000%10^(15:Int).toNat)]) hp);have ae:p≠l:=λe=>by rw[e,D5.h]at hp;cases hp
    refine⟨l,_,2,rfl,D6.h,by decide,by decide,λH7 D7=>⟨_,_,rfl,iQ (D7.s _ _ ae iH),_,hv,?_⟩⟩;rw[ap_ret];walk_at "i";exact ag H7 _ (D6.trans D7) v bv
   ·rw[ze h0]
    refine⟨l,rest,2,rfl,ac,by decide,by decide,λH3 D3=>⟨rfl,?_⟩⟩;have some':1<=th:=by omega
    split
    ·walk_at "n"
     refine⟨l,_,1000,rfl,D3.h,by decide,by decide,λH4 D4=>⟨Ek (by decide) (by decide),l,_,10^(15:Int).toNat,rfl,D4.h,by decide,by decide,λH5 D5=>⟨sz,λp hp=>?_⟩⟩⟩;have D5:=(D3.trans D4).trans D5;obtain⟨v,hv,bv⟩:=al (rest/2%1000) (rest/2/1000%10^(15:Int).toNat) (rest/2/1000/10^(15:Int).toNat) (vp (by decide) (by decide) (by decide)) (vp (by decide) (by decide) (by decide));have D6:=D5.same (iM (o:=.lst [V.int (rest/2%1000),V.int (rest/2/1000%10^(15:Int).toNat)]) hp);have ae:p≠l:=λe=>by rw[e,D5.h]at hp;cases hp
     refine⟨l,_,2,rfl,D6.h,by decide,by decide,λH7 D7=>⟨_,_,rfl,iQ (D7.s _ _ ae iH),_,hv,?_⟩⟩;rw[ap_ret];walk_at "i";exact ag H7 _ (D6.trans D7) v bv
    ·walk_at "n"
     rw[zo h5];refine⟨l,_,th,rfl,D3.h,⟨some',af⟩,λv c4 H4 D4 bv=>⟨sz,λp hp=>?_⟩⟩;unfold Rg at bv;have D:=(D3.trans D4).same (iM (o:=.tup [V.str (Str.ofString "give"),V.int d,V.int n,V.str w,V.int v,V.non]) hp);exact k p (.give d n w v none) _ (ab D.s) iH ⟨⟨hB,⟨by omega,by omega⟩,trivial⟩,rfl,q,q⟩ rfl rfl (by show v<=jJ kvs w;rw[aj];exact bv.2)
  iterate 2 (rw[ze h5];walk_at "n")
  split
  ·exact am
  ·split
   ·exact am
   ·rename_i bf ak
    rw[ap_ret];walk_at "i";refine⟨l,rest,th,rfl,ac,⟨by omega,af⟩,λv c3 H3 D3 bv=>⟨l,c3,rfl,D3.h,λpr c4 H4 D4 bp=>⟨l,c4,50,rfl,D4.h,by decide,by decide,λH5 D5=>⟨sz,λp hp=>?_⟩⟩⟩⟩;unfold Rg at bv bp;have D:=((D3.trans D4).trans D5).same (iM (o:=.tup [V.str (Str.ofString "sell"),V.int d,V.int n,V.str w,V.int v,V.int pr,V.int (c4%50),V.non]) hp);exact k p (.sell d n w v pr (c4%50) none) _ (ab D.s) iH ⟨⟨hB,⟨by omega,by omega⟩,⟨by omega,by omega⟩,⟨by omega,by omega⟩,trivial⟩,rfl,q,q⟩ rfl rfl (by show v<=jJ kvs w;rw[aj];exact bv.2)
def WK(kvs:List (Key×V))(z y:Str)(i:Int):jJ (putK kvs (Sum.inr z) (.int i)) y=if y=z then i else jJ kvs y:=by
 unfold jJ;rw[aac];by_cases e:y=z
 ·rw[zo (by rw[e]),zo e]
 ·rw[ze (λh=>e (y4 h)),ze e]
inductive vR(vs:List V)(H:Hp)(Q:VK)(E:XK):Prop
 |mk (cd t:Addr) (kvs:List (Key×V)) (e:Ent) (_:vs=[.ref cd,.ref t]) (_:H cd=some (.dK kvs)) (_:Cnt kvs) (_:(∀z,jJ kvs z<=1000000000)) (_:kvs.length<=1000) (_:H t=some (.tup (.str e.word::e.args .non))) (_:e.good) (_:ajq (jJ kvs) e) (_:∀(q:Addr)(kv:List (Key×V))(H':Hp),Same H H'->H q=none->H' q=some (.dK kv)->Cnt kv->kv.length<=kvs.length+1->(∀z,jJ kv z=aiX (jJ kvs) e z)->Q (.ref q) H'):vR vs H Q E
def Il(T:Txt K mg A D):jQ P w K mg base CX0 1 A.acF D.acF ["_law_counts", "_law_row_here"] vR:=by
 refine T.aeL.F.okv mQ λ_ _ _ _ H vs Q E hr h=>?_
 ·obtain⟨cd,t,kvs,e,rfl,ae,hC,hM,ag,ht,hg,hF,k⟩:=h
  refine ⟨_,(iB (ji (i:=2) mQ.nd rfl orl (jF (jm (K:=K)) (pvD 1) iJ (λ_ _=>rfl)))
   (iB (ji (i:=3) mQ.nd rfl orl (jF (jm (K:=K)) (pvD 1) iJ (λ_ _=>rfl)))
   (iB (ji (i:=4) mQ.nd rfl orl (pq (uF hr) (pvD 0) (pvD 3) iJ ⟨rfl,rfl,rfl,rfl⟩))
   (iB (ji (i:=5) mQ.nd rfl orl (nq Ih (by rfl) T.ae9 (by decide+kernel) (pav 0 iD)))
   (iB (jX (PW.pt (Ey (jl (mW) (pvD 2) jG (jr _)) (Ag (jl (mW) (pvD 2) jG (jr _))))) (iG (Be (uF hr) (pvD 5) (pvD 3) (ju kE (pvD 4) (jF (jm (K:=K)) (pvD 1) iJ (λ_ _=>rfl))) rfl)) jx)
   (iB (jX (PW.pt (Ey (jl (mW) (pvD 2) jG (jr _)) (Ag (jl (mW) (pvD 2) jG (jr _))))) (iG (Be (uF hr) (pvD 5) (pvD 3) (ju pY (pvD 4) (jF (jm (K:=K)) (pvD 1) iJ (λ_ _=>rfl))) rfl)) jx)
   (iB (jX (jl (mW) (pvD 2) jG (jr _)) (iG (Be (uF hr) (pvD 5) (pvD 3) (ju rK (ju mH (pvD 4) (jF (jm (K:=K)) (pvD 1) iJ (λ_ _=>rfl))) (jF (jm (K:=K)) (pvD 1) iJ (λ_ _=>rfl))) rfl)) jx)
   (iB (jX (jl (mW) (pvD 2) jG (jr _)) (iG (Be (uF hr) (pvD 5) (jF (jm (K:=K)) (pvD 1) iJ (λ_ _=>rfl)) (ju kE (pq (uF hr) (pvD 0) (jF (jm (K:=K)) (pvD 1) iJ (λ_ _=>rfl)) iJ ⟨rfl,rfl,rfl,rfl⟩) (pvD 4)) rfl)) jx)
   (iG (iY (pvD 5))))))))))),?_⟩
  simp only[start_eq];have a0:atI (V.str e.word::e.args .non) 0=some (.str e.word):=by cases e<;>rfl
  have a3:atI (V.str e.word::e.args .non) 3=some (.str e.ware):=by cases e<;>rfl
  walk_at "n";refine⟨_,jD ht,_,a0,?_⟩;walk_at "n";refine⟨_,jD ht,_,a3,?_⟩;obtain⟨g1,g2⟩:=hC.get e.ware;have g3:=hM e.ware;walk_at "n";refine⟨.inl ⟨kvs,.inl ae⟩,_,Ln (k:=Sum.inr e.ware) ae,?_⟩;rw[g1];walk_at "n";refine⟨kvs,.inl ae,λq hq=>?_⟩;have s1:=iM (o:=.dK kvs) hq;have ab:(upd H q (.dK kvs)) q=some (.dK kvs):=iH;generalize upd H q (.dK kvs)=H1 at s1 ab;have hsz:kvs.length<sizeLine:=by rw[zq];omega
  have out:∀(z:Str)(i:Int),0<=i->(∀y,(if y=z then i else jJ kvs y)=aiX (jJ kvs) e y)->Q (.ref q) (upd H1 q (.dK (putK kvs (Sum.inr z) (.int i)))):=λz i h0 h1=>k q _ _ (s1.upd hq) hq iH (hC.put z h0) (uH _ _ _) λy=>(WK kvs z y i).trans (h1 y);have hh:jJ kvs e.ware=jJ kvs e.ware/\0<=jJ kvs e.ware/\jJ kvs e.ware<=1000000000:=⟨rfl,g2,g3⟩;clear g1 g2 g3 a0 a3
  cases e with
  |buy d n w p r f=>
   dsimp only[Ent.word,Ent.ware]at hh⊢;obtain⟨_,ac,ad⟩:=hh;have aa:=s1 _ _ ht;refine jK λu hu=>?_;refine go2 rfl (.inl rfl) ?_;walk_at "i";subst hu;refine⟨_,jD aa,_,rfl,_,rfl,_,FN (k:=Sum.inr w) ab hsz,?_⟩;refine sk2 rfl (by decide+kernel) (by decide+kernel) ?_;refine sk1 rfl (by decide+kernel) ?_;refine sk1 rfl (by decide+kernel) ?_;walk_at "i";obtain⟨_,⟨hp,_⟩,_⟩:=hg;exact out _ _ (by omega) λy=>rfl
  |sell d n w p r f o=>
   dsimp only[Ent.word,Ent.ware]at hh⊢;obtain⟨_,ac,ad⟩:=hh;have aa:=s1 _ _ ht;refine sk2 rfl (by decide+kernel) (by decide+kernel) ?_;refine jK λu hu=>?_;refine go2 rfl (.inl rfl) ?_;walk_at "i";subst hu;refine⟨_,jD aa,_,rfl,_,rfl,_,FN (k:=Sum.inr w) ab hsz,?_⟩;refine sk1 rfl (by decide+kernel) ?_;refine sk1 rfl (by decide+kernel) ?_;walk_at "i";have hF:p<=jJ kvs w:=hF;obtain⟨_,⟨hp,_⟩,_⟩:=hg;exact out _ _ (by omega) λy=>rfl
  |gift d n w p c s=>
   dsimp only[Ent.word,Ent.ware]at hh⊢;obtain⟨_,ac,ad⟩:=hh;have aa:=s1 _ _ ht;refine jK λu hu=>?_;refine go2 rfl (.inr rfl) ?_;walk_at "i";subst hu;refine⟨_,jD aa,_,rfl,_,rfl,_,FN (k:=Sum.inr w) ab hsz,?_⟩;refine sk2 rfl (by decide+kernel) (by decide+kernel) ?_;refine sk1 rfl (by decide+kernel) ?_;refine sk1 rfl (by decide+kernel) ?_;walk_at "i";obtain⟨_,⟨hp,_⟩,_⟩:=hg;exact out _ _ (by omega) λy=>rfl
  |give d n w p o=>
   dsimp only[Ent.word,Ent.ware]at hh⊢;obtain⟨_,ac,ad⟩:=hh;have aa:=s1 _ _ ht;refine sk2 rfl (by decide+kernel) (by decide+kernel) ?_;refine jK λu hu=>?_;refine go2 rfl (.inr rfl) ?_;walk_at "i";subst hu;refine⟨_,jD aa,_,rfl,_,rfl,_,FN (k:=Sum.inr w) ab hsz,?_⟩;refine sk1 rfl (by decide+kernel) ?_;refine sk1 rfl (by decide+kernel) ?_;walk_at "i";have hF:p<=jJ kvs w:=hF;obtain⟨_,⟨hp,_⟩,_⟩:=hg;exact out _ _ (by omega) λy=>rfl
  |split d n w m f=>
   dsimp only[Ent.word,Ent.ware]at hh⊢;obtain⟨_,ac,ad⟩:=hh;have aa:=s1 _ _ ht;refine sk2 rfl (by decide+kernel) (by decide+kernel) ?_;refine sk2 rfl (by decide+kernel) (by decide+kernel) ?_;refine jK λu hu=>?_;refine go1 rfl ?_;walk_at "i";subst hu;obtain⟨_,⟨hm,ah⟩,⟨hf,aj⟩⟩:=hg;have bm:0<=jJ kvs w*m:=Int.mul_nonneg ac (by omega);have bq:0<=jJ kvs w*m/f:=Int.ediv_nonneg bm (by omega);refine⟨_,jD aa,_,rfl,_,rfl,Pz (by omega) (by omega),_,jD aa,_,rfl,_,rfl,Xu (by omega) (by omega),_,FN (k:=Sum.inr w) ab hsz,?_⟩;refine sk1 rfl (by decide+kernel) ?_;walk_at "i";exact out _ _ bq λy=>rfl
  |part d n w u a b=>
   dsimp only[Ent.word,Ent.ware]at hh⊢;obtain⟨_,ac,ad⟩:=hh;have aa:=s1 _ _ ht;refine sk2 rfl (by decide+kernel) (by decide+kernel) ?_;refine sk2 rfl (by decide+kernel) (by decide+kernel) ?_;refine sk1 rfl (by decide+kernel) ?_;refine jK λu hu=>?_;refine go1 rfl ?_;walk_at "i";subst hu;have af:=s1 _ _ ae;obtain⟨gu,ai⟩:=hC.get u;refine⟨.inl ⟨kvs,.inl af⟩,_,jD aa,_,rfl,_,Ln (k:=Sum.inr u) af,_,gu,_,jD aa,_,rfl,_,FN (k:=Sum.inr u) ab hsz,?_⟩;walk_at "i";exact out _ _ (by omega) λy=>rfl
inductive HW(vs:List V)(H:Hp)(Q:VK)(E:XK):Prop
 |mk (s k:Int) (_:vs=[.int s,.int k]) (_:∀(t:Addr)(d m kd ix rest:Int)(H':Hp),Same H H'->H' t=some (.tup [.int d,.int (m*64+k),.int kd,.int ix,.int rest])->Rg 0 1000000 d->Rg 0 1999 m->Rg 0 7 kd->Rg 0 2 ix->Q (.ref t) H'):HW vs H Q E
def Rn(T:Txt K mg A D):jQ P w K mg base CX0 2 A.acG D.acG ["_law_source", "_law_k"] HW:=by
 refine T.aeM.F.okv nH λ_ _ _ _ H vs Q E hr h=>?_
 ·obtain⟨s,kk,rfl,k⟩:=h
  refine ⟨_,(iB (ji (i:=2) nH.nd rfl orl (kW (pav 0 iD)))
   (iB (ji (i:=3) nH.nd rfl orl (pcg (jq T) hr T.aeE (jw T) (pav 2 (iz iJ iD))))
   (iB (ji (i:=4) nH.nd rfl orl (pcg (jq T) hr T.aeE (jw T) (pav 2 (iz iJ iD))))
   (iB (ji (i:=5) nH.nd rfl orl (pcg (jq T) hr T.aeE (jw T) (pav 2 (iz iJ iD))))
   (iB (jX (jl (mW) (pcg (jq T) hr T.aeE (jw T) (pav 2 (iz iJ iD))) iJ (jr _)) (iG (ji (i:=5) nH.nd rfl orl (pcg (jq T) hr T.aeE (jw T) (pav 2 (iz (ju kE (ju uo iJ iJ) iJ) iD))))) jx)
   (iB (ji (i:=6) nH.nd rfl orl (ju kE (ju mH (pcg (jq T) hr T.aeE (jw T) (pav 2 (iz iJ iD))) iJ) (pvD 1)))
   (iG (iY (lY (pav 5 (pav 6 (pav 3 (pav 4 (iz (jF (mC (K:=K)) (pvD 2) iJ (λ_ _=>rfl)) iD)))))))))))))),?_⟩
  simp only[start_eq];walk_at "n";refine⟨sz,λl hl=>?_⟩;have s1:=iM (o:=.lst [.int s]) hl;have h1:(upd H l (.lst [.int s])) l=some (.lst [.int s]):=iH;generalize upd H l (.lst [.int s])=H1 at s1 h1;walk_at "n";refine⟨l,s,8,rfl,h1,by decide,by decide,λH2 D2=>?_⟩;have b2:=vp (x:=s) (m:=8) (lo:=0) (hi:=7) (by decide) (by decide) (by decide);generalize s%8=kd at b2;walk_at "n";refine⟨l,_,3,rfl,D2.h,by decide,by decide,λH3 D3=>?_⟩;have D3:=D2.trans D3;have b3:=vp (x:=s/8) (m:=3) (lo:=0) (hi:=2) (by decide) (by decide) (by decide);generalize s/8%3=ix at b3;walk_at "n";refine⟨l,_,30,rfl,D3.h,by decide,by decide,λH4 D4=>?_⟩;have D4:=D3.trans D4;have b4:=vp (x:=s/8/3) (m:=30) (lo:=0) (hi:=1000000) (by decide) (by decide) (by decide);generalize s/8/3%30=aa at b4;generalize s/8/3/30=c4 at D4;walk_at "n";refine⟨l,c4,6,rfl,D4.h,by decide,by decide,λH5 z=>⟨rfl,?_⟩⟩;have z:=D4.trans z;split
  ·refine⟨Ek (by decide) (by decide),l,_,_,rfl,z.h,by decide,by decide,λH6 D6=>?_⟩
   have D6:=z.trans D6;have b6:=vp (x:=c4/6) (m:=10^(6:Int).toNat+1) (lo:=0) (hi:=1000000) (by decide) (by decide) (by decide);generalize c4/6%(10^(6:Int).toNat+1)=dy at b6;walk_at "n";refine⟨l,_,2000,rfl,D6.h,by decide,by decide,λH7 q=>⟨_,rfl,vd (by decide) (by decide),?_⟩⟩;have q:=D6.trans q;rw[ap_ret];walk_at "i";refine⟨_,iQ q.h,_,rfl,sz,λp hp=>?_⟩;exact k p dy _ kd ix _ _ ((q.same (iM hp)).off s1 hl) iH b6 (vp (by decide) (by decide) (by decide)) b2 b3
  ·walk_at "n"
   refine⟨l,_,2000,rfl,z.h,by decide,by decide,λH7 q=>⟨_,rfl,vd (by decide) (by decide),?_⟩⟩;have q:=z.trans q;rw[ap_ret];walk_at "i";refine⟨_,iQ q.h,_,rfl,sz,λp hp=>?_⟩;exact k p aa _ kd ix _ _ ((q.same (iM hp)).off s1 hl) iH b4 (vp (by decide) (by decide) (by decide)) b2 b3
def aiB(ns:List Int)(m:Nat):∃cs:List Int,Ox (ns.map V.int) (some 1) (some ((m:Int)+1))=cs.map V.int/\cs.length<=m:=by
 refine⟨(ns.drop (min 1 (ns.map V.int).length)).take (min (m+1) (ns.map V.int).length - min 1 (ns.map V.int).length),?_,?_⟩
 ·rw[show((m:Int)+1)=((m+1:Nat):Int) by omega,show(1:Int)=((1:Nat):Int)from rfl]
  unfold Ox;rw[HT.sIx_nat,HT.sIx_nat,List.map_take,List.map_drop]
 ·rw[zU,yw]
  omega
inductive wM(K:Fg_)(vs:List V)(H:Hp)(Q:VK)(E:XK):Prop
 |mk (a:Addr) (ns:List Int) (_:vs=[.ref a]) (_:SqL K H a (ns.map V.int)) (_:∀(p:Addr)(xs:List Int) H',Same H H'->H p=none->H' p=some (.lst (xs.map V.int))->1<=xs.length->xs.length<=56->Q (.ref p) H'):wM K vs H Q E
def Jm(T:Txt K mg A D):jQ P w K mg base CX0 2 A.acx D.acx ["_law_script"] (wM K):=by
 refine T.aeD.F.okv nY λ_ _ _ _ H vs Q E hr h=>?_
 ·obtain⟨a,ns,rfl,hS,k⟩:=h
  refine ⟨_,(iB (ji (i:=1) nY.nd rfl orr (GX (Uk (K:=K)) (pvD 0) (JV iJ) (JV iJ)))
   (iB (jX (PW.pt (Qi (jl (mW) (ju um (pcg (lw T) hr T.adx (lK T) (pav 0 (iz iJ iD))) iJ) iJ (jr _)) (Iw (jl (Ke) (jt (nA (K:=K)) (by rfl) T.ae3 (by decide+kernel) (pav 1 iD)) iJ (jr _))))) (iG (iY (jO (cap:=[none]) (N':=["_law_cell"]) rfl (by walk_at "c") (jW (K:=K) (pv 1)) (λ_ _ _ _=>(iW (i:=0) nd1 rfl orl orr)) (λ_ _ _ _=>jP) (λ_ _ _ _=>(ju um (pvD 0) (ju mH (ju uo iJ iJ) (ju uo iJ iJ))))))) jx)
   (iB (ji (i:=1) nY.nd rfl orr (ju Xj (pvD 1) (kW (iz (pcg (lw T) hr T.adx (lK T) (pav 0 (iz iJ iD))) iD))))
   (iB (ji (i:=2) nY.nd rfl orl (ju kE iJ (ju um (ju rK (pcg (lw T) hr T.adx (lK T) (pav 0 (iz iJ iD))) iJ) iJ)))
   (iG (iY (jO (cap:=[none,some 1]) (N':=["_law_k", "_law_cells"]) rfl (by walk_at "c") (IV (by rfl) T.afd (pav 2 iD)) (λ_ _ _ _=>(iW (i:=0) (show(["_law_k", "_law_cells"]:List Str).Nodup from by decide+kernel) rfl orl orr)) (λ_ _ _ _=>jP) (λ_ _ _ _=>(pcg (Mr T) hr T.aeC (Qj T) (iz (jF (mC (K:=K)) (pvD 1) (ju um (pvD 0) (jt (nA (K:=K)) (by rfl) T.ae3 (by decide+kernel) (pav 1 iD))) (λ_ _=>rfl)) (pav 0 iD))))))))))),?_⟩
  simp only[start_eq];walk_at "n";refine⟨_,hS,λp hp=>?_⟩;obtain⟨cs,ag,af⟩:=aiB ns 56;rw[show(57:Int)=((56:Nat):Int)+1 from rfl,ag];have z:=iM (o:=.lst (cs.map V.int)) hp;have h1:(upd H p (.lst (cs.map V.int))) p=some (.lst (cs.map V.int)):=iH;generalize upd H p (.lst (cs.map V.int))=H1 at z h1
  (try dsimp only)
  refine jK λu hu=>?_;rw[ap_seq];walk_at "i"
  have rest:u {nx:=λ_ H'=>Q V.non H',rt:=Q} [some (V.ref a),some (V.ref p),none] H1:=by
   subst hu;walk_at "n";refine⟨a,ns,0,rfl,z.seq hS,?_⟩;generalize ns.getD 0 0=q;refine⟨sz,λp1 ae=>?_⟩;have s2:=iM (o:=.lst [V.int q]) ae;refine⟨_,s2 _ _ h1,_,iH,by rw[za,zq];simp;omega,λp2 ac=>?_⟩;have s3:=iM (o:=.lst (cs.map V.int++[V.int q])) ac;have h3:(upd (upd H1 p1 (.lst [V.int q])) p2 (.lst (cs.map V.int++[V.int q]))) p2=some (.lst ((cs++[q]).map V.int)):=by rw[iH,zv];rfl
   have S3:=z.trans (s2.trans s3);generalize upd (upd H1 p1 (.lst [V.int q])) p2 (.lst (cs.map V.int++[V.int q]))=H3 at S3 h3;walk_at "n";refine⟨a,ns,0,rfl,S3.seq hS,_,rfl,⟨by decide,by decide⟩,by decide,?_⟩;obtain⟨m,hm⟩:∃m,m=4+ns.getD 0 0/2%24:=⟨_,rfl⟩;have bm:4<=m/\m<28:=by omega
   rw[<-hm];rw[ap_ret];walk_at "i";refine⟨by omega,by omega,?_⟩;refine akr (λσ=>∃v,σ=[v,some (.ref p2)]) (λi v _=>∃r,v=.int r) ⟨_,rfl⟩ (by rw[zq];omega) ?_ ?_
   ·rintro Da i hi σ H5 R ⟨v,rfl⟩ sm hD hA kk
    walk_at "i";have h5:=sm _ _ h3;have ab:0<(cs++[q]).length:=by rw[zA];exact Nat.succ_pos _
    refine⟨_,.inl (iQ h5),by rw[za];omega,_,iQ h5,?_⟩;rw[za];generalize cs++[q]=dl at ab h5;have e0:=z6 (0+(i:Int)) (show(dl.length:Int)≠0 by omega);have e1:=zY (0+(i:Int)) (show(0:Int)<dl.length by omega);obtain⟨j,hj⟩:∃j:Nat,(0+(i:Int))%(dl.length:Int)=j:=⟨_,(Int.toNat_of_nonneg e0).symm⟩;rw[hj]at e1⊢;have ad:j<dl.length:=by omega
    exact⟨.int dl[j],Jb (by rw[zd,zh ad];rfl),_,_,rfl,by omega,by omega,λr=>kk _ _ H5 ⟨_,rfl⟩ (same_refl _) λ_ _=>⟨r,rfl⟩⟩
   ·intro Da H' acc hD sm hA aa hF
    obtain ⟨xs,hx⟩:∃xs:List Int,acc=xs.map V.int:=by
     refine⟨acc.map toI,?_⟩;rw[zx];refine(GD λv hv=>?_).symm;obtain⟨j,hj,ej⟩:=zZ hv;obtain⟨r,rfl⟩:=hF j v (by rw[zh hj,ej]);rfl
    rw[hx]at hA;have ah:xs.length=m.toNat:=by rw[<-aa,hx,za]
    exact k Da xs H' (S3.trans sm) (S3.free hD) hA (by omega) (by omega)
  refine⟨a,ns,0,rfl,z.seq hS,_,rfl,by decide,?_⟩;split
  ·refine⟨_,.inl (iQ h1),?_⟩
   rw[za];split
   ·rename_i hc
    have c1:Ab (10^(60:Int).toNat) (10^(30:Int).toNat):=Ab.big (by decide+kernel) (by decide+kernel);refine⟨⟨_,iQ h1⟩,lu.list (K:=K) (λσ=>∃v,σ=[v]) (λ_=>true) (λv=>match v with|.int i=> .int (i%(10^(60:Int).toNat*10^(30:Int).toNat))|v=>v) (iQ h1) ⟨_,rfl⟩ (by rw[za,zq];omega) ?_ ?_⟩
    ·rintro x hx σ H5 R1 R2 ⟨v,rfl⟩ sm k1 k2
     obtain⟨i,_,rfl⟩:=zi.mp hx;walk_at "i";exact⟨Ek (by decide) (by decide),Ek (by decide) (by decide),c1,by decide+kernel,k1 rfl _ _ ⟨_,rfl⟩ (same_refl _)⟩
    ·intro Da H' hD sm e
     rw[Ir,zx]at e;refine k Da (cs.map λi=>i%(10^(60:Int).toNat*10^(30:Int).toNat)) H' (z.trans sm) (z.free hD) (by rw[e,zx];rfl) (by rw[za];omega) (by rw[za];exact af)
   ·exact rest
  ·exact rest
abbrev RWL:=List (Addr×List Int)
noncomputable def BV(rs:RWL):List V:=rs.map λr=>V.ref r.1
noncomputable def Yh(i:Nat)(xs:List Int):Prop:=∃d m kd ix rest:Int,xs=[d,m*64+i,kd,ix,rest]/\Rg 0 1000000 d/\Rg 0 1999 m/\Rg 0 7 kd/\Rg 0 2 ix
noncomputable def VH(H:Hp)(rs:RWL):Prop:=∀r∈rs,H r.1=some (.tup (r.2.map V.int))
def VH.same{H H':Hp}{rs:RWL}(h:VH H rs)(s:Same H H'):VH H' rs:=λr q=>s _ _ (h r q)
theorem aki{H:Hp}:∀{acc:List V}{j:Nat},(∀(i:Nat) v,acc[i]? =some v->∃b xs,v=.ref b/\H b=some (.tup (xs.map V.int))/\Yh (j+i) xs)->∃rs:RWL,acc=BV rs/\VH H rs/\∀(i:Nat) r,rs[i]? =some r->Yh (j+i) r.2
 |[],_,_=>⟨[],rfl,λr h=>(zn h).elim,λi r h=>by simp at h⟩
 |v::acc,j,h=>by
  obtain⟨b,xs,rfl,hb,hx⟩:=h 0 v rfl
  obtain ⟨rs,e1,z,e3⟩:=aki (acc:=acc) (j:=j+1) λi v hv=>by
   have:=h (i+1) v hv
   rwa [show j+(i+1)=j+1+i by omega]at this
  refine⟨(b,xs)::rs,by rw[e1];rfl,λr q=>?_,λi r hi=>?_⟩
  ·rcases zu.mp q with rfl|q
   ·exact hb
   ·exact z r q
  ·cases i with
   |zero=>cases hi;exact hx
   |succ i=>have:=e3 i r hi;rwa [show j+1+i=j+(i+1) by omega]at this
noncomputable def akl(xs:List Int):Int:=xs.getD 1 0
def Za{rs:RWL}(hl:rs.length<=56)(h:∀(i:Nat) r,rs[i]? =some r->Yh i r.2):(rs.map λr=>akl r.2).Nodup:=by
 refine yu.mpr λi j hi z ad=>?_;rw[za]at hi z;rw[yE,yE];obtain⟨d,m,kd,ix,rest,e,_,bm,_⟩:=h i _ (zh hi);obtain⟨d',m',ac,ab,q,e',_,aa,_⟩:=h j _ (zh z);rw[e,e'];show m*64+(i:Int)≠m'*64+(j:Int);omega
noncomputable def tsT(H:Hp):V->List Int
 |.ref b=>match H b with
  |some (.tup xs)=>xs.map toI
  |_=>[]
 |_=>[]
def akt{H:Hp}{b:Addr}{xs:List Int}(h:H b=some (.tup (xs.map V.int))):tsT H (.ref b)=xs:=by
 unfold tsT
 try dsimp only
 rw[h]
 try dsimp only
 rw[zx];exact GD λx _=>rfl
noncomputable def dnE(tl:EL):List (Int×Int):=tl.map λr=>(r.2.day,r.2.num)
noncomputable def dnR(xs:List Int):Int×Int:=(xs.getD 0 0,akl xs)
structure Hs(B H:Hp)(pt c:Addr)(tl:EL)(kc:List (Key×V))(ds:List (Int×Int))(i:Nat):Prop where
 s:Same B H
 l:H pt=some (.lst (CQ tl))
 cd:H c=some (.dK kc)
 cn:B c=none
 t:YH H tl
 g:Zg (tl.map (·.2))
 k:Cnt kc
 c:∀z,jJ kc z=runC (tl.map (·.2)) z
 u:(dnE tl).Sublist (ds.take i)
 n:kc.length<=i
theorem Hs.same{B H H':Hp}{z c:Addr}{tl:EL}{q:List (Key×V)}{ds:List (Int×Int)}{i:Nat}(h:Hs B H z c tl q ds i)(s:Same H H'):Hs B H' z c tl q ds i:=
 ⟨h.s.trans s,s _ _ h.l,s _ _ h.cd,h.cn,h.t.same s,h.g,h.k,h.c,h.u,h.n⟩
theorem Hs.m{B H:Hp}{pt c:Addr}{tl:EL}{q:List (Key×V)}{ds:List (Int×Int)}{i:Nat}(h:Hs B H pt c tl q ds i)(z:Str):jJ q z<=1000000000:=by
 have:=h.g.m tl.length z;rw[zT (by rw[za];exact zg _)]at this;rw[h.c];exact this
def aks{d n d' z:Int}{r r':List Int}(h:vP (d::n::r) (d'::z::r') false=true)(hn:n≠z):d<d'\/(d=d'/\n<z):=by
 rw[vP]at h;by_cases q:d=d'
 ·rw[zo q,vP,ze hn]at h
  exact .inr ⟨q,z8 h⟩
 ·rw[ze q]at h
  exact .inl (z8 h)
inductive xH(K:Fg_)(vs:List V)(H:Hp)(Q:VK)(E:XK):Prop
 |mk (a:Addr) (ns:List Int) (_:vs=[.ref a,.bl true]) (_:SqL K H a (ns.map V.int)) (_:∀p (tl:EL) H',Same H H'->H p=none->H' p=some (.lst (CQ tl))->YH H' tl->Zg (tl.map (·.2))->(tl.map (·.2)).Pairwise BfE->tl.length<=56->(tl.map λr=>r.2.num).Nodup->Q (.ref p) H'):xH K vs H Q E
def JS(T:Txt K mg A D):jQ P w K mg base CX0 4 A.acH D.acH ["_law_script", "_law_giving"] (xH K):=by
 refine T.aeN.F.okv jZ λ_ _ _ _ H vs Q E hr h=>?_
 ·obtain⟨a,ns,rfl,hS,k⟩:=h
  refine ⟨_,(iB (ji (i:=2) jZ.nd rfl orl Sy)
   (iB (ji (i:=3) jZ.nd rfl orl (kW iD))
   (iB (ji (i:=4) jZ.nd rfl orr (pcg (Jm T) hr T.aeD (Kq T) (pav 0 iD)))
   (iB (oE zQ rfl (kJ (K:=K) (jt (RN (K:=K)) (by rfl) T.ae5 (by decide+kernel) (iz (jO (cap:=[none,some 4]) (N':=["_law_k", "_law_sources_here"]) rfl (by walk_at "c") (IV (by rfl) T.afd (iz (jt (nA (K:=K)) (by rfl) T.ae3 (by decide+kernel) (pav 4 iD)) iD)) (λ_ _ _ _=>(iW (i:=0) (show(["_law_k", "_law_sources_here"]:List Str).Nodup from by decide+kernel) rfl orl orr)) (λ_ _ _ _=>jP) (λ_ _ _ _=>(pcg (Rn T) hr T.aeM (VN T) (iz (jF (mC (K:=K)) (pvD 1) (pvD 0) (λ_ _=>rfl)) (pav 0 iD))))) iD))) (iW (i:=5) jZ.nd rfl orl)
    (iB (ji (i:=6) jZ.nd rfl orl (pcg (Ra T) hr T.aeK (UT T) (pav 5 (pav 2 (pav 1 iD)))))
    (iB (ji (i:=7) jZ.nd rfl orr (pcg (Il T) hr T.aeL (Ku T) (pav 2 (pav 6 iD))))
    (iG (jX (jl (aiy) (jt (Vj (K:=K) rfl) (by rfl) T.afe (by decide+kernel) (iz (ju Xj (kW (iz iJ iD)) (Rx (jO (cap:=[none,some 7]) (N':=["_law_ware", "_law_more"]) rfl (by walk_at "c") (aiw (pvD 7)) (λ_ _ _ _=>(iW (i:=0) (show(["_law_ware", "_law_more"]:List Str).Nodup from by decide+kernel) rfl orl orr)) (λ_ _ _ _=>jP) (λ_ _ _ _=>(ajc (uF hr) (pvD 1) (pvD 0) (λ_ _=>rfl)))))) iD)) (ju uo iJ iJ) (jr _)) (iB (jo (qx (K:=K) zH zR zS mD (pvD 3) (pav 6 iD)))
     (iG (ji (i:=2) jZ.nd rfl orl (pvD 7)))) jx)))))
   (iG (iY (pvD 3))))))),?_⟩
  simp only[start_eq];walk_at "n";intro pd b2;have s1:=iM (o:=.dK []) b2;have bb:(upd H pd (.dK [])) pd=some (.dK []):=iH;generalize upd H pd (.dK [])=H1 at s1 bb;walk_at "n";refine⟨sz,λpt bg=>?_⟩;have s2:=iM (o:=.lst []) bg;have av:(upd H1 pt (.lst [])) pt=some (.lst []):=iH;have bt:=s2 _ _ bb;generalize upd H1 pt (.lst [])=H2 at s2 av bt;have S2:=s1.trans s2;walk_at "n";refine⟨a,ns,rfl,S2.seq hS,λq xs H3 s3 hq h3 cv cp=>?_⟩;have S3:=S2.trans s3
  (try dsimp only)
  refine jK λu hu=>?_;rw[ap_seq];refine rm λtb cj=>?_;rw[ap_for];walk_at "i";refine⟨_,.inl (iQ h3),by omega,by rw[za];omega,?_⟩;rw[za,zzS];have lz:∀n:Nat,n<=1000->n<=sizeLine:=λn h=>by rw[zq];omega
  refine akr (λσ=>∃v,σ=[v,some (.ref q)]) (λi v H'=>∃b ys,v=.ref b/\H' b=some (.tup (ys.map V.int))/\Yh i ys) ⟨_,rfl⟩ (lz _ (by omega)) ?_ ?_
  ·rintro Da i hi σ H5 R ⟨_,rfl⟩ sm hD ⟨acc,hA⟩ kk
   walk_at "i";rw[zz9];refine⟨_,iQ (sm _ _ h3),.int xs[i],Jb (by rw[zd,zh hi];rfl),xs[i],i,rfl,λt d m kd ix rest H6 s6 ht bd bm bk bi=>?_⟩;refine kk (.ref t) _ H6 ⟨_,rfl⟩ s6 λH' hb=>⟨t,[d,m*64+i,kd,ix,rest],rfl,hb _ _ (λz=>?_) ht,d,m,kd,ix,rest,rfl,bd,bm,bk,bi⟩;rw[z,s6 _ _ hA]at ht;cases ht
  ·intro Da H4 acc hD s4 hA b0 hF
   obtain⟨rs,e1,e2,e3⟩:=aki (H:=H4) (acc:=acc) (j:=0) (λi v hv=>by rw[Nat.zero_add];exact hF i v hv);rw[e1]at hA;have ci:rs.length=xs.length:=by rw[<-b0,e1];unfold BV;rw[za]
   have ab:∀(i:Nat) r,rs[i]? =some r->Yh i r.2:=λi r h=>by have:=e3 i r h;rwa [Nat.zero_add]at this
   have aq:=Za (by omega) ab;rw[ap_rSortP];have ag:∀r∈rs,tsT H4 (.ref r.1)=r.2:=λr hr=>akt (e2 r hr);refine⟨_,tsT H4,4,iQ hA,by unfold BV;rw[za];omega,?_,λy hy=>?_,λp zs hp as bq=>?_⟩
   ·unfold BV
    rw[zx];refine zW.mpr (yL (fun{a b} ha hb h z=>h ?_) (zW.mp aq));have z:tsT H4 (.ref a.1)=tsT H4 (.ref b.1):=z;rw[ag a ha,ag b hb]at z;rw[z]
   ·obtain⟨r,hr,rfl⟩:=zi.mp hy
    rw[ag r hr];obtain⟨j,hj⟩:=y8 hr;obtain⟨d,m,kd,ix,rest,e,_⟩:=ab j r hj;exact⟨by rw[e];rfl,r.1,[],rfl,jD (by rw[z5];exact e2 r hr)⟩
   ·obtain⟨os,rfl,ae⟩:=Es (f:=λr:Addr×List Int=>V.ref r.1) as rfl
    have cf:(os.map λr=>dnR r.2).Pairwise λx y=>x.1<y.1\/(x.1=y.1/\x.2<y.2):=by
     have hnu':(os.map λr=>akl r.2).Nodup:=(ae.map (λr:Addr×List Int=>akl r.2)).nodup_iff.mpr aq;refine zW.mpr (yL (fun{a b} ha hb h=>?_) ((zW.mp bq).and (zW.mp hnu')));obtain⟨h1,h2⟩:=h;have ha:=ae.mem_iff.mp ha;have hb:=ae.mem_iff.mp hb;rw[ag a ha,ag b hb]at h1;obtain⟨j,hj⟩:=y8 ha;obtain⟨j',ce⟩:=y8 hb;obtain⟨d,m,kd,ix,rest,e,_⟩:=ab j a hj;obtain⟨d',m',cw,co,cg,e',_⟩:=ab j' b ce;rw[e,e']at h1 h2⊢;exact aks h1 h2
    have s5:=iM (o:=.lst (BV os)) hp;have h5:(upd H4 p (.lst (BV os))) p=some (.lst (BV os)):=iH;change(∃cs,_);have S5:=S3.trans (s4.trans s5);have ar:=s3.trans (s4.trans s5);have bo:VH (upd H4 p (.lst (BV os))) os:=λr hr=>s5 _ _ (e2 r (ae.mem_iff.mp hr));have b8:(upd H4 p (.lst (os.map λr=>V.ref r.1)))=upd H4 p (.lst (BV os)):=rfl;rw[b8];generalize upd H4 p (.lst (BV os))=H5 at s5 h5 S5 ar bo;have bf:p≠pt:=λz=>by rw[z,(s3.trans s4) _ _ av]at hp;cases hp
    refine⟨p,rfl,⟨_,iQ h5⟩,?_⟩;have ct:os.length=xs.length:=by rw[ae.length_eq,ci]
    have al:=s1.free bg
    refine Gg.listN (K:=K) (a:=p) (xs:=BV os) (λi σ Hx=>∃(c:Addr)(tl:EL)(kc:List (Key×V))(v5 v6 v7:Option V),σ=[some (.ref a),some (.bl true),some (.ref c),some (.ref pt),some (.ref q),v5,v6,v7]/\Hs H Hx pt c tl kc (os.map λr=>dnR r.2) i/\Hx p=some (.lst (BV os))/\VH Hx os)
     ⟨pd,[],[],_,_,_,rfl,⟨S5,ar _ _ av,ar _ _ bt,b2,λr h=>(zn h).elim,Zg.nil,Cnt.nil,λz=>rfl,yZ _,zg _⟩,h5,bo⟩ (λi σ Hx _ ⟨_,_,_,_,_,_,_,_,h,_⟩=>iQ h) ?_ ?_
    ·rintro i y σ Hx hi ⟨c,tl,kc,v5,v6,v7,rfl,L,bc,aw⟩ N hN
     obtain ⟨r,au,rfl⟩:∃r,os[i]? =some r/\y=.ref r.1:=by
      unfold BV at hi;rw[zd]at hi
      cases e:os[i]? with
      |none=>rw[e]at hi;cases hi
      |some r=>rw[e]at hi;exact⟨r,rfl,(zw hi).symm⟩
     have bp:=zm au;obtain⟨j,hj⟩:=y8 (ae.mem_iff.mp bp);obtain⟨d,m,kd,ix,rest,er,bd,bm,bk,bi⟩:=ab j r hj;have cr:j<rs.length:=(zk.mp hj).1;have cn:i<os.length:=(zk.mp au).1;have bs:=aw r bp;rw[er]at bs;subst cj;walk_at "n";unfold Rg at bm;refine⟨r.1,c,d,m*64+j,kd,ix,rest,kc,rfl,bs,L.cd,L.k,L.m,bd,⟨by omega,by omega⟩,bk,bi,λt e H6 s6 ht hg b9 ch bu=>?_⟩;have L6:=L.same s6;walk_at "n";have cl:=L6.n;refine⟨c,t,kc,e,rfl,L6.cd,L6.k,L6.m,by omega,ht,hg.1,bu,λq2 k2 H7 s7 ca h7 ai cu cb=>?_⟩;have L7:=L6.same s7
     (try dsimp only)
     walk_at "i";have an:H q2=none:=L6.s.free ca;refine⟨lz _ (by decide),λp1 b5=>?_⟩;have s8:=iM (o:=.lst [V.int 0]) b5;have b1:(upd H7 p1 (.lst [V.int 0])) p1=some (.lst [V.int 0]):=iH;generalize upd H7 p1 (.lst [V.int 0])=H8 at s8 b1;have L8:=L7.same s8;have h8:=s8 _ _ h7;have cd:=s8 _ _ (s7 _ _ ht);have ay:=((aw.same s6).same s7).same s8;have bw:=s8 _ _ (s7 _ _ (s6 _ _ bc));refine⟨k2,h8,λo=>?_⟩;have h9:(upd H8 q2 (.frz o (.dK k2))) q2=some (.frz o (.dK k2)):=iH;have o9:But q2 H8 (upd H8 q2 (.frz o (.dK k2))):=Tt;generalize upd H8 q2 (.frz o (.dK k2))=H9 at h9 o9;refine aar (λσ=>∃v,σ=[v,some (.ref q2)]) (λi v _=>∃kv,k2[i]? =some kv/\v=kv.2) h9 ⟨_,rfl⟩ (lz _ (by omega)) ?_ ?_
     ·rintro Db j' kv be σ ak R ⟨_,rfl⟩ sm ax bj kk
      have hv:=Lr ai.u (k:=kv.1) (v:=kv.2) (zm be);walk_at "i";exact⟨kv.2,hv▸.inl ⟨_,kv.1,.inr ⟨o,sm _ _ h9⟩,rfl,rfl⟩,kk _ _ _ ⟨_,rfl⟩ (same_refl _) λ_ _=>⟨kv,be,rfl⟩⟩
     ·intro Db ak bh ax bv bj cc b4
      have hb':=bv _ _ h9;have ck:Db≠q2:=λe=>by rw[e,h9]at ax;cases ax
      refine⟨q2,o,k2,hb',λo' u' e=>?_,?_⟩
      ·have e:H q2=some (.frz o' u'):=e
       rw[an]at e;cases e
      have S:Same H8 (upd ak q2 (.dK k2)):=λa u h=>by
       by_cases e:a=q2
       ·subst e;rw[h8]at h;rw[iH];exact h
       ·exact(iU e).trans (bv _ _ (o9 a u e h))
      have ao:(upd ak q2 (.dK k2)) Db=some (.lst ((k2.map λkv=>toI kv.2).map V.int)):=by
       refine(iU ck).trans (bj.trans ?_);congr 2;refine yX λn=>?_;rw[zd,zd];by_cases hn:n<bh.length
       ·obtain⟨kv,g1,g2⟩:=b4 n _ (zh hn)
        obtain⟨z',i',e',_⟩:=ai.k kv (zm g1);rw[zh hn,g2,g1,e'];rfl
       ·rw[zX (by omega),zX (by omega)]
        rfl
      generalize upd ak q2 (.dK k2)=az at S ao;walk_at "i";refine⟨_,S _ _ b1,_,ao,by rw[za,za,zq];simp;omega,λp3 b3=>?_⟩;have br:=iM (o:=.lst ([V.int 0]++(k2.map λkv=>toI kv.2).map V.int)) b3;have ba:(upd az p3 (.lst ([V.int 0]++(k2.map λkv=>toI kv.2).map V.int))) p3=some (.lst ((0::k2.map λkv=>toI kv.2).map V.int)):=iH;generalize upd az p3 (.lst ([V.int 0]++(k2.map λkv=>toI kv.2).map V.int))=bz at br ba;have ad:=S.trans br;have aa:=L8.same ad;have af:bz q2=some (.dK k2):=ad _ _ h8
      have aj:(os.map λr=>dnR r.2)[i]? =some (e.day,e.num):=by
       rw[zd,au,b9,ch];show some (dnR r.2)=_;rw[er];rfl
      refine⟨_,iQ ba,List.cons_ne_nil _ _,λM cq b6=>⟨Ek (by decide) (by decide),?_⟩⟩;rw[show(10:Int)^(9:Int).toNat=1000000000 by decide];split
      ·rename_i bx
       walk_at "n";refine⟨.inl ⟨rfl,_,iQ aa.l⟩,_,aa.l,by rw[wO,zq];have:=aa.u.length_le;rw[zU]at this;unfold dnE at this;rw[za]at this;omega,?_⟩;walk_at "i";have ah:∀{b:Addr}{ys:List V},bz b=some (.tup ys)->b≠pt:=λh e=>by rw[e,aa.l]at h;cases h
       have ap:q2≠pt:=λe=>by rw[e,aa.l]at af;cases af
       have am:=ad _ _ cd;have bl:(tl++[(t,e)]).map (·.2)=tl.map (·.2)++[e]:=by rw[zv];rfl
       have hcE':∀z,jJ k2 z=aiX (runC (tl.map (·.2))) e z:=λz=>by
        rw[cb,show jJ kc=runC (tl.map (·.2))from funext aa.c]
       have b7:∀z,jJ k2 z<=1000000000:=λz'=>by
        unfold jJ
        cases ev:pG k2 (Sum.inr z')with
        |none=>show(0:Int)<=_;decide
        |some v=>
         obtain⟨y',i',ey,_⟩:=ai.k _ (El ev);have bn:=b6 (toI v) (zp _ (zi.mpr ⟨_,El ev,rfl⟩));cases ey;exact Int.le_trans bn bx
       refine hN _ _ ⟨q2,tl++[(t,e)],k2,_,_,_,rfl,⟨aa.s.upd al,?_,(iU ap).trans af,an,λr' ac=>?_,?_,ai,λz=>by rw[bl,Dj];exact hcE' z,?_,by omega⟩,(iU bf).trans (ad _ _ bw),λr' ac=>(iU (ah (ad _ _ (ay r' ac)))).trans (ad _ _ (ay r' ac))⟩
       ·rw[iH];unfold CQ;rw[zv];rfl
       ·rcases zK.mp ac with ac|ac
        ·exact(aa.t r' ac).put aa.l
        ·obtain rfl:=zC.mp ac
         exact⟨.non,(iU (ah am)).trans am,by rw[hg.2.1];exact rfl⟩
       ·rw[bl]
        exact aa.g.snoc hg (by rw[<-show jJ kc=runC (tl.map (·.2))from funext aa.c];exact bu) λz=>hcE' z▸b7 z
       ·have hn:dnE (tl++[(t,e)])=dnE tl++[(e.day,e.num)]:=by unfold dnE;rw[zv];rfl
        rw[hn,zN,aj];exact aa.u.append (yZ _)
      ·refine hN _ _ ⟨c,tl,kc,_,_,_,rfl,⟨aa.s,aa.l,aa.cd,aa.cn,aa.t,aa.g,aa.k,aa.c,aa.u.trans ?_,by have:=aa.n;omega⟩,ad _ _ bw,ay.same ad⟩
       rw[zN];exact zzf _ _
    ·rintro σ Hx ⟨c,tl,kc,v5,v6,v7,rfl,L,bc,aw⟩
     subst hu;walk_at "a";have hlen':(BV os).length=os.length:=by unfold BV;rw[za]
     rw[hlen']at L;have hu:=L.u;rw[zT (by rw[za];exact zg _)]at hu
     have cm:tl.length<=os.length:=by
      have:=hu.length_le;unfold dnE at this
      rwa [za,za]at this
     have hb:=cf.sublist hu;unfold dnE at hb;refine k pt tl Hx L.s al L.l L.t L.g (zW.mpr ((zW.mp hb).imp λh=>h)) (by omega) ?_
     have hnu':((os.map λr=>dnR r.2).map (·.2)).Nodup:=by
      rw[zx];exact(ae.map (λr:Addr×List Int=>akl r.2)).nodup_iff.mpr aq
     have:=(hu.map (·.2)).nodup hnu';unfold dnE at this;rw[zx]at this;exact this
def mU{t:TA}{σ:L2.St}{H:Hp}{Q:List V->Hp->Prop}{q:Addr}{xs:List V}{i:Int}{v:V}{j:Nat}(hσ:σ[j]? =some (some (.ref q)))(hq:H q=some (.tup xs))(z:atI xs i=some v)(k:t σ H λvs H'=>Q (v::vs) H'):Ei (tOp (aik K) (tV j) (tC (.int i))) t σ H Q:=by
 simp only[L2.ap_cons,L2.ap_op,L2.av_V,L2.atV_iff,L2.ap_c,L2.ap_ixT];exact⟨_,hσ,q,xs,i,v,rfl,rfl,jD hq,z,k⟩
inductive Cz(A:Adr)(vs:List V)(H:Hp)(Q:VK)(E:XK):Prop
 |mk (q:Addr) (e:Ent) (_:vs=[.ref q]) (_:aii H q e) (_:e.lots=none) (_:e.good) (_:∀x B H',Same H B->Made A B H' x e->Q (.ref x) H'):Cz A vs H Q E
def Ny(T:Txt K mg A D):jQ P w K mg base CX0 6 A.abo D.abo ["_law_row_here"] (Cz A):=by
 refine T.adw.F.okv Ni λ_ _ _ _ H vs Q E hr h=>?_
 ·obtain⟨q,e,rfl,⟨nv,z,hn⟩,ho,hg,k⟩:=h
  refine ⟨_,(iB (jX (jl (mW) (jF (jm (K:=K)) (pvD 0) iJ (λ_ _=>rfl)) jG (jr _)) (iG (iY (lR T.ag0 (HB (K:=K) T) (hr.mono (by decide)) (by rfl) T.afm (vz T).choose_spec.1 (vz T).choose_spec.2 jL (iz (jF (jm (K:=K)) (pvD 0) iJ (λ_ _=>rfl)) (iz (jF (jm (K:=K)) (pvD 0) iJ (λ_ _=>rfl)) (iz (jF (jm (K:=K)) (pvD 0) iJ (λ_ _=>rfl)) (iz (jF (jm (K:=K)) (pvD 0) iJ (λ_ _=>rfl)) (iz (jF (jm (K:=K)) (pvD 0) iJ (λ_ _=>rfl)) (iz (jF (jm (K:=K)) (pvD 0) iJ (λ_ _=>rfl)) iD))))))))) jx)
   (iB (jX (jl (mW) (jF (jm (K:=K)) (pvD 0) iJ (λ_ _=>rfl)) jG (jr _)) (iG (iY (lR T.ag1 (Gi (K:=K) T) (hr.mono (by decide)) (by rfl) T.afn (uf T).choose_spec.1 (uf T).choose_spec.2 jL (iz (jF (jm (K:=K)) (pvD 0) iJ (λ_ _=>rfl)) (iz (jF (jm (K:=K)) (pvD 0) iJ (λ_ _=>rfl)) (iz (jF (jm (K:=K)) (pvD 0) iJ (λ_ _=>rfl)) (iz (jF (jm (K:=K)) (pvD 0) iJ (λ_ _=>rfl)) (iz (jF (jm (K:=K)) (pvD 0) iJ (λ_ _=>rfl)) (iz (jF (jm (K:=K)) (pvD 0) iJ (λ_ _=>rfl)) (iz (jF (jm (K:=K)) (pvD 0) iJ (λ_ _=>rfl)) iD)))))))))) jx)
   (iB (jX (jl (mW) (jF (jm (K:=K)) (pvD 0) iJ (λ_ _=>rfl)) jG (jr _)) (iG (iY (lR T.ag2 (Gx (K:=K) T) (hr.mono (by decide)) (by rfl) T.afo (Jq T) .nil jL (iz (jF (jm (K:=K)) (pvD 0) iJ (λ_ _=>rfl)) (iz (jF (jm (K:=K)) (pvD 0) iJ (λ_ _=>rfl)) (iz (jF (jm (K:=K)) (pvD 0) iJ (λ_ _=>rfl)) (iz (jF (jm (K:=K)) (pvD 0) iJ (λ_ _=>rfl)) (iz (jF (jm (K:=K)) (pvD 0) iJ (λ_ _=>rfl)) (iz (jF (jm (K:=K)) (pvD 0) iJ (λ_ _=>rfl)) iD))))))))) jx)
   (iB (jX (jl (mW) (jF (jm (K:=K)) (pvD 0) iJ (λ_ _=>rfl)) jG (jr _)) (iG (iY (lR T.ag3 (Gq (K:=K) T) (hr.mono (by decide)) (by rfl) T.afp (tW T).choose_spec.1 (tW T).choose_spec.2 jL (iz (jF (jm (K:=K)) (pvD 0) iJ (λ_ _=>rfl)) (iz (jF (jm (K:=K)) (pvD 0) iJ (λ_ _=>rfl)) (iz (jF (jm (K:=K)) (pvD 0) iJ (λ_ _=>rfl)) (iz (jF (jm (K:=K)) (pvD 0) iJ (λ_ _=>rfl)) (iz (jF (jm (K:=K)) (pvD 0) iJ (λ_ _=>rfl)) iD)))))))) jx)
   (iB (jX (jl (mW) (jF (jm (K:=K)) (pvD 0) iJ (λ_ _=>rfl)) jG (jr _)) (iG (iY (lR T.ag4 (Eo (K:=K) T) (hr.mono (by decide)) (by rfl) T.afq (Gn T) .nil jL (iz (jF (jm (K:=K)) (pvD 0) iJ (λ_ _=>rfl)) (iz (jF (jm (K:=K)) (pvD 0) iJ (λ_ _=>rfl)) (iz (jF (jm (K:=K)) (pvD 0) iJ (λ_ _=>rfl)) (iz (jF (jm (K:=K)) (pvD 0) iJ (λ_ _=>rfl)) (iz (jF (jm (K:=K)) (pvD 0) iJ (λ_ _=>rfl)) iD)))))))) jx)
   (iG (iY (lR T.agZ (Bk (K:=K) T) (hr.mono (by decide)) (by rfl) T.afl (CW T) .nil jL (iz (jF (jm (K:=K)) (pvD 0) iJ (λ_ _=>rfl)) (iz (jF (jm (K:=K)) (pvD 0) iJ (λ_ _=>rfl)) (iz (jF (jm (K:=K)) (pvD 0) iJ (λ_ _=>rfl)) (iz (jF (jm (K:=K)) (pvD 0) iJ (λ_ _=>rfl)) (iz (jF (jm (K:=K)) (pvD 0) iJ (λ_ _=>rfl)) (iz (jF (jm (K:=K)) (pvD 0) iJ (λ_ _=>rfl)) iD)))))))))))))),?_⟩
  rw[ho]at hn;obtain rfl:nv=.non:=hn;simp only[start_eq]
  cases e with
  |buy d n w p r f=>
   have z:H q=some (.tup [.str "buy",.int d,.int n,.str w,.int p,.int r,.int f]):=z;refine gi1 rfl z rfl ?_;rw[ap_ret,ap_make];refine mU rfl z rfl (mU rfl z rfl (mU rfl z rfl (mU rfl z rfl (mU rfl z rfl (mU rfl z rfl (?_))))));rw[ap_nil];intro x dx hx aa ab;exact⟨x,d,n,p,r,f,w,H,dx,rfl,pX hx aa,hg,λH' hM=>⟨rfl,k x _ H' (same_refl H) hM⟩⟩
  |sell d n w p r f o=>
   obtain rfl:o=none:=ho;have z:H q=some (.tup [.str "sell",.int d,.int n,.str w,.int p,.int r,.int f,.non]):=z;refine si1 rfl z rfl (by decide+kernel) ?_;refine gi1 rfl z rfl ?_;rw[ap_ret,ap_make];refine mU rfl z rfl (mU rfl z rfl (mU rfl z rfl (mU rfl z rfl (mU rfl z rfl (mU rfl z rfl (mU rfl z rfl (?_)))))));rw[ap_nil];intro x dx hx aa ab;exact⟨x,d,n,p,r,f,w,H,dx,rfl,pX hx aa,hg,λH' hM=>⟨rfl,k x _ H' (same_refl H) hM⟩⟩
  |gift d n w p c s=>
   have z:H q=some (.tup [.str "gift",.int d,.int n,.str w,.int p,.int c,.int s]):=z;refine si1 rfl z rfl (by decide+kernel) ?_;refine si1 rfl z rfl (by decide+kernel) ?_;refine gi1 rfl z rfl ?_;rw[ap_ret,ap_make];refine mU rfl z rfl (mU rfl z rfl (mU rfl z rfl (mU rfl z rfl (mU rfl z rfl (mU rfl z rfl (?_))))));rw[ap_nil];intro x dx hx aa ab;exact⟨x,d,n,p,c,s,w,H,dx,rfl,pX hx aa,hg,λH' hM=>⟨rfl,k x _ H' (same_refl H) hM⟩⟩
  |give d n w p o=>
   obtain rfl:o=none:=ho;have z:H q=some (.tup [.str "give",.int d,.int n,.str w,.int p,.non]):=z;refine si1 rfl z rfl (by decide+kernel) ?_;refine si1 rfl z rfl (by decide+kernel) ?_;refine si1 rfl z rfl (by decide+kernel) ?_;refine gi1 rfl z rfl ?_;rw[ap_ret,ap_make];refine mU rfl z rfl (mU rfl z rfl (mU rfl z rfl (mU rfl z rfl (mU rfl z rfl (?_)))));rw[ap_nil];intro x dx hx aa ab;exact⟨x,d,n,p,w,H,dx,rfl,pX hx aa,hg,λH' hM=>⟨rfl,k x _ H' (same_refl H) hM⟩⟩
  |split d n w m f=>
   have z:H q=some (.tup [.str "split",.int d,.int n,.str w,.int m,.int f]):=z;refine si1 rfl z rfl (by decide+kernel) ?_;refine si1 rfl z rfl (by decide+kernel) ?_;refine si1 rfl z rfl (by decide+kernel) ?_;refine si1 rfl z rfl (by decide+kernel) ?_;refine gi1 rfl z rfl ?_;rw[ap_ret,ap_make];refine mU rfl z rfl (mU rfl z rfl (mU rfl z rfl (mU rfl z rfl (mU rfl z rfl (?_)))));rw[ap_nil];intro x dx hx aa ab;exact⟨x,d,n,m,f,w,H,dx,rfl,pX hx aa,hg,λH' hM=>⟨rfl,k x _ H' (same_refl H) hM⟩⟩
  |part d n w u s t=>
   have z:H q=some (.tup [.str "part",.int d,.int n,.str w,.str u,.int s,.int t]):=z;refine si1 rfl z rfl (by decide+kernel) ?_;refine si1 rfl z rfl (by decide+kernel) ?_;refine si1 rfl z rfl (by decide+kernel) ?_;refine si1 rfl z rfl (by decide+kernel) ?_;refine si1 rfl z rfl (by decide+kernel) ?_;rw[ap_ret,ap_make];refine mU rfl z rfl (mU rfl z rfl (mU rfl z rfl (mU rfl z rfl (mU rfl z rfl (mU rfl z rfl (?_))))));rw[ap_nil];intro x dx hx aa ab;exact⟨x,d,n,s,t,w,u,H,dx,rfl,pX hx aa,hg,λH' hM=>⟨rfl,k x _ H' (same_refl H) hM⟩⟩
inductive JD(A:Adr)(vs:List V)(H:Hp)(Q:VK)(E:XK):Prop
 |mk (c:Int) (_:vs=[.int c]) (_:∀w C dw H',Same H H'->H' w=some (.ins C dw [])->TY A C->Q (.ref w) H'):JD A vs H Q E
def Rb(T:Txt K mg A D):jQ P w K mg base CX0 1 A.aa9 D.aa9 ["_law_cell"] (JD A):=by
 refine T.adh.F.okv Su λ_ _ _ _ H vs Q E hr h=>?_
 ·obtain⟨c,rfl,k⟩:=h
  refine⟨_,(iG (iY (jF (mC (K:=K)) (kW (iz (Nv T.ag9 (by rfl) T.afg) (iz (Nv T.aha (by rfl) T.afh) (iz (Nv T.ahb (by rfl) T.afi) (iz (Nv T.ahc (by rfl) T.afj) iD))))) (ju um (pvD 0) iJ) (λ_ _=>rfl)))),?_⟩;walk_at "a";intro x0 d0 ab q n0 x1 d1 ad ae n1 x2 d2 ac z n2 x3 d3 af aa n3;refine⟨sz,λp hp=>?_⟩;have a0:=pX (C:=A.acR) ab q;have a1:=pX (C:=A.acS) ad ae;have a2:=pX (C:=A.acT) ac z;have a3:=pX (C:=A.acU) af aa;have ap:=iM (o:=.lst [V.ref x0,V.ref x1,V.ref x2,V.ref x3]) hp;have t3:=a3.s.trans ap;have t2:=a2.s.trans t3;have t1:=a1.s.trans t2;have S:=a0.s.trans t1;have h0:=z6 c (show(4:Int)≠0 by decide);have h1:=zY c (show(0:Int)<4 by decide);refine⟨by decide,_,iQ iH,?_⟩;have hc:c%4=0\/c%4=1\/c%4=2\/c%4=3:=by omega
  rcases hc with e|e|e|e<;>rw[e]
  ·exact⟨_,rfl,k x0 _ d0 _ S (t1 _ _ a0.h) .e⟩
  ·exact⟨_,rfl,k x1 _ d1 _ S (t2 _ _ a1.h) .n⟩
  ·exact⟨_,rfl,k x2 _ d2 _ S (t3 _ _ a2.h) .d⟩
  ·exact⟨_,rfl,k x3 _ d3 _ S (ap _ _ a3.h) .m⟩
noncomputable def aji(x:List V):Prop:=∃(a b c:Int)(z:Str)(d:Int),x=[.int a,.int b,.int c,.str z,.int d]
noncomputable def dvV:V->DV
 |.int i=> .int i
 |.str z=> .str z
 |_=> .non
def RP{g:Int}{k:BkD}:∀x∈VG g k,aji x:=λx q=>by
 obtain⟨c,_,q⟩:=List.mem_flatMap.mp q;obtain⟨r,_,rfl⟩:=zi.mp q;exact⟨_,_,_,_,_,rfl⟩
theorem GJ{H:Hp}:∀{as:List Addr}{xs:List (List V)},lV H as xs->∃zs:List (Addr×List V),as=zs.map (·.1)/\xs=zs.map (·.2)/\∀z∈zs,H z.1=some (.tup z.2)
 |[],[],_=>⟨[],rfl,rfl,λz h=>(zn h).elim⟩
 |[],_::_,h=>by have:=h.1;simp at this
 |_::_,[],h=>by have:=h.1;simp at this
 |a::as,x::xs,h=>by
  obtain⟨y,e,hy⟩:=h.2 0 a rfl;cases e;obtain⟨zs,e1,e2,e3⟩:=GJ (as:=as) (xs:=xs) ⟨by simpa using h.1,λi b hb=>h.2 (i+1) b hb⟩;refine⟨(a,x)::zs,by rw[e1];rfl,by rw[e2];rfl,λz q=>?_⟩;rcases zu.mp q with rfl|q
  ·exact hy
  ·exact e3 z q
theorem Qt{H:Hp}:∀{zs:List (Addr×List V)},(∀z∈zs,H z.1=some (.tup z.2)/\aji z.2)->qX K H ((zs.map (·.1)).map V.ref) (zs.map λz=> .tup (z.2.map dvV))
 |[],_=> .nil
 |z::zs,h=>by
  obtain⟨h1,a,b,c,s,d,e⟩:=h z zj;refine .cons (.tup (jD h1) ?_) (Qt λy q=>h y (zp _ q));rw[e];exact .cons (.int _) (.cons (.int _) (.cons (.int _) (.cons (.str _) (.cons (.int _) .nil))))
theorem Hl:∀{zs:List (List V)},(∀z∈zs,aji z)->Ac (zs.map λz=> .tup (z.map dvV))<=19
 |[],_=>by decide
 |z::zs,h=>by
  rw[zl];unfold Ac;refine Nat.max_le.mpr ⟨?_,Hl λy q=>h y (zp _ q)⟩;obtain⟨a,b,c,s,d,e⟩:=h z zj;rw[e];simp[dvV,Ce,Ac]
def GP{H:Hp}{p:Addr}{as:List Addr}{xs:List (List V)}(hp:H p=some (.lst (as.map V.ref)))(h:lV H as xs)(hf:∀x∈xs,aji x):Ka K H (.ref p) (.lst (xs.map λz=> .tup (z.map dvV))):=by
 obtain⟨zs,rfl,rfl,e⟩:=GJ h;rw[zx];exact .lst (iQ hp) (Qt λz q=>⟨e z q,hf _ (zi.mpr ⟨z,q,rfl⟩)⟩)
def ajC{H:Hp}{Q:VK}{p q:Addr}{as bs:List Addr}{xs:List (List V)}(hp:H p=some (.lst (as.map V.ref)))(hq:H q=some (.lst (bs.map V.ref)))(h1:lV H as xs)(h2:lV H bs xs)(z:∀x∈xs,aji x)(k:Q (.bl false) H):alS K (.ref p) (.ref q) H Q:=
 ⟨_,_,GP hp h1 z,GP hq h2 z,zzD (zJ _),zzD (Hl z),by rw[CT];exact k⟩
def ajb{H:Hp}{Q:VK}{p q:Addr}{as bs:List Addr}{xs:List (List V)}(hp:H p=some (.lst (as.map V.ref)))(hq:H q=some (.lst (bs.map V.ref)))(h1:lV H as xs)(h2:lV H bs xs)(z:∀x∈xs,aji x)(k:Q (.bl true) H):alJ K (.ref p) (.ref q) H Q:=
 ⟨_,_,GP hp h1 z,GP hq h2 z,zzD (zJ _),zzD (Hl z),by rw[CT];exact k⟩
structure aaR(A:Adr)(B H:Hp)(q l:Addr)(sl:List (Addr×jR))(as:List Addr)(xs:List (List V)):Prop where
 s:Same B H
 q:H q=some (.lst (pZ sl))
 t:∀t∈sl,kI A H t.1 t.2/\t.2.pl≠l
 l:H l=some (.lst (as.map V.ref))
 x:lV H as xs
theorem aaR.same{B H H':Hp}{q l:Addr}{sl:List (Addr×jR)}{as:List Addr}{xs:List (List V)}(h:aaR A B H q l sl as xs)(s:Same H H'):aaR A B H' q l sl as xs:=⟨h.s.trans s,s _ _ h.q,λt z=>⟨(h.t t z).1.same s,(h.t t z).2⟩,s _ _ h.l,h.x.same s⟩
theorem aaR.app{B H:Hp}{q l t:Addr}{sl:List (Addr×jR)}{as:List Addr}{xs:List (List V)}{x:List V}(h:aaR A B H q l sl as xs)(hl:B l=none)(z:q≠l)(ht:H t=some (.tup x)):aaR A B (upd H l (.lst (as.map V.ref++[.ref t]))) q l sl (as++[t]) (xs++[x]):=by
 have g:∀{a:Addr}{y:List V}{o:HO},H a=some (.tup y)->(upd H l o) a=some (.tup y):=λe=>(iU λc=>by rw[c,h.l]at e;cases e).trans e;refine⟨h.s.upd hl,(iU z).trans h.q,λu hu=>⟨(h.t u hu).1.but h.l (h.t u hu).2 Tt,(h.t u hu).2⟩,by rw[iH,zv];rfl,lV.app ⟨h.x.1,λi a e=>let⟨y,e1,e2⟩:=h.x.2 i a e;⟨y,e1,g e2⟩⟩ ⟨rfl,λi a e=>?_⟩⟩
 cases i with
 |zero=>cases e;exact⟨x,rfl,g ht⟩
 |succ i=>simp at e
inductive Ii(A:Adr)(vs:List V)(H:Hp)(Q:VK)(E:XK):Prop
 |mk (b:Addr) (k:BkD) (g:Int) (_:vs=[.ref b,.int g]) (_:jk A H b k) (_:k.sl.length<=100) (_:∀l as H',Same H H'->H l=none->H' l=some (.lst (as.map V.ref))->lV H' as (VG g k)->Q (.ref l) H'):Ii A vs H Q E
def RG(T:Txt K mg A D):jQ P w K mg base CX0 5 A.acI D.acI ["_law_book", "_law_long"] (Ii A):=by
 refine T.aeO.F.okv lG λ_ _ _ _ H vs Q E hr h=>?_
 ·obtain⟨b,kb,g,rfl,hB,hl,k⟩:=h
  refine ⟨_,(iB (ji (i:=2) lG.nd rfl orl (kW iD))
   (iB (oE zQ rfl (kJ (K:=K) (lU (pv 0) (mc T.agv T.ahY (lF T) hr (lW T) (mc T.agI T.ahZ (lF T) hr (lW T) .nil)) jL)) (iW (i:=3) lG.nd rfl orl)
    (iG (oE zQ rfl (kJ (K:=K) (fv K 3)) (nO (K:=K) (n:=5) rfl (jy (iW (i:=4) lG.nd rfl orl) (jy (iW (i:=5) lG.nd rfl orl) (jy (iW (i:=6) lG.nd rfl orl) (jy (iW (i:=7) lG.nd rfl orl) (jy (iW (i:=8) lG.nd rfl orl) nM))))))
     (iB (ji (i:=9) lG.nd rfl orl (ju pY (pvD 8) (pvD 7)))
     (iB (jX (jl (Nh) (fv K 3) nu (jr _)) (iG (ji (i:=9) lG.nd rfl orl iJ)) jx)
     (iG (jo (qx (K:=K) zH zR zS mD (pvD 2) (iz (lY (iz (fv K 3) (pav 4 (pav 6 (iz (jF (mC (K:=K)) (kW (iz jG (iz jG iD))) (nq Xw (by rfl) T.aeZ (by decide+kernel) (iz (uU (akM) (ju pY (fv K 3) (pvD 5)) (pvD 1) (jr _)) iD)) (λ_ _=>rfl)) (pav 9 iD)))))) iD)))))))))
   (iG (iY (pvD 2))))),?_⟩
  simp only[start_eq];walk_at "m";refine⟨sz,λl ad=>?_⟩;have s1:=iM (o:=.lst []) ad;have h1:(upd H l (.lst [])) l=some (.lst []):=iH;generalize upd H l (.lst [])=H1 at s1 h1;have ac:=hB.same s1;obtain⟨db,an⟩:=ac.i
  (try dsimp only)
  refine jK λu hu=>?_;rw[ap_seq];refine rm λtb am=>?_;rw[ap_for];walk_at "i";refine md an ac.me (kb.noM _ (by decide+kernel)) ⟨b,kb,rfl,ac,hl,λq sl H2 s2 hq h2 af hd=>?_⟩;have ap:sl.length=kb.sl.length:=by simpa using congrArg List.length hd
  have al:q≠l:=λe=>by rw[e,h1]at hq;cases hq
  rw[GF hd]at k;refine⟨q,rfl,⟨_,iQ h2⟩,?_⟩
  refine Gg.listN (K:=K) (a:=q) (xs:=pZ sl) (λi σ H3=>∃(v3 v4 v5 v6 v7 v8 v9:Option V)(as:List Addr),σ=[some (.ref b),some (.int g),some (.ref l),v3,v4,v5,v6,v7,v8,v9]/\aaR A H H3 q l sl as ((sl.take i).flatMap λt=>nU t.2 g))
   ⟨_,_,_,_,_,_,_,[],rfl,s1.trans s2,h2,λt ht=>⟨(af t ht).1,λe=>?_⟩,s2 _ _ h1,rfl,λi a e=>by simp at e⟩ (λi σ H3 _ ⟨_,_,_,_,_,_,_,_,_,h⟩=>iQ h.q) ?_ ?_
  ·have:=(af t ht).2
   rw[e,h1]at this;cases this
  ·rintro i y σ H3 hi ⟨v3,v4,v5,v6,v7,v8,v9,as,rfl,I3⟩ N hN
   obtain ⟨t,ht,rfl⟩:∃t,sl[i]? =some t/\y=.ref t.1:=by
    unfold pZ at hi;rw[zd]at hi
    cases e:sl[i]? with
    |none=>rw[e]at hi;cases hi
    |some r=>rw[e]at hi;exact⟨r,rfl,(zw hi).symm⟩
   have aa:=zm ht;have aq:i<sl.length:=(zk.mp ht).1;subst am;rw[ap_name];refine rm λtc ah=>?_;rw[ap_for];walk_at "i";obtain⟨dt,ao⟩:=(I3.t t aa).1.i;refine rd ao T.agS T.agX (by rfl) ⟨t.2.pl,rfl,⟨_,iQ (I3.t t aa).1.p⟩,?_⟩
   refine Gg.listN (K:=K) (a:=t.2.pl) (xs:=Gm t.2.ps) (λj σ H4=>∃(v4 v5 v6 v7 v8 v9:Option V)(bs:List Addr),σ=[some (.ref b),some (.int g),some (.ref l),some (.ref t.1),v4,v5,v6,v7,v8,v9]/\aaR A H H4 q l sl bs (((sl.take i).flatMap λt=>nU t.2 g)++(nU t.2 g).take j))
    ⟨_,_,_,_,_,_,as,rfl,by rw[List.take_zero,z5];exact I3⟩ (λj σ H4 _ ⟨_,_,_,_,_,_,_,_,h⟩=>iQ (h.t t aa).1.p) ?_ ?_
   ·rintro j y σ H4 hj ⟨v4,v5,v6,v7,v8,v9,bs,rfl,I4⟩ N2 ak
    obtain⟨r,ag,rfl⟩:=Jf hj;have ae:=(I4.t t aa).1;have aj:=ae.t r (zm ag);obtain⟨dt,ab⟩:=ae.i;subst ah;walk_at "i";refine⟨_,jD aj,rfl,_,_,rfl,_,_,rfl,_,_,rfl,_,_,rfl,_,_,rfl,rfl,?_⟩;walk_at "m";refine Nx (λσ' H'=>σ'=[some (.ref b),some (.int g),some (.ref l),some (.ref t.1),some (.int r.2.1.n),some (.int r.2.1.s),some (.int r.2.1.p),some (.int r.2.1.c),some (.int r.2.2),some (.int (gnP t.2 r.2.1 r.2.2))]/\H'=H4) ?_ ?_
    ·rintro σ' H' ⟨rfl,rfl⟩
     walk_at "i";refine⟨tyL (iQ I4.l),rd ab T.agS T.agT (by rfl) ⟨sz,λp hp=>?_⟩⟩;have s5:=iM (o:=.lst [V.str (Str.ofString "short"),V.str (Str.ofString "long")]) hp;refine rd (s5 _ _ ab) T.agS T.agU (by rfl) ⟨_,rfl,.inr ⟨_,iQ iH,.str (kdP t.2 r.2.1 g),?_,sz,λp1 ai=>?_⟩⟩
     ·unfold kdP
      by_cases c:g<=t.2.d - r.2.1.s
      ·rw[zo c,zo c];rfl
      ·rw[ze c,ze c];rfl
     have I6:=(I4.same s5).same (iM (o:=.tup (ajF t.2 g r.2.1 r.2.2)) ai);refine⟨_,I6.l,?_,?_⟩
     ·have g1:=I6.x.1
      rw[zA,zU]at g1;have g3:=MP (sl:=sl.take i) (g:=g) λu hu=>(I6.t u (y6 hu)).1.l;have g4:=ae.l;have h3:(nU t.2 g).length=t.2.ps.length:=by unfold nU;rw[za]
      rw[zU]at g3;rw[za,zq];omega
     ·have e:(nU t.2 g).take (j+1)=(nU t.2 g).take j++[ajF t.2 g r.2.1 r.2.2]:=by
       rw[zN];unfold nU;rw[zd,ag];rfl
      exact ak _ _ ⟨_,_,_,_,_,_,_,rfl,by rw[e,<-yW];exact I6.app ad al iH⟩
    ·intro N hN
     walk_at "i";refine rd ab T.agS T.agY (v:=loV t.2.lo) (by rfl) (?_);unfold gnP at hN
     cases e:t.2.lo with
     |none=>
      rw[e,zo rfl]at hN;rw[ze (λc=>c rfl)];exact hN _ _ ⟨rfl,rfl⟩
     |some z=>
      rw[e,ze (λc=>by cases c)]at hN;rw[zo (λc=>by cases c)];exact hN _ _ ⟨rfl,rfl⟩
   ·rintro σ H4 ⟨v4,v5,v6,v7,v8,v9,bs,rfl,I4⟩
    rw[ut,zT (l:=nU t.2 g) (by unfold nU;rw[za];exact zg _)]at I4;refine hN _ _ ⟨_,_,_,_,_,_,_,bs,rfl,?_⟩;rw[zN,ht,List.flatMap_append,show(some t).toList=[t]from rfl,zzu,List.flatMap_nil,z5];exact I4
  ·rintro σ H3 ⟨v3,v4,v5,v6,v7,v8,v9,as,rfl,I3⟩
   rw[Hf,z0]at I3;subst hu;walk_at "a";exact k l as H3 I3.s ad I3.l I3.x
inductive Dh(A:Adr)(K:Fg_)(vs:List V)(H:Hp)(Q:VK)(E:XK):Prop
 |mk (b a:Addr) (k:BkD) (ns:List Int) (_:vs=[.ref b,.ref a]) (_:jk A H b k) (_:k.sl.length<=100) (_:SqL K H a (ns.map V.int)) (_:∀l (gs:List Int) H',Same H H'->H l=none->H' l=some (.lst (gs.map V.int))->Q (.ref l) H'):Dh A K vs H Q E
def MF(T:Txt K mg A D):jQ P w K mg base CX0 5 A.acv D.acv ["_law_book", "_law_script"] (Dh A K):=by
 refine T.aeB.F.okv qg λ_ _ _ _ H vs Q E hr h=>?_
 ·obtain⟨b,a,kb,ns,rfl,hB,hl,hS,k⟩:=h
  refine ⟨_,(iB (ji (i:=2) qg.nd rfl orl (kW (iz iJ iD)))
   (iB (oE zQ rfl (kJ (K:=K) (lU (pv 0) (mc T.agv T.ahY (lF T) hr (lW T) (mc T.agI T.ahZ (lF T) hr (lW T) .nil)) jL)) (iW (i:=3) qg.nd rfl orr)
    (iG (jo (qx (K:=K) zH zzg zzh Hg (pvD 2) (iz (jO (cap:=[none,some 3]) (N':=["_law_part", "_law_sale"]) rfl (by walk_at "c") (kJ (K:=K) (fv K 3)) (λ_ _ _ _=>(iW (i:=0) (show(["_law_part", "_law_sale"]:List Str).Nodup from by decide+kernel) rfl orl orr)) (λ_ _ _ _=>jP) (λ_ _ _ _=>(ju pY (fv K 1) (jF (jm (K:=K)) (pvD 0) iJ (λ_ _=>rfl))))) iD)))))
   (iB (ji (i:=4) qg.nd rfl orl (jF (mC (K:=K)) (pvD 2) (ju um (pcg (lw T) hr T.adx (lK T) (pav 1 (iz iJ iD))) (jt (nA (K:=K)) (by rfl) T.ae3 (by decide+kernel) (pav 2 iD))) (λ_ _=>rfl)))
   (iG (iY (kW (iz iJ (pav 4 (iz (jt (Qp rfl) (by rfl) T.afa (by decide+kernel) (iz (ju uo iJ iJ) (iz (ju kE (pvD 4) iJ) iD))) (iz (ju um (pcg (lw T) hr T.adx (lK T) (pav 1 (iz iJ iD))) (ju kE (ju uo iJ iJ) iJ)) iD)))))))))),?_⟩
  simp only[start_eq];walk_at "m";refine⟨sz,λl ai=>?_⟩;have s1:=iM (o:=.lst [V.int 0]) ai;have h1:(upd H l (.lst [V.int 0])) l=some (.lst ([0].map V.int)):=iH;generalize upd H l (.lst [V.int 0])=H1 at s1 h1;have ac:=hB.same s1;obtain⟨db,ar⟩:=ac.i
  (try dsimp only)
  refine jK λu hu=>?_;rw[ap_seq];refine rm λtb aq=>?_;rw[ap_for];walk_at "i";refine md ar ac.me (kb.noM _ (by decide+kernel)) ⟨b,kb,rfl,ac,hl,λq sl H2 s2 hq h2 aj hd=>?_⟩;have au:sl.length=kb.sl.length:=by simpa using congrArg List.length hd
  have an:q≠l:=λe=>by rw[e,h1]at hq;cases hq
  refine⟨q,rfl,⟨_,iQ h2⟩,?_⟩
  refine Gg.listN (K:=K) (a:=q) (xs:=pZ sl) (λi σ H3=>∃(v3 v4:Option V)(xs:List Int),σ=[some (.ref b),some (.ref a),some (.ref l),v3,v4]/\Same H H3/\H3 q=some (.lst (pZ sl))/\(∀t∈sl,kI A H3 t.1 t.2/\t.2.pl≠l)/\H3 l=some (.lst (xs.map V.int))/\xs≠[]/\xs.length<=1+61*i)
   ⟨_,_,[0],rfl,s1.trans s2,h2,λt ht=>⟨(aj t ht).1,λe=>?_⟩,s2 _ _ h1,by simp,by simp⟩ (λi σ H3 _ ⟨_,_,_,_,_,h,_⟩=>iQ h) ?_ ?_
  ·have:=(aj t ht).2
   rw[e,h1]at this;cases this
  ·rintro i y σ H3 hi ⟨v3,v4,xs,rfl,s3,h3,z,aa,ad,ae⟩ N hN
   obtain ⟨t,ht,rfl⟩:∃t,sl[i]? =some t/\y=.ref t.1:=by
    unfold pZ at hi;rw[zd]at hi
    cases e:sl[i]? with
    |none=>rw[e]at hi;cases hi
    |some r=>rw[e]at hi;exact⟨r,rfl,(zw hi).symm⟩
   have ap:=zm ht;have aw:i<sl.length:=(zk.mp ht).1;have ab:=(z t ap).1;obtain⟨dt,af⟩:=ab.i;have ax:=ab.l;subst aq;walk_at "i";refine⟨tyL (iQ aa),rd af T.agS T.agX (by rfl) ⟨t.2.pl,rfl,⟨_,iQ ab.p⟩,?_⟩⟩;refine Mx (f:=λr:Addr×jz×Int=>V.ref r.1) (λσ=>∃v,σ=[v,some (.ref t.1)]) (λ_ r v _=>v=.int (t.2.d - r.2.1.s)) (iQ ab.p) ⟨_,rfl⟩ (by omega) ?_ ?_
   ·rintro Da r ao σ H5 R ⟨_,rfl⟩ sm hD hA kk
    have al:=sm _ _ (ab.t r ao);walk_at "i";exact rd (sm _ _ af) T.agS T.agU (by rfl) ⟨_,jD al,_,rfl,_,rfl,_,rfl,kk _ _ _ ⟨_,rfl⟩ (same_refl _) λ_ _=>rfl⟩
   ·intro D4 H4 as av s4 ag am
    rw[vN.ints am]at ag;have ah:=s4 _ _ aa;refine⟨l,D4,_,_,rfl,rfl,ah,ag,by rw[za,za,za,zq];omega,?_⟩;rw[<-zv];refine hN _ _ ⟨_,_,_,rfl,(s3.trans s4).upd ai,(iU an).trans (s4 _ _ h3),λu hu=>⟨((z u hu).1.same s4).but ah (z u hu).2 Tt,(z u hu).2⟩,iH,by simp[ad],?_⟩;rw[zA,za];omega
  ·rintro σ H3 ⟨v3,v4,xs,rfl,s3,h3,z,aa,ad,ae⟩
   rw[Hf]at ae;subst hu;walk_at "m";have ay:0<(xs.map V.int).length:=by rw[za];exact yt.mpr ad
   obtain ⟨v,hv⟩:∃v,atI (xs.map V.int) (ns.getD 4 0%((xs.map V.int).length:Int))=some (.int v):=by
    have g1:=z6 (ns.getD 4 0) (show((xs.map V.int).length:Int)≠0 by omega);have g2:=zY (ns.getD 4 0) (show 0<((xs.map V.int).length:Int) by omega);obtain⟨j,hj⟩:∃j:Nat,(j:Int)=ns.getD 4 0%((xs.map V.int).length:Int):=⟨_,Int.toNat_of_nonneg g1⟩;rw[<-hj]at g2⊢;have ak:j<xs.length:=by rw[za]at g2;omega
    exact⟨xs[j],Jb (by rw[zd,zh ak];rfl)⟩
   have cp:alE 10 6:=Ek (by decide) (by decide);exact⟨a,ns,4,rfl,s3.seq hS,_,.inl (iQ aa),_,rfl,by omega,_,iQ aa,.int v,hv,cp,v,rfl,a,ns,5,rfl,s3.seq hS,cp,_,rfl,by decide,sz,λp hp=>k p [0,v,_,_] _ (s3.trans (iM hp)) (s3.free hp) iH⟩
def XF{a:Addr}{xs:List V}{cap:List (Option Nat)}{g:TG}{tt:TT}{te:TE}{σ:L2.St}{H:Hp}{Q:VK}(Sσ:L2.St->Prop)(hS:SqT K H a xs)(h0:Sσ (pD σ cap))(hz:xs.length<=sizeLine)
  (hs:∀x∈xs,∀(σ:L2.St)(q:Hp)(R1:L2.St->VK)(R2:L2.St->Hp->Prop),Sσ σ->Same H q->(∀σ4 H6,Sσ σ4->Same q H6->R2 σ4 H6)->g x σ q λσ4 H4=>tt σ4 H4 λb q=>if b=true then te σ4 q (R1 σ4)else R2 σ4 q)
  (k:∀D H',H D=none->Same H H'->H' D=some (.lst [])->Q (.ref D) H'):lu cap (Itt K a) g tt te σ H Q:=by
 intro D hD
 exact xg (te:=te) (tt:=tt) (g:=g) (σ0:=pD σ cap) (Q:=Q) (Itt K a) Sσ (λ_=>false) id hD h0 hz (λi x q hx z=>⟨⟨xs,x,z.seqT hS,hx⟩,λy H' hy=>⟨zw ((hy.2 xs (z.seqT hS)).symm.trans hx),hy.1⟩⟩) (λq z=>⟨xs,z.seqT hS,zg _⟩)
  (λx hx σ5 q R1 R2 hσ z k1 k2=>hs x hx σ5 q R1 R2 hσ z (k2 rfl)) (λH' z e=>k D H' hD z (by
   have:xs.filter (λ_=>false)=[]:=yya.mpr λ_ _=>by decide
   rw[this]at e;exact e))
inductive Ci(vs:List V)(H:Hp)(Q:VK)(E:XK):Prop
 |mk (p q:Addr) (as bs:List Addr) (xs:List (List V)) (_:vs=[.ref p,.ref q]) (_:H p=some (.lst (as.map V.ref))) (_:H q=some (.lst (bs.map V.ref))) (_:lV H as xs) (_:lV H bs xs) (_:(∀x∈xs,aji x)) (_:∀H',Same H H'->Q (.bl true) H'):Ci vs H Q E
def MT(T:Txt K mg A D):jQ P w K mg base CX0 2 A.acO D.acO ["_law_found", "_law_due_here"] Ci:=by
 refine T.aeU.F.okv CZ λ_ _ _ _ H vs Q E hr h=>?_
 ·obtain⟨p,q,as,bs,xs,rfl,hp,hq,hA,hB,hF,k⟩:=h
  refine ⟨_,(iB (jX (PW.pt (Ey (Ae (nD (jt (pC (K:=K)) (by rfl) T.aeY (by decide+kernel) (pav 0 (iz (Pa "list" (by rfl) T.ae4 (by decide+kernel)) iD))))) (Ag (jl (Xd (K:=K) hr) (pvD 0) (pvD 1) (jr _))))) (iG (iY Jz)) jx)
   (iB (oE zQ rfl (jW (K:=K) (pv 0)) (iW (i:=2) CZ.nd rfl orl)
    (iB (jX (PW.pt (Ey (Ae (nD (jt (pC (K:=K)) (by rfl) T.aeY (by decide+kernel) (pav 2 (iz (Pa "tuple" (by rfl) T.aff (by decide+kernel)) iD))))) (Ag (Ae (nD (jt (pC (K:=K)) (by rfl) T.aeY (by decide+kernel) (iz (jF (jm (K:=K)) (pvD 2) iJ (λ_ _=>rfl)) (iz (Pa "str" (by rfl) T.ae2 (by decide+kernel)) iD)))))))) (iG (iY Jz)) jx)
    (iG (jX (jl (Xd (K:=K) hr) (jO (cap:=[none]) (N':=["_law_number"]) rfl (by walk_at "c") (aiF (K:=K) (ju (aaB (K:=K)) (GX (XR (K:=K)) (pvD 2) RV (JV iJ)) (GX (XR (K:=K)) (pvD 2) (JV iJ) RV))) (λ_ _ _ _=>(iW (i:=0) nd1 rfl orl orr)) (λ_ _ _ _=>(BL (Ae (nD (pcg (NK T) hr T.aeT (Qy T) (pav 0 iD)))))) (λ_ _ _ _=>(pvD 0))) (kW iD) (jr _)) (iG (iY Jz)) jx))))
   (iG (iY Jz)))),?_⟩
  simp only[start_eq];refine jK λu hu=>?_;walk_at "m";refine⟨_,.lst hp,true,by with_unfolding_all rfl,?_⟩;rw[ze (by decide)];refine ajC hp hq hA hB hF ⟨_,rfl,?_⟩;rw[ze (by decide)];subst hu;obtain⟨zs,rfl,rfl,hz⟩:=GJ hA;refine jK λu hu=>?_;rw[ap_seq];refine rm λtb ah=>?_;rw[ap_for];walk_at "i";refine⟨⟨_,iQ hp⟩,?_⟩;refine tY (K:=K) (a:=p) (xs:=(zs.map (·.1)).map V.ref) (λi σ H3=>(∃v2,σ=[some (.ref p),some (.ref q),v2])/\Same H H3) ⟨⟨_,rfl⟩,same_refl _⟩ (λi σ H3 _ ⟨_,s⟩=>s.seq (iQ hp)) ?_ ?_
  ·rintro i y σ H3 hi ⟨⟨v2,rfl⟩,s3⟩
   obtain ⟨z,ab,rfl⟩:∃z∈zs,y=.ref z.1:=by
    rw[zx]at hi;obtain⟨z,hz,e⟩:=zi.mp (zm hi);exact⟨z,hz,e.symm⟩
   have aa:=s3 _ _ (hz z ab);obtain⟨a,b,c,w,d,ez⟩:=hF z.2 (zi.mpr ⟨z,ab,rfl⟩);rw[ez]at aa;subst ah;rw[ap_name];refine jK λu2 af=>?_;walk_at "m";refine⟨_,.tup aa,true,by with_unfolding_all rfl,?_⟩;rw[ze (by decide)];refine⟨_,jD aa,_,rfl,_,.str _,true,by with_unfolding_all rfl,?_⟩;rw[ze (by decide)];subst af;walk_at "i";refine⟨_,jD aa,(by show¬(HT.sIx 5 0 none=0/\HT.sIx 5 5 (some 3)=5);decide),λp1 ag=>?_⟩;rw[show Ox [V.int a,V.int b,V.int c,V.str w,V.int d] none (some 3)=[V.int a,V.int b,V.int c]from ZC _ 3]at*;have s4:=iM (o:=.tup [V.int a,V.int b,V.int c]) ag;have h4:(upd H3 p1 (.tup [V.int a,V.int b,V.int c])) p1=some (.tup [V.int a,V.int b,V.int c]):=iH;generalize upd H3 p1 (.tup [V.int a,V.int b,V.int c])=H4 at s4 h4;refine⟨_,jD (s4 _ _ aa),(by show¬(HT.sIx 5 0 (some 4)=0/\HT.sIx 5 5 none=5);decide),λp2 ae=>?_⟩;rw[show Ox [V.int a,V.int b,V.int c,V.str w,V.int d] (some 4) none=[V.int d]from Ua _ 4];have s5:=iM (o:=.tup [V.int d]) ae;have h5:(upd H4 p2 (.tup [V.int d])) p2=some (.tup [V.int d]):=iH;generalize upd H4 p2 (.tup [V.int d])=H5 at s5 h5;refine⟨p1,p2,_,_,rfl,rfl,jD (s5 _ _ h4),jD h5,by simp,(by rw[zq];show 4<=16777216;decide),λc=>(by cases c),λ_ p3 ad=>⟨p3,rfl,⟨_,jD iH⟩,?_⟩⟩;have s6:=iM (o:=.tup ([V.int a,V.int b,V.int c]++[V.int d])) ad;refine XF (xs:=[V.int a,V.int b,V.int c,V.int d]) (λσ=>∃v,σ=[v]) (jD iH) ⟨_,rfl⟩ (by rw[zq];show 4<=16777216;decide) ?_ ?_
   ·rintro x hx σ H6 R1 R2 ⟨v,rfl⟩ sm kk
    obtain ⟨i,rfl⟩:∃i,x=.int i:=by
     simp only[zu,zn,or_false]at hx;rcases hx with rfl|rfl|rfl|rfl<;>exact⟨_,rfl⟩
    walk_at "i";refine⟨i,rfl,_,rfl,?_⟩;rw[ze (by decide)];exact kk _ _ ⟨_,rfl⟩ (same_refl _)
   ·intro D6 H6 ai s7 h6
    refine⟨sz,λp7 ac=>⟨.lst [],.lst [],.lst (iQ (iM ac _ _ h6)) .nil,.lst (iQ iH) .nil,by decide,by decide,_,rfl,?_⟩⟩;rw[CT,ze (by decide)];exact s3.trans (s4.trans (s5.trans (s6.trans (s7.trans (iM ac)))))
  ·rintro σ H3 ⟨⟨v2,rfl⟩,s3⟩
   subst hu;walk_at "a";exact k H3 s3
noncomputable def n0(x:List V):Int:=toI (x.getD 0 .non)
noncomputable def g4(x:List V):Int:=toI (x.getD 4 .non)
theorem Zc{α:Type}{a b:α->Int}:∀l:List α,(l.map λr=>a r - b r).sum=(l.map a).sum - (l.map b).sum
 |[]=>rfl
 |r::l=>by rw[zl,zl,zl,zO,zO,zO,Zc l];omega
theorem Tu{α:Type}:∀l:List α,(l.map λ_=>(0:Int)).sum=0
 |[]=>rfl
 |_::l=>by rw[zl,zO,Tu l];rfl
def ZD{g n:Int}{s:jR}(z:(s.ps.map λr=>r.2.2).sum=s.pr):(((nU s g).filter λx=>decide (n0 x=n)).map g4).sum=if s.n=n then s.cnt else 0:=by
 unfold nU;rw[yyf,zx];have e:((λx=>decide (n0 x=n))∘λr:Addr×jz×Int=>ajF s g r.2.1 r.2.2)=λ_=>decide (s.n=n):=rfl;have q:(g4∘λr:Addr×jz×Int=>ajF s g r.2.1 r.2.2)=λr=>gnP s r.2.1 r.2.2:=rfl;rw[e,q];by_cases h:s.n=n
 ·rw[zo h,zzd.mpr (λ_ _=>zE h)]
  unfold jR.cnt gnP;by_cases c:s.lo=none
  ·simp only[zo c]
   rw[<-z];exact Zc s.ps
  ·simp only[ze c]
   exact Tu s.ps
 ·rw[ze h,yya.mpr λ_ _=>by rw[zI h];decide]
  rfl
theorem Ul{g n:Int}:∀{sl:List (Addr×jR)},(∀t∈sl,(t.2.ps.map λr=>r.2.2).sum=t.2.pr)->(((sl.flatMap λt=>nU t.2 g).filter λx=>decide (n0 x=n)).map g4).sum=(sl.map λt=>if t.2.n=n then t.2.cnt else 0).sum
 |[],_=>rfl
 |t::sl,h=>by
  rw[zzu,ye,zv,yG,ZD (h t zj),Ul λu q=>h u (zp _ q),zl,zO]
theorem aaL{t:Addr×jR}:∀{sl:List (Addr×jR)},(sl.map λt=>t.2.n).Nodup->((t∈sl->(sl.map λu=>if u.2.n=t.2.n then u.2.cnt else 0).sum=t.2.cnt)/\(t.2.n∉sl.map (λt=>t.2.n)->(sl.map λu=>if u.2.n=t.2.n then u.2.cnt else 0).sum=0))
 |[],_=>⟨λh=>(zn h).elim,λ_=>rfl⟩
 |u::sl,hu=>by
  rw[zl,zP]at hu;obtain⟨h1,h2⟩:=aaL (t:=t) hu.2;rw[zl,zl,zO];refine⟨λh=>?_,λh=>?_⟩
  ·rcases zu.mp h with e|h
   ·rw[e]at h2⊢
    rw[zo rfl,h2 hu.1,Int.add_zero]
   ·rw[ze (λe:u.2.n=t.2.n=>hu.1 (e▸zi.mpr ⟨t,h,rfl⟩)),h1 h,zz9]
  ·rw[ze (λe:u.2.n=t.2.n=>h (e▸zj)),h2 (λc=>h (zp _ c))]
   rfl
inductive Fe(A:Adr)(vs:List V)(H:Hp)(Q:VK)(E:XK):Prop
 |mk (b:Addr) (k:BkD) (g:Int) (hs:List Ent) (_:vs=[.ref b,.int g]) (_:jk A H b k) (_:StB (hs.map Ent.num) hs k) (_:hs.length<=56) (_:(hs.map Ent.num).Nodup) (_:∀H',Same H H'->Q (.bl true) H'):Fe A vs H Q E
def QL(T:Txt K mg A D):jQ P w K mg base CX0 6 A.acQ D.acQ ["_law_book", "_law_long"] (Fe A):=by
 refine T.aeW.F.okv rD λ_ _ _ _ H vs Q E hr h=>?_
 ·obtain⟨b,kb,g,hs,rfl,hB,hS,hl,hn,k⟩:=h
  refine ⟨_,(iB (ji (i:=2) rD.nd rfl orl (pcg (RG T) hr T.aeO (Vd T) (pav 0 (pav 1 iD))))
   (iB (ji (i:=3) rD.nd rfl orl (pcg (Fj T) hr T.aeS (Ij T) (pav 0 (pav 1 iD))))
   (iB (jX (Ae (nD (pcg (MT T) hr T.aeU (PQ T) (pav 3 (pav 2 iD))))) (iG (iY Jz)) jx)
   (iB (oE zQ rfl (kJ (K:=K) (lU (pv 0) (mc T.agv T.ahY (lF T) hr (lW T) (mc T.agI T.ahZ (lF T) hr (lW T) .nil)) jL)) (iW (i:=4) rD.nd rfl orr)
    (iG (jX (jl (alP) (jt (mO (K:=K) rfl) (by rfl) T.ae8 (by decide+kernel) (iz (jO (cap:=[none,some 4]) (N':=["_law_row_here", "_law_sale"]) rfl (by walk_at "c") (jW (K:=K) (pv 3)) (λ_ _ _ _=>(iW (i:=0) (show(["_law_row_here", "_law_sale"]:List Str).Nodup from by decide+kernel) rfl orl orr)) (λ_ _ _ _=>(BL (jl (mW) (jF (jm (K:=K)) (pvD 0) iJ (λ_ _=>rfl)) (fv K 1) (jr _)))) (λ_ _ _ _=>(jF (jm (K:=K)) (pvD 0) iJ (λ_ _=>rfl)))) iD)) (lU (pv 4) (mc T.agS T.ah0 (Io T) hr (KZ T) .nil) jL) (jr _)) (iG (iY Jz)) jx)))
   (iB (jo (qx (K:=K) zH zR zS mD (pvD 3) (iz (lY (iz iJ (iz iJ (iz iJ (iz jG (iz iJ iD)))))) iD)))
   (iG (iY (uU (aiv (K:=K) hr) (pcg (Fj T) hr T.aeS (Ij T) (pav 0 (pav 1 iD))) (pvD 2) (jr _))))))))),?_⟩
  have bk:=hS.sl;simp only[start_eq];walk_at "n";refine⟨b,kb,g,rfl,hB,by omega,λld ad H1 s1 bo h1 ax=>?_⟩;walk_at "n";refine⟨b,kb,g,rfl,hB.same s1,by omega,λlf af H2 s2 ae h2 ap=>?_⟩;walk_at "n";refine⟨lf,ld,af,ad,_,rfl,h2,s2 _ _ h1,ap,ax.same s2,RP,λH3 s3=>⟨_,rfl,?_⟩⟩;rw[ze (by decide)];obtain⟨zs,al,ac,hz⟩:=GJ ap
  have bm:zs.length<=6100:=by
   have g1:=MP (g:=g) λt ht=>(hB.frz.s t ht).l;rw[<-GF (k:=kb) rfl,ac,za]at g1;omega
  have S3:=s1.trans (s2.trans s3);have ag:=hB.same S3;obtain⟨db,bc⟩:=ag.i
  (try dsimp only)
  refine jK λu hu=>?_;rw[ap_seq];refine rm λtb bh=>?_;rw[ap_for];walk_at "i";refine md bc ag.me (kb.noM _ (by decide+kernel)) ⟨b,kb,rfl,ag,by omega,λq sl H4 s4 hq h4 bd hd=>?_⟩
  have aa:sl.map (λt=>t.2.core)=kb.sl.map (λt=>t.2.core):=by
   have:=congrArg (List.map Prod.fst) hd
   rwa [zx,zx]at this
  have be:∀t∈sl,(t.2.ps.map λr=>r.2.2).sum=t.2.pr:=λt ht=>hS.p t.2.core (aa▸zi.mpr ⟨t,ht,rfl⟩)
  have bg:(sl.map λt=>t.2.n).Nodup:=by
   have h5:=hS.n.nodup hn;rw[YM,<-aa,zx]at h5;exact h5
  have bb:zs.map (·.2)=sl.flatMap λt=>nU t.2 g:=by rw[<-ac];exact GF hd
  refine⟨q,rfl,⟨_,iQ h4⟩,?_⟩;have ab:=s3.trans s4;refine tY (K:=K) (a:=q) (xs:=pZ sl) (λi σ Hx=>(∃v4,σ=[some (.ref b),some (.int g),some (.ref ld),some (.ref lf),v4])/\Same H4 Hx) ⟨⟨_,rfl⟩,same_refl _⟩ (λi σ Hx _ ⟨_,s⟩=>s.seq (iQ h4)) ?_ ?_
  ·rintro i y σ Hx hi ⟨⟨v4,rfl⟩,sx⟩
   obtain ⟨t,an,rfl⟩:∃t∈sl,y=.ref t.1:=by
    obtain⟨t,ht,e⟩:=zi.mp (zm hi);exact⟨t,ht,e.symm⟩
   have ak:=(bd t an).1.same sx;obtain⟨dt,ao⟩:=ak.i
   have az:Hx lf=some (.lst (zs.map λz=>V.ref z.1)):=by
    have:=sx _ _ (ab _ _ h2);rw[al,zx]at this;exact this
   subst bh;walk_at "i";refine⟨⟨_,iQ az⟩,?_⟩;refine Zn (f:=λz:Addr×List V=>V.ref z.1) (λσ=>∃v,σ=[v,some (.ref t.1)]) (λz=>decide (n0 z.2=t.2.n)) (λ_ z v _=>v=.int (g4 z.2)) (iQ az) ⟨_,rfl⟩ (by omega) ?_ ?_
   ·rintro Da z aq σ H5 R1 R2 ⟨_,rfl⟩ sm hD hA k1 k2
    have ah:=sm _ _ (sx _ _ (ab _ _ (hz z aq)));obtain⟨a,b',c,w,d,ez⟩:=RP z.2 (ac▸zi.mpr ⟨z,aq,rfl⟩);rw[ez]at ah k1 k2;walk_at "i";refine⟨_,jD ah,_,rfl,rd (sm _ _ ao) T.agS T.agT (by rfl) (?_)⟩;refine⟨rfl,?_⟩;by_cases e:a=t.2.n
    ·rw[zo (by rw[e])]
     exact⟨_,jD ah,_,rfl,k1 (zE e) _ _ _ ⟨_,rfl⟩ (same_refl _) λ_ _=>rfl⟩
    ·rw[ze (λc=>e (V.int.inj c))]
     exact k2 (zI e) _ _ ⟨_,rfl⟩ (same_refl _)
   ·intro D6 H6 bj bl s6 au bf
    rw[vN.ints bf]at au
    have as:((zs.filter λz=>decide (n0 z.2=t.2.n)).map λz=>g4 z.2).sum=t.2.cnt:=by
     have:=Ul (g:=g) (n:=t.2.n) be;rw[<-bb,yyf,zx]at this;exact this.trans ((aaL bg).1 an)
    rw[ap_rSum];refine⟨_,iQ au,?_⟩;rw[as];refine md (s6 _ _ ao) zj (by rfl) ⟨t.1,t.2,rfl,ak.same s6,λH7 s7=>⟨rfl,?_⟩⟩;rw[ze (λc=>c rfl)];exact sx.trans (s6.trans s7)
  ·rintro σ Hx ⟨⟨v4,rfl⟩,sx⟩
   subst hu;walk_at "n";have S4:=S3.trans (s4.trans sx);have ai:=sx _ _ (ab _ _ h2);refine⟨tyL (iQ ai),sz,λp hp=>?_⟩;have s7:=iM (o:=.tup [V.int 0,V.int 0,V.int 0,V.str (Str.ofString "long"),V.int 0]) hp;refine⟨_,s7 _ _ ai,by rw[al,za,za,zq];omega,?_⟩;have am:=s7 _ _ ai;have av:=s7 _ _ (sx _ _ (ab _ _ (s2 _ _ h1)));have aj:=((ax.same s2).same ab).same (sx.trans s7);have ay:=s1.free ae;have S7:=(S4.trans s7).upd (o:=.lst (af.map V.ref++[V.ref p])) ay;generalize upd Hx p _=H7 at s7 am av aj S7;have bi:ld≠lf:=λe=>by rw[<-e,h1]at ae;cases ae
   have ar:(upd H7 lf (.lst (af.map V.ref++[V.ref p]))) ld=some (.lst (ad.map V.ref)):=(iU bi).trans av;have aw:lV (upd H7 lf (.lst (af.map V.ref++[V.ref p]))) ad (VG g kb):=⟨aj.1,λi a e=>let⟨y,e1,e2⟩:=aj.2 i a e;⟨y,e1,(iU λc=>by rw[c,am]at e2;cases e2).trans e2⟩⟩;generalize upd H7 lf _=H8 at ar aw S7;rw[ap_ret];walk_at "i";refine⟨b,kb,g,rfl,hB.same S7,by omega,λl9 a9 H9 s9 bn h9 ba=>?_⟩;exact ajb h9 (s9 _ _ ar) ba (aw.same s9) RP (k H9 (S7.trans s9))
inductive Ot(K:Fg_)(vs:List V)(H:Hp)(Q:VK)(E:XK):Prop
 |mk (a:Addr) (ns:List Int) (_:vs=[.ref a]) (_:SqL K H a (ns.map V.int)) (_:ns.length<=63) (_:∀H',Q (.bl true) H'):Ot K vs H Q E
def Zm{B H H':Hp}{D x:Addr}{e:Ent}{xs:List V}(h:Made A B H x e)(z:H D=some (.lst xs))(q:e.lots=none)(b:But D H H'):IsE A H' x e:=by
 obtain⟨dx,nv,h1,h2,h3⟩:=h;refine⟨dx,nv,b _ _ (λc=>by rw[c]at h1;have:=h1.h;rw[z]at this;cases this) h1.h,?_⟩;rw[q]at h2⊢;exact h2
def Wh(k:BkD):Alike (Ml k) (Ml k):=by
 have hu:((Ml k).map (·.1)).Nodup:=by show([Sum.inr "paid",Sum.inr "brought",Sum.inr "laid",Sum.inr "sold",Sum.inr "given",Sum.inr "left",Sum.inr "proceeds"]:List Key).Nodup;decide+kernel
 refine⟨rfl,λz q=>?_⟩;have hv:=Lr hu (k:=z.1) (v:=z.2) q
 obtain ⟨i,e⟩:∃i,z.2=.int i:=by
  unfold Ml at q;simp only[zu,zn,or_false]at q;rcases q with rfl|rfl|rfl|rfl|rfl|rfl|rfl<;>exact⟨_,rfl⟩
 exact⟨i,e,e▸hv⟩
def Qo{B H:Hp}{x:Addr}{e:Ent}(h:Made A B H x e):Same B H:=let⟨_,_,g,_⟩:=h;g.s
theorem ajQ{H:Hp}:∀{tl:EL}{acc:List V},vN (λr v=>∃x,v=.ref x/\IsE A H x r.2) tl acc->∃es:EL,acc=CQ es/\es.map (·.2)=tl.map (·.2)/\Nz A H es
 |[],[],_=>⟨[],rfl,rfl,λt h=>(zn h).elim⟩
 |t::sl,v::acc,h=>by
  obtain⟨⟨y,rfl,hs⟩,h2⟩:=h;obtain⟨q,e1,e2,e3⟩:=ajQ h2;refine⟨(y,t.2)::q,by rw[e1];rfl,by rw[zl,e2];rfl,λu z=>?_⟩;rcases zu.mp z with rfl|z
  ·exact hs
  ·exact e3 u z
 |[],_::_,h=>h.elim
 |_::_,[],h=>h.elim
def akL(T:Txt K mg A D):jQ P w K mg base CX0 12 A.law D.law ["_law_script"] (Ot K):=by
 refine T.aeX.F.okv Lh λ_ _ _ _ H vs Q E hr h=>?_
 ·obtain⟨a,ns,rfl,hS,hn,k⟩:=h
  refine ⟨_,(iB (oO (i:=1) Lh.nd rfl rfl (cap:=[none]) (N':=["_law_row_here"]) rfl (by walk_at "c") (kJ (K:=K) (pcg (JS T) hr T.aeN (Kv T) (pav 0 (iz Jz iD)))) (λ_ _ _ _=>(iW (i:=0) nd1 rfl orl orr)) (λ_ _ _ _=>jP) (λ_ _ _ _=>(pcg (Ny T) hr T.adw (Qg T) (pav 0 iD))))
   (iB (ji (i:=2) Lh.nd rfl orl (pcg (Rb T) hr T.adh (Vf T) (iz (pcg (lw T) hr T.adx (lK T) (pav 0 (iz iJ iD))) iD)))
   (iB (oE zQ rfl (kJ (K:=K) (kW (iz (pcg (UW T) hr T.aev (Xx T) (pav 2 (pav 1 iD))) (iz (pcg (DN T) hr T.aex (Gu T) (pav 2 (iz (ju um (pcg (lw T) hr T.adx (lK T) (pav 0 (iz iJ iD))) iJ) (pav 1 iD)))) iD)))) (iW (i:=3) Lh.nd rfl orl)
    (iB (ji (i:=4) Lh.nd rfl orl (lU (pv 3) (mc T.agv T.ah1 (rB T) hr (uD T) (mc T.agI T.ah2 (rB T) hr (uD T) .nil)) jL))
    (iB (oE zQ rfl (kJ (K:=K) (pcg (MF T) hr T.aeB (QS T) (pav 3 (pav 0 iD)))) (iW (i:=5) Lh.nd rfl orl)
     (iG (jX (Ae (nD (pcg (QL T) hr T.aeW (Rp T) (pav 3 (pav 5 iD))))) (iG (iY Jz)) jx)))
    (iG (jX (jl (akg hr) (lU (pv 3) (mc T.agv T.ah1 (rB T) hr (uD T) (mc T.agI T.ah2 (rB T) hr (uD T) .nil)) jL) (pvD 4) (jr _)) (iG (iY Jz)) jx)))))
   (iG (iY Jz))))),?_⟩
  simp only[start_eq];walk_at "n";refine⟨a,ns,rfl,hS,λp tl H1 s1 hp h1 hT hF hb hl ak=>?_⟩;refine⟨p,rfl,⟨_,iQ h1⟩,?_⟩;refine Mx (f:=λr:Addr×Ent=>V.ref r.1) (λσ=>∃v,σ=[v]) (λ_ r v H'=>∃x,v=.ref x/\IsE A H' x r.2) (iQ h1) ⟨_,rfl⟩ (by omega) ?_ ?_
  ·rintro Da r ad σ H5 R ⟨_,rfl⟩ sm hD ⟨acc,hA⟩ kk
   obtain⟨g1,g2,_⟩:=hF.g r.2 (zi.mpr ⟨r,ad,rfl⟩);walk_at "i";refine⟨r.1,r.2,rfl,(hT r ad).same sm,g2,g1,λx B H6 s6 hM=>kk (.ref x) _ H6 ⟨_,rfl⟩ (s6.trans (Qo hM)) λH' hb=>⟨x,rfl,Zm hM ((s6.trans (Qo hM)) _ _ hA) g2 hb⟩⟩
  ·intro D2 H2 aw bc s2 ag aj
   obtain⟨es,e1,e2,hE⟩:=ajQ aj;rw[e1]at ag;have S2:=s1.trans s2;walk_at "n";refine⟨a,ns,2,rfl,S2.seq hS,_,rfl,λw C dw H3 s3 hw hW=>?_⟩;have S3:=S2.trans s3;have hO:alm A H3 w D2 es (tl.map (·.2)):=⟨⟨C,dw,hw,hW⟩,s3 _ _ ag,hE.same s3,hF,hb,by rw[za];exact hl,by rw[zx];exact ak,e2▸List.Perm.refl _⟩
   (try dsimp only)
   refine jK λu hu=>?_;rw[ap_seq];refine rm λtb av=>?_;rw[ap_for];walk_at "i";refine⟨w,D2,es,_,rfl,hO,λb1 k1 H4 s4 ao _ an=>?_⟩;have S4:=S3.trans s4;have as:alm A H4 w D2 es (tl.map (·.2)):=⟨⟨C,dw,s4 _ _ hw,hW⟩,s4 _ _ hO.q,hO.e.same s4,hO.h,hO.b,hO.l,hO.n,hO.p⟩;refine⟨a,ns,3,rfl,S4.seq hS,_,rfl,by decide,w,D2,_,es,_,rfl,as,λb2 k2 H5 s5 aq _ ap=>⟨sz,λp5 am=>⟨⟨_,iQ iH⟩,?_⟩⟩⟩;have s6:=iM (o:=.lst [.ref b1,.ref b2]) am;have h6:(upd H5 p5 (.lst [.ref b1,.ref b2])) p5=some (.lst [.ref b1,.ref b2]):=iH;generalize upd H5 p5 (.lst [.ref b1,.ref b2])=H6 at s6 h6;have S6:=S4.trans (s5.trans s6)
   have af:∀y∈[V.ref b1,V.ref b2],∃b k,y=.ref b/\jk A H6 b k/\StB ((tl.map (·.2)).map Ent.num) (tl.map (·.2)) k:=λy hy=>by
    rcases zu.mp hy with rfl|hy
    ·exact⟨b1,k1,rfl,(ao.same s5).same s6,an⟩
    ·rw[zC.mp hy]
     exact⟨b2,k2,rfl,aq.same s6,ap⟩
   have aa:(tl.map (·.2)).length<=56:=hO.l;have ah:=hO.n;generalize tl.map (·.2)=hs at af aa ah;refine tY (K:=K) (a:=p5) (xs:=[.ref b1,.ref b2]) (λi σ Hx=>(∃v3 v4 v5,σ=[some (.ref a),some (.ref D2),some (.ref w),v3,v4,v5])/\Same H6 Hx) ⟨⟨_,_,_,rfl⟩,same_refl _⟩ (λi σ Hx _ ⟨_,s⟩=>s.seq (iQ h6)) ?_ ?_
   ·rintro i y σ Hx hi ⟨⟨v3,v4,v5,rfl⟩,sx⟩
    obtain⟨b,kb,rfl,hB,q⟩:=af y (zm hi);have hB:=hB.same sx;obtain⟨db,hb⟩:=hB.i;have ba:=q.sl;have bd:=q.v;subst av;rw[ap_name];walk_at "n";refine md hb hB.me (kb.noM _ (by decide+kernel)) ⟨b,kb,_,rfl,hB,q.r,by rw[za];omega,by omega,by omega,q.g,λps H7 s7 bb h7=>?_⟩;have ab:=hB.same s7
    (try dsimp only)
    refine jK λu2 ar=>?_;rw[ap_seq];refine rm λtc ai=>?_;rw[ap_for];walk_at "i";refine⟨b,a,kb,ns,rfl,ab,by omega,(S6.trans (sx.trans s7)).seq hS,λl gs H8 s8 ax h8=>?_⟩;refine⟨l,rfl,⟨_,iQ h8⟩,?_⟩;refine tY (K:=K) (a:=l) (xs:=gs.map V.int) (λi σ Hy=>(∃v5,σ=[some (.ref a),some (.ref D2),some (.ref w),some (.ref b),some (.ref ps),v5])/\Same H8 Hy) ⟨⟨_,rfl⟩,same_refl _⟩ (λi σ Hy _ ⟨_,s⟩=>s.seq (iQ h8)) ?_ ?_
    ·rintro j z σ Hy hj ⟨⟨v5,rfl⟩,sy⟩
     obtain⟨g,rfl,_⟩:=Bf hj;subst ai;walk_at "i";refine⟨b,kb,g,hs,rfl,(ab.same s8).same sy,q,aa,ah,λH9 s9=>⟨_,rfl,?_⟩⟩;rw[ze (by decide)];exact sy.trans s9
    ·rintro σ Hy ⟨⟨v5,rfl⟩,sy⟩
     have ac:=(ab.same s8).same sy;obtain⟨az,au⟩:=ac.i;subst ar;walk_at "i";refine md au ac.me (kb.noM _ (by decide+kernel)) ⟨b,kb,_,rfl,ac,q.r,by rw[za];omega,by omega,by omega,q.g,λpt be ae ay al=>?_⟩;have h7':=ae _ _ (sy _ _ (s8 _ _ h7));refine⟨pt,ps,_,_,rfl,rfl,.inl al,.inl h7',Wh kb,_,rfl,?_⟩;rw[ze (by decide)];exact sx.trans (s7.trans (s8.trans (sy.trans ae)))
   ·rintro σ Hx ⟨⟨v3,v4,v5,rfl⟩,sx⟩
    subst hu;walk_at "a";exact k Hx
end
end My
namespace My
open PySem L2 PyProof.Rows
open PySem.W (codeIn findCls findIn fnOf hasDictIn isFn keepIn kitOne makesIn mg_none_of mg_of mroIn nsIn plainGet plainOver readsIn specialIn takesIn)
abbrev Dm_(K:Fg_)(c:Addr)(x q:Str)(st:Stmt)(f:Addr)(oc:Value)(od:Option Addr)(kV dc pm:Value)(an:Option Addr)(cd ct:Value)(sl:Array (Option Value)):Prop:=findIn K (.ref c) x=some (some (.ref f))∧K.lookup f=some ⟨oc,od,.func (fnOf x q (nP st) (mz st) (iK st) .none kV dc pm an cd ct),sl⟩∧codeIn K cd q=true∧keepIn K (.ref f)=true
abbrev Df_(K:Fg_)(x:Str)(st:Stmt)(f:Addr)(oc:Value)(od:Option Addr)(kV dc pm:Value)(an:Option Addr)(cd ct:Value)(sl:Array (Option Value)):Prop:=nsIn K mainGlobals x=some (some (.ref f))∧K.lookup f=some ⟨oc,od,.func (fnOf x x (nP st) (mz st) (iK st) .none kV dc pm an cd ct),sl⟩∧codeIn K cd x=true∧keepIn K (.ref f)=true
inductive Ef_(K:Fg_)(x:Str)(st:Stmt)(f:Addr)(fd:FuncData):Prop
  |mk {oc:Value} {od:Option Addr} {kV dc pm:Value} {an:Option Addr} {cd ct:Value} {sl:Array (Option Value)} (e:fd=fnOf x x (nP st) (mz st) (iK st) .none kV dc pm an cd ct) (h:Df_ K x st f oc od kV dc pm an cd ct sl):Ef_ K x st f fd
inductive Em_(K:Fg_)(c:Addr)(x q:Str)(st:Stmt)(f:Addr)(fd:FuncData):Prop
  |mk {oc:Value} {od:Option Addr} {kV dc pm:Value} {an:Option Addr} {cd ct:Value} {sl:Array (Option Value)} (e:fd=fnOf x q (nP st) (mz st) (iK st) .none kV dc pm an cd ct) (h:Dm_ K c x q st f oc od kV dc pm an cd ct sl):Em_ K c x q st f fd
def Ef_.n{K:Fg_}{x:Str}{st:Stmt}{f:Addr}{fd:FuncData}(a:Ef_ K x st f fd):nsIn K mainGlobals x=some (some (.ref f)):=by cases a with|mk e h=>exact h.1
def Ef_.k{K:Fg_}{x:Str}{st:Stmt}{f:Addr}{fd:FuncData}(a:Ef_ K x st f fd):keepIn K (.ref f)=true:=by cases a with|mk e h=>exact h.2.2.2
def Ef_.F{K:Fg_}{x:Str}{st:Stmt}{f:Addr}{fd:FuncData}(a:Ef_ K x st f fd):Fun K x x st f fd:=by cases a with|mk e h=>exact e▸Ys h.2.1 h.2.2.1 h.2.2.2
def Ef_.g{K:Fg_}{x:Str}{st:Stmt}{f:Addr}{fd:FuncData}{h:Heap}{mg:Str->Option Value}(a:Ef_ K x st f fd)(X:K.In h)(G:h.Ns mainGlobals mg):FG K mg x st f fd:=⟨mg_of X G a.n,a.k,a.F⟩
def Em_.n{K:Fg_}{c:Addr}{x q:Str}{st:Stmt}{f:Addr}{fd:FuncData}(a:Em_ K c x q st f fd):findIn K (.ref c) x=some (some (.ref f)):=by cases a with|mk e h=>exact h.1
def Em_.k{K:Fg_}{c:Addr}{x q:Str}{st:Stmt}{f:Addr}{fd:FuncData}(a:Em_ K c x q st f fd):keepIn K (.ref f)=true:=by cases a with|mk e h=>exact h.2.2.2
def Em_.F{K:Fg_}{c:Addr}{x q:Str}{st:Stmt}{f:Addr}{fd:FuncData}(a:Em_ K c x q st f fd):Fun K x q st f fd:=by cases a with|mk e h=>exact e▸Ys h.2.1 h.2.2.1 h.2.2.2
def all_mk{l:PySem.W.OpenLaw}{w:World}{K:Fg_}{h:Heap}{mg:Str->Option Value}{fa:Addr}(X:K.In h)(G:h.Ns mainGlobals mg)(m0:mg "law" =some (.ref fa))
  {f0 f1 f2 f3 f4 f5 f6 f7 f9 j2 ev d2 gv h8 l1 k7 lv bd cd h3 e2 dz h9 cn fk g3 em mf dy e7 j4 er bv bt hj gu ih hs an j1 dl ff go h6 bk ea eb lf fi j7 co cl ca i2 hx br li b0 bs i5 i7 dp mo e1 fl e5 ej dv hn bp cp me b3 mr gh l7 da hv bn ke hc hm ht kk ha i1 hf le j8 ix kn hk j9 is i8 hp g5 iw iy ig iu nz:Addr}
  {iL i4:Option Addr}
  {jf:Array (Option Value)}
  {iI jb iC je iZ jn:Value}
  {c0 c1 c2 c3 c4 c5 c6 c7 c8 c9 ab q af z ad dw lr:Addr}
  {du fV eg eu eh eE fT cS eR:Tok}
  (fM:nsIn K mainGlobals "Eldest" =some (some (.ref c0)))
  (fx:nsIn K mainGlobals "Newest" =some (some (.ref c1)))
  (eT:nsIn K mainGlobals "Dearest" =some (some (.ref c2)))
  (gS:nsIn K mainGlobals "Mean" =some (some (.ref c3)))
  (fY:nsIn K mainGlobals "Entry" =some (some (.ref c4)))
  (eL:nsIn K mainGlobals "Parting" =some (some (.ref c5)))
  (hV:nsIn K mainGlobals "Buy" =some (some (.ref c6)))
  (gO:nsIn K mainGlobals "Sell" =some (some (.ref c7)))
  (gQ:nsIn K mainGlobals "Gift" =some (some (.ref c8)))
  (gM:nsIn K mainGlobals "Give" =some (some (.ref c9)))
  (ge:nsIn K mainGlobals "Split" =some (some (.ref ab)))
  (gJ:nsIn K mainGlobals "Book" =some (some (.ref q)))
  (gX:nsIn K mainGlobals "Lot" =some (some (.ref af)))
  (cP:nsIn K mainGlobals "LayingBook" =some (some (.ref z)))
  (gN:nsIn K mainGlobals "Sale" =some (some (.ref ad)))
  (il:nsIn K mainGlobals "Way" =some (some (.ref dw)))
  (gU:nsIn K mainGlobals "NoLot" =some (some (.ref lr)))
  {m2 m1 oa nl nt o9 nn nv n1 mw l3 h5 ld i6 kg mn l6 kp mp ma g8 k4 k9 mm h7 j0 hy iv mh mb kc g0 hb hd kv ls kf js kr hw hl ly km k6 lh it i0 lk l0 h4 g6 lm la kl hg kd g1 ho k5 hu kq h0 lc k1 j6 kb lb ku kt ia l2 j5 lz ka l9 hr ln jp mk l4 jv lp ll he ja ky hz k2 l5 mi lx j3 lj k3 ko i3 g7 ki kw g2 ga:FuncData}
  (a0:Ef_ K "_law_way" DR f0 m2)
  (a1:Ef_ K "is_whole_number" oW f1 m1)
  (a2:Ef_ K "check_number" rN f2 oa)
  (a3:Ef_ K "is_name" JB f3 nl)
  (a4:Ef_ K "check_name" vV f4 nt)
  (a5:Em_ K c4 "__init__" "Entry.__init__" pR f5 o9)
  (a6:Em_ K c5 "__init__" "Parting.__init__" nW f6 nn)
  (a7:Ef_ K "check_trade" uI f7 nv)
  {f8:Addr} {op o6:Option Addr} {ol:Array (Option Value)} {no n4 od m4 ii o3:Value}
  (a8:findIn K (.ref c6) "__init__" =some (some (.ref f8)))
  {hq:Addr} {tp:Option Addr} {rZ:Value} {n8:Array (Option Value)} {ms:Nat} {im:Tok}
  (l8:K.lookup f8=some ⟨no,op,.func (fnOf "__init__" "Buy.__init__" (nP mG) (mz mG) (iK mG) (.ref hq) n4 od m4 o6 ii o3),ol⟩)
  (d8:codeIn K ii "Buy.__init__" =true)
  (k8:keepIn K (.ref f8)=true)
  (nh:K.lookup hq=some ⟨rZ,tp,.seq #[.int 0 im] ms,n8⟩)
  (a9:Ef_ K "check_named" uO f9 n1)
  (a10:Ef_ K "named_copy" wI j2 mw)
  {ap:Addr} {yg ss:Option Addr} {x4:Array (Option Value)} {zt ng m3 oV ir qu:Value}
  (a11:findIn K (.ref c7) "__init__" =some (some (.ref ap)))
  {io:Addr} {jh:Option Addr} {jd:Value} {iV:Array (Option Value)} {uh:Nat} {ie:Tok}
  (or:K.lookup ap=some ⟨zt,yg,.func (fnOf "__init__" "Sell.__init__" (nP lO) (mz lO) (iK lO) (.ref io) ng m3 oV ss ir qu),x4⟩)
  (oe:codeIn K ir "Sell.__init__" =true)
  (nx:keepIn K (.ref ap)=true)
  (ik:K.lookup io=some ⟨jd,jh,.seq #[.int 0 ie,.none] uh,iV⟩)
  (a12:Em_ K c8 "__init__" "Gift.__init__" qI ev l3)
  {as:Addr} {oc nk:Option Addr} {my:Array (Option Value)} {pz xL tj sE ip xP:Value}
  (a13:findIn K (.ref c9) "__init__" =some (some (.ref as)))
  {iq:Addr} {iR:Option Addr} {jj:Value} {iE:Array (Option Value)} {mM:Nat}
  (og:K.lookup as=some ⟨pz,oc,.func (fnOf "__init__" "Give.__init__" (nP lQ) (mz lQ) (iK lQ) (.ref iq) xL tj sE nk ip xP),my⟩)
  (of:codeIn K ip "Give.__init__" =true)
  (o5:keepIn K (.ref as)=true)
  (ij:K.lookup iq=some ⟨jj,iR,.seq #[.none] mM,iE⟩)
  (a14:Em_ K ab "__init__" "Split.__init__" pL d2 h5)
  (oz:Ef_ K "_law_entry" wQ gv ld)
  (n6:Ef_ K "_law_cell_at" sX h8 i6)
  (ov:Ef_ K "refuse_twice" sV l1 kg)
  (nw:Ef_ K "place_of" DY k7 mn)
  (m7:Ef_ K "in_order" Eh lv l6)
  (db:Em_ K q "row_of" "Book.row_of" uN bd kp)
  (ct:Em_ K q "keep_row" "Book.keep_row" qF cd mp)
  (m6:Ef_ K "place_in_row" tK h3 ma)
  (i9:Em_ K af "__init__" "Lot.__init__" su e2 g8)
  (d1:Em_ K af "with_more" "Lot.with_more" qH dz k4)
  (mv:Ef_ K "row_with" Eb h9 k9)
  (bi:Em_ K q "put" "Book.put" DW cn mm)
  (ec:Em_ K q "lay_on" "Book.lay_on" uE fk h7)
  (o2:Ef_ K "cost_of_parts" ql g3 j0)
  (ez:Em_ K ad "gain" "Sale.gain" Br em hy)
  (ok:Ef_ K "is_open_loss" rW mf iv)
  (e0:Em_ K z "may_take" "LayingBook.may_take" mV dy mh)
  (ml:Em_ K ad "__init__" "Sale.__init__" qU e7 mb)
  (o0:Ef_ K "sale_laid_on" rR j4 kc)
  (e4:Em_ K z "lay_on" "LayingBook.lay_on" nJ er g0)
  (cs:Em_ K q "do_buy" "Book.do_buy" uM bv hb)
  (b4:Em_ K q "do_gift" "Book.do_gift" sG bt hd)
  (m5:Ef_ K "sum_of_weights" pH hj kv)
  (ny:Ef_ K "part_of" Hr gu ls)
  (on:Ef_ K "dealt" RZ ih kf)
  (nd:Ef_ K "sale_of" Je hs js)
  (bc:Em_ K dw "levelled" "Way.levelled" rM an kr)
  (ne:Ef_ K "cost_in" Iv j1 hw)
  (ep:Em_ K c3 "levelled" "Mean.levelled" qR dl hl)
  (dt:Em_ K af "taken" "Lot.taken" Bo ff ly)
  (m8:Ef_ K "row_without" uz go km)
  (o4:Ef_ K "picks_in_turn" qG h6 k6)
  (b1:Em_ K c0 "picks" "Eldest.picks" sU bk lh)
  (ei:Em_ K c1 "picks" "Newest.picks" tG ea it)
  (d0:Em_ K af "is_dearer" "Lot.is_dearer" qJ eb i0)
  (oi:Ef_ K "dearest_first" qy lf lk)
  (e3:Em_ K c2 "picks" "Dearest.picks" qP fi l0)
  (nb:Ef_ K "gone_from" Bm j7 h4)
  (dd:Em_ K q "taken_for" "Book.taken_for" pI co g6)
  (b2:Em_ K q "do_sell" "Book.do_sell" sY cl lm)
  (bx:Em_ K q "do_give" "Book.do_give" rQ ca la)
  (n7:Ef_ K "pieces_split" tE i2 kl)
  (nf:Ef_ K "row_split" BW hx hg)
  (bq:Em_ K q "do_split" "Book.do_split" qN br kd)
  (mx:Ef_ K "row_parted" xG li g1)
  (bm:Em_ K q "do_parting" "Book.do_parting" oH b0 ho)
  (cb:Em_ K q "do_by_kind" "Book.do_by_kind" oJ bs k5)
  (ow:Ef_ K "held_with" Bt i5 hu)
  (ox:Ef_ K "held_with_more" pO i7 kq)
  (eq:Em_ K c6 "held_behind" "Buy.held_behind" oN dp h0)
  (ns:Ef_ K "held_with_fewer" oR mo lc)
  (d3:Em_ K c7 "held_behind" "Sell.held_behind" ou e1 k1)
  (ew:Em_ K c8 "held_behind" "Gift.held_behind" oA fl j6)
  (ed:Em_ K c9 "held_behind" "Give.held_behind" oh e5 kb)
  (en:Em_ K ab "held_behind" "Split.held_behind" nQ ej lb)
  (ey:Em_ K c5 "held_behind" "Parting.held_behind" mX dv ku)
  (ob:Ef_ K "pieces_in" Bq hn kt)
  (bl:Em_ K q "held" "Book.held" Bu bp ia)
  (dc:Em_ K q "do" "Book.do" Jw cp l2)
  (oj:Ef_ K "with_all_done" qm me j5)
  (hh:Em_ K q "__init__" "Book.__init__" qK b3 lz)
  (mt:Ef_ K "book_of" JG mr ka)
  (kx:Em_ K z "__init__" "LayingBook.__init__" mR gh l9)
  (ot:Ef_ K "laying_book_of" pJ l7 hr)
  (ch:Em_ K q "sums" "Book.sums" BR da ln)
  (oq:Ef_ K "copy_of_sale" tH hv jp)
  (b6:Em_ K q "sales" "Book.sales" xJ bn mk)
  (nr:Ef_ K "_law_longs" wF ke l4)
  (oy:Ef_ K "_law_mixed" wW hc jv)
  (nc:Ef_ K "_law_sources" sW hm lp)
  (na:Ef_ K "_law_take" BZ ht ll)
  (o7:Ef_ K "_law_split_row" pN kk he)
  (o1:Ef_ K "_law_part_row" qD ha ja)
  (om:Ef_ K "_law_some" Bg i1 ky)
  (pb:Ef_ K "_law_price" wz hf hz)
  (m9:Ef_ K "_law_pieces" uP le k2)
  (n9:Ef_ K "_law_row" Ej j8 l5)
  (ni:Ef_ K "_law_counted" sI ix mi)
  (n3:Ef_ K "_law_raw" Ep kn lx)
  (mu:Ef_ K "_law_history" tD hk j3)
  (pa:Ef_ K "_law_due" Eg j9 lj)
  (n2:Ef_ K "gain_of_part" sS is k3)
  (n5:Ef_ K "row_of_part" uJ i8 ko)
  (oo:Ef_ K "rows_of_sale" rY hp i3)
  (o8:Ef_ K "gain_rows" Bh g5 g7)
  (fu:Ef_ K "_law_whole" xq iw ki)
  (fG:Ef_ K "_law_right" wK iy kw)
  (fD:Em_ K ad "counted" "Sale.counted" rO ig g2)
  (fo:Ef_ K "_law_good" BJ iu ga)
  (eF:Df_ K "law" Zx nz iI iL jb iC je i4 iZ jn jf)
  (cG:nsIn K mainGlobals "isinstance" =some none)
  (hJ:nsIn K mainGlobals "int" =some none)
  (gK:nsIn K mainGlobals "bool" =some none)
  (hX:nsIn K mainGlobals "all" =some none)
  (gW:nsIn K mainGlobals "str" =some none)
  (ic:nsIn K mainGlobals "len" =some none)
  (gP:nsIn K mainGlobals "list" =some none)
  (fH:nsIn K mainGlobals "sorted" =some none)
  (ib:nsIn K mainGlobals "zip" =some none)
  (gZ:nsIn K mainGlobals "any" =some none)
  (g9:nsIn K mainGlobals "sum" =some none)
  (gG:nsIn K mainGlobals "dict" =some none)
  (hU:nsIn K mainGlobals "min" =some none)
  (dO:nsIn K mainGlobals "reversed" =some none)
  (dq:nsIn K mainGlobals "enumerate" =some none)
  (gz:nsIn K mainGlobals "range" =some none)
  (gY:nsIn K mainGlobals "max" =some none)
  (gA:nsIn K mainGlobals "tuple" =some none)
  (bY:nsIn K mainGlobals "MOST_LETTERS" =some (some (.int 8 du)))
  (dB:nsIn K mainGlobals "MOST_DAY" =some (some (.int 1000000 fV)))
  (b9:nsIn K mainGlobals "MOST_NUMBER" =some (some (.int 1000000 eg)))
  (cO:nsIn K mainGlobals "MOST_WHOLE" =some (some (.int 1000000 eu)))
  (cj:nsIn K mainGlobals "MOST_PIECES" =some (some (.int 1000000000 eh)))
  (cK:nsIn K mainGlobals "MOST_PRICE" =some (some (.int 1000000000 eE)))
  (ef:nsIn K mainGlobals "MOST_FEE" =some (some (.int 1000000000 fT)))
  (bI:nsIn K mainGlobals "MOST_GIFT_COST" =some (some (.int 1000000000000000000 cS)))
  (cL:nsIn K mainGlobals "MOST_SPLIT" =some (some (.int 1000 eR)))
  (eO:specialIn K (.builtin "object.__class__") "__get__" =some (some (.builtin "getset_descriptor.__get__")))
  (eG:takesIn K (.builtin "object.__class__")=some true)
  (eI:plainGet K c0 Str.empty=true)
  (eN:hasDictIn K c0=true)
  (el:plainOver K c0=true)
  (eD:findIn K (.ref c0) "__setattr__" =some (some (.builtin "object.__setattr__")))
  (eM:plainGet K c1 Str.empty=true)
  (et:hasDictIn K c1=true)
  (eo:plainOver K c1=true)
  (eB:findIn K (.ref c1) "__setattr__" =some (some (.builtin "object.__setattr__")))
  (dS:plainGet K c2 Str.empty=true)
  (dR:hasDictIn K c2=true)
  (dP:plainOver K c2=true)
  (dG:findIn K (.ref c2) "__setattr__" =some (some (.builtin "object.__setattr__")))
  (gb:plainGet K c3 Str.empty=true)
  (gn:hasDictIn K c3=true)
  (gr:plainOver K c3=true)
  (gq:findIn K (.ref c3) "__setattr__" =some (some (.builtin "object.__setattr__")))
  (cy:plainGet K c5 Str.empty=true)
  (cA:hasDictIn K c5=true)
  (cz:plainOver K c5=true)
  (cB:findIn K (.ref c5) "__setattr__" =some (some (.builtin "object.__setattr__")))
  (dX:findIn K (.ref c5) "__class__" =some (some (.builtin "object.__class__")))
  (dF:mroIn K c5 (.type "object")=some true)
  (b8:findIn K (.ref c5) "day" =some none)
  (bG:findIn K (.ref c5) "number" =some none)
  (bZ:findIn K (.ref c5) "ware" =some none)
  (bP:findIn K (.ref c5) "other" =some none)
  (bM:findIn K (.ref c5) "share" =some none)
  (bL:findIn K (.ref c5) "whole" =some none)
  (fW:plainGet K c6 Str.empty=true)
  (fS:hasDictIn K c6=true)
  (fR:plainOver K c6=true)
  (fU:findIn K (.ref c6) "__setattr__" =some (some (.builtin "object.__setattr__")))
  (gI:findIn K (.ref c6) "__class__" =some (some (.builtin "object.__class__")))
  (gR:mroIn K c6 (.type "object")=some true)
  (eJ:findIn K (.ref c6) "day" =some none)
  (cH:findIn K (.ref c6) "number" =some none)
  (dN:findIn K (.ref c6) "ware" =some none)
  (cI:findIn K (.ref c6) "pieces" =some none)
  (cZ:findIn K (.ref c6) "price" =some none)
  (eQ:findIn K (.ref c6) "fee" =some none)
  (d4:findIn K (.ref c6) "cost" =some none)
  (eV:plainGet K c7 Str.empty=true)
  (e8:hasDictIn K c7=true)
  (eZ:plainOver K c7=true)
  (eU:findIn K (.ref c7) "__setattr__" =some (some (.builtin "object.__setattr__")))
  (gm:findIn K (.ref c7) "__class__" =some (some (.builtin "object.__class__")))
  (gE:mroIn K c7 (.type "object")=some true)
  (dQ:findIn K (.ref c7) "day" =some none)
  (cq:findIn K (.ref c7) "number" =some none)
  (de:findIn K (.ref c7) "ware" =some none)
  (ce:findIn K (.ref c7) "pieces" =some none)
  (cR:findIn K (.ref c7) "price" =some none)
  (dA:findIn K (.ref c7) "fee" =some none)
  (cD:findIn K (.ref c7) "named" =some none)
  (bQ:findIn K (.ref c7) "proceeds" =some none)
  (eW:plainGet K c8 Str.empty=true)
  (fg:hasDictIn K c8=true)
  (eY:plainOver K c8=true)
  (eX:findIn K (.ref c8) "__setattr__" =some (some (.builtin "object.__setattr__")))
  (gk:findIn K (.ref c8) "__class__" =some (some (.builtin "object.__class__")))
  (gC:mroIn K c8 (.type "object")=some true)
  (d9:findIn K (.ref c8) "day" =some none)
  (ci:findIn K (.ref c8) "number" =some none)
  (df:findIn K (.ref c8) "ware" =some none)
  (ck:findIn K (.ref c8) "pieces" =some none)
  (di:findIn K (.ref c8) "cost" =some none)
  (cJ:findIn K (.ref c8) "since" =some none)
  (fc:plainGet K c9 Str.empty=true)
  (fb:hasDictIn K c9=true)
  (fe:plainOver K c9=true)
  (e9:findIn K (.ref c9) "__setattr__" =some (some (.builtin "object.__setattr__")))
  (gc:findIn K (.ref c9) "__class__" =some (some (.builtin "object.__class__")))
  (gf:mroIn K c9 (.type "object")=some true)
  (dL:findIn K (.ref c9) "day" =some none)
  (cm:findIn K (.ref c9) "number" =some none)
  (cV:findIn K (.ref c9) "ware" =some none)
  (cf:findIn K (.ref c9) "pieces" =some none)
  (cQ:findIn K (.ref c9) "named" =some none)
  (d5:plainGet K ab Str.empty=true)
  (dJ:hasDictIn K ab=true)
  (dU:plainOver K ab=true)
  (dY:findIn K (.ref ab) "__setattr__" =some (some (.builtin "object.__setattr__")))
  (fh:findIn K (.ref ab) "__class__" =some (some (.builtin "object.__class__")))
  (fw:mroIn K ab (.type "object")=some true)
  (dn:findIn K (.ref ab) "day" =some none)
  (bW:findIn K (.ref ab) "number" =some none)
  (cT:findIn K (.ref ab) "ware" =some none)
  (cN:findIn K (.ref ab) "many" =some none)
  (dZ:findIn K (.ref ab) "of" =some none)
  (gd:plainGet K q Str.empty=true)
  (gl:hasDictIn K q=true)
  (gy:plainOver K q=true)
  (gg:findIn K (.ref q) "__setattr__" =some (some (.builtin "object.__setattr__")))
  (dC:findIn K (.ref q) "way" =some none)
  (cX:findIn K (.ref q) "rows" =some none)
  (bg:findIn K (.ref q) "last_place" =some none)
  (cW:findIn K (.ref q) "paid" =some none)
  (b5:findIn K (.ref q) "brought" =some none)
  (be:findIn K (.ref q) "sales_done" =some none)
  (aT:findIn K (.ref q) "givings_done" =some none)
  (gL:plainGet K af Str.empty=true)
  (gH:hasDictIn K af=true)
  (gT:plainOver K af=true)
  (gF:findIn K (.ref af) "__setattr__" =some (some (.builtin "object.__setattr__")))
  (cM:findIn K (.ref af) "number" =some none)
  (dh:findIn K (.ref af) "since" =some none)
  (cC:findIn K (.ref af) "pieces" =some none)
  (dH:findIn K (.ref af) "cost" =some none)
  (cx:plainGet K z Str.empty=true)
  (cw:hasDictIn K z=true)
  (cg:plainOver K z=true)
  (cc:findIn K (.ref z) "__setattr__" =some (some (.builtin "object.__setattr__")))
  (bJ:findIn K (.ref z) "way" =some none)
  (bu:findIn K (.ref z) "rows" =some none)
  (al:findIn K (.ref z) "last_place" =some none)
  (bw:findIn K (.ref z) "paid" =some none)
  (aL:findIn K (.ref z) "brought" =some none)
  (aq:findIn K (.ref z) "sales_done" =some none)
  (ag:findIn K (.ref z) "givings_done" =some none)
  (bo:findIn K (.ref z) "days" =some none)
  (aM:findIn K (.ref z) "layings" =some none)
  (fX:plainGet K ad Str.empty=true)
  (gw:hasDictIn K ad=true)
  (fZ:plainOver K ad=true)
  (gt:findIn K (.ref ad) "__setattr__" =some (some (.builtin "object.__setattr__")))
  (cv:findIn K (.ref ad) "number" =some none)
  (dW:findIn K (.ref ad) "day" =some none)
  (dm:findIn K (.ref ad) "ware" =some none)
  (bO:findIn K (.ref ad) "proceeds" =some none)
  (cE:findIn K (.ref ad) "parts" =some none)
  (bS:findIn K (.ref ad) "laid_on" =some none)
  (dk:makesIn K c5=true)
  (dg:isFn K (.ref f6)=true)
  (dj:keepIn K (.ref c5)=true)
  (gx:makesIn K c6=true)
  (gi:isFn K (.ref f8)=true)
  (gB:keepIn K (.ref c6)=true)
  (fj:makesIn K c7=true)
  (fJ:isFn K (.ref ap)=true)
  (fE:keepIn K (.ref c7)=true)
  (fr:makesIn K c8=true)
  (fO:isFn K (.ref ev)=true)
  (fA:keepIn K (.ref c8)=true)
  (fP:makesIn K c9=true)
  (fL:isFn K (.ref as)=true)
  (fq:keepIn K (.ref c9)=true)
  (eK:makesIn K ab=true)
  (eS:isFn K (.ref d2)=true)
  (eA:keepIn K (.ref ab)=true)
  (gD:makesIn K af=true)
  (gj:isFn K (.ref e2)=true)
  (gp:keepIn K (.ref af)=true)
  (fK:makesIn K ad=true)
  (fz:isFn K (.ref e7)=true)
  (fN:keepIn K (.ref ad)=true)
  (fC:makesIn K q=true)
  (fB:isFn K (.ref b3)=true)
  (fF:keepIn K (.ref q)=true)
  (bT:makesIn K z=true)
  (bU:isFn K (.ref gh)=true)
  (bX:keepIn K (.ref z)=true)
  (dE:makesIn K c0=true)
  (dI:findIn K (.ref c0) "__init__" =some (some (.builtin "object.__init__")))
  (dD:keepIn K (.ref c0)=true)
  (d6:makesIn K c1=true)
  (ee:findIn K (.ref c1) "__init__" =some (some (.builtin "object.__init__")))
  (d7:keepIn K (.ref c1)=true)
  (cU:makesIn K c2=true)
  (dr:findIn K (.ref c2) "__init__" =some (some (.builtin "object.__init__")))
  (cY:keepIn K (.ref c2)=true)
  (fm:makesIn K c3=true)
  (ft:findIn K (.ref c3) "__init__" =some (some (.builtin "object.__init__")))
  (fy:keepIn K (.ref c3)=true)
  (bz:isFn K (.ref dz)=true)
  (aW:isFn K (.ref bd)=true)
  (aA:findIn K (.ref z) "row_of" =some (some (.ref bd)))
  (az:isFn K (.ref cd)=true)
  (ar:findIn K (.ref z) "keep_row" =some (some (.ref cd)))
  (cu:isFn K (.ref em)=true)
  (am:isFn K (.ref dy)=true)
  (bR:isFn K (.ref cn)=true)
  (aZ:findIn K (.ref z) "put" =some (some (.ref cn)))
  (bN:isFn K (.ref fk)=true)
  (aC:isFn K (.ref er)=true)
  (cr:isFn K (.ref ff)=true)
  (bj:isFn K (.ref eb)=true)
  (aR:findIn K (.ref c0) "levelled" =some (some (.ref an)))
  (aa:isFn K (.ref an)=true)
  (aS:findIn K (.ref c1) "levelled" =some (some (.ref an)))
  (aH:findIn K (.ref c2) "levelled" =some (some (.ref an)))
  (bf:isFn K (.ref dl)=true)
  (aN:isFn K (.ref bk)=true)
  (bK:isFn K (.ref ea)=true)
  (bh:isFn K (.ref fi)=true)
  (bV:findIn K (.ref c3) "picks" =some (some (.ref bk)))
  (au:isFn K (.ref co)=true)
  (ah:findIn K (.ref z) "taken_for" =some (some (.ref co)))
  (aV:isFn K (.ref bv)=true)
  (aB:findIn K (.ref z) "do_buy" =some (some (.ref bv)))
  (aJ:isFn K (.ref bt)=true)
  (av:findIn K (.ref z) "do_gift" =some (some (.ref bt)))
  (aI:isFn K (.ref cl)=true)
  (aw:findIn K (.ref z) "do_sell" =some (some (.ref cl)))
  (aK:isFn K (.ref ca)=true)
  (ax:findIn K (.ref z) "do_give" =some (some (.ref ca)))
  (ay:isFn K (.ref br)=true)
  (ak:findIn K (.ref z) "do_split" =some (some (.ref br)))
  (ai:isFn K (.ref b0)=true)
  (ae:findIn K (.ref z) "do_parting" =some (some (.ref b0)))
  (aj:isFn K (.ref bs)=true)
  (ac:findIn K (.ref z) "do_by_kind" =some (some (.ref bs)))
  (aP:isFn K (.ref dp)=true)
  (aG:isFn K (.ref e1)=true)
  (aF:isFn K (.ref fl)=true)
  (aO:isFn K (.ref e5)=true)
  (aD:isFn K (.ref ej)=true)
  (ao:isFn K (.ref dv)=true)
  (bF:isFn K (.ref bp)=true)
  (aQ:findIn K (.ref z) "held" =some (some (.ref bp)))
  (b7:isFn K (.ref cp)=true)
  (bC:findIn K (.ref z) "do" =some (some (.ref cp)))
  (bb:isFn K (.ref bn)=true)
  (aE:findIn K (.ref z) "sales" =some (some (.ref bn)))
  (bH:isFn K (.ref ig)=true)
  (bE:isFn K (.ref da)=true)
  (aU:findIn K (.ref z) "sums" =some (some (.ref da)))
  (aY:specialIn K (.ref c4) "__getattribute__" =some (some (.builtin "type.__getattribute__")))
  (aX:readsIn K c4 (.type "type")=true)
  (ba:findCls K (.ref c4) (.type "type") "__init__" =some (.val (.ref f5)))
  (bB:specialIn K (.ref q) "__getattribute__" =some (some (.builtin "type.__getattribute__")))
  (bA:readsIn K q (.type "type")=true)
  (bD:findCls K (.ref q) (.type "type") "__init__" =some (.val (.ref b3)))
  (fQ:kitOne K (.ref c6) (.ref c7)=some false/\kitOne K (.ref c6) (.ref c8)=some false/\kitOne K (.ref c6) (.ref c9)=some false/\kitOne K (.ref c6) (.ref ab)=some false/\kitOne K (.ref c6) (.ref c5)=some false)
  (eP:kitOne K (.ref c7) (.ref c6)=some false/\kitOne K (.ref c7) (.ref c8)=some false/\kitOne K (.ref c7) (.ref c9)=some false/\kitOne K (.ref c7) (.ref ab)=some false/\kitOne K (.ref c7) (.ref c5)=some false)
  (ek:kitOne K (.ref c8) (.ref c6)=some false/\kitOne K (.ref c8) (.ref c7)=some false/\kitOne K (.ref c8) (.ref c9)=some false/\kitOne K (.ref c8) (.ref ab)=some false/\kitOne K (.ref c8) (.ref c5)=some false)
  (eC:kitOne K (.ref c9) (.ref c6)=some false/\kitOne K (.ref c9) (.ref c7)=some false/\kitOne K (.ref c9) (.ref c8)=some false/\kitOne K (.ref c9) (.ref ab)=some false/\kitOne K (.ref c9) (.ref c5)=some false)
  (dM:kitOne K (.ref ab) (.ref c6)=some false/\kitOne K (.ref ab) (.ref c7)=some false/\kitOne K (.ref ab) (.ref c8)=some false/\kitOne K (.ref ab) (.ref c9)=some false/\kitOne K (.ref ab) (.ref c5)=some false)
  (cF:kitOne K (.ref c5) (.ref c6)=some false/\kitOne K (.ref c5) (.ref c7)=some false/\kitOne K (.ref c5) (.ref c8)=some false/\kitOne K (.ref c5) (.ref c9)=some false/\kitOne K (.ref c5) (.ref ab)=some false)
  :∃fd:FuncData,(∀(s:Shared)(v:Value),BindsTo s fd ⟨[v],[]⟩ [("_law_script",v)])/\∀base:Heap,K.In base->base.Ns mainGlobals mg->jQ l.prog w K mg base CX0 12 fa fd ["_law_script"] (Ot K):=by
 have e:=m0.symm.trans (mg_of X G eF.1);cases e;have T:Txt K mg ⟨f0,f1,f2,f3,f4,f5,f6,f7,f8,f9,j2,ap,ev,as,d2,gv,h8,l1,k7,lv,bd,cd,h3,e2,dz,h9,cn,fk,g3,em,mf,dy,e7,j4,er,bv,bt,hj,gu,ih,hs,an,j1,dl,ff,go,h6,bk,ea,eb,lf,fi,j7,co,cl,ca,i2,hx,br,li,b0,bs,i5,i7,dp,mo,e1,fl,e5,ej,dv,hn,bp,cp,me,b3,mr,gh,l7,da,hv,bn,ke,hc,hm,ht,kk,ha,i1,hf,le,j8,ix,kn,hk,j9,is,i8,hp,g5,iw,iy,ig,iu,fa,c0,c1,c2,c3,c4,c5,c6,c7,c8,c9,ab,q,af,z,ad,dw,lr,du,fV,eg,eu,eh,eE,fT,cS,eR⟩ ⟨_,_,_,_,_,_,_,_,_,_,_,_,_,_,_,_,_,_,_,_,_,_,_,_,_,_,_,_,_,_,_,_,_,_,_,_,_,_,_,_,_,_,_,_,_,_,_,_,_,_,_,_,_,_,_,_,_,_,_,_,_,_,_,_,_,_,_,_,_,_,_,_,_,_,_,_,_,_,_,_,_,_,_,_,_,_,_,_,_,_,_,_,_,_,_,_,_,_,_,_,_,_,_,_,_⟩:=⟨a0.g X G,a1.g X G,a2.g X G,a3.g X G,a4.g X G,a5.F,a6.F,a7.g X G,RQ (st:=mG) (its:=[.int 0 im]) l8 d8 k8 nh rfl (.cons ⟨_,rfl⟩ .nil),a9.g X G,a10.g X G,RQ (st:=lO) (its:=[.int 0 ie,.none]) or oe nx ik rfl (.cons ⟨_,rfl⟩ (.cons rfl .nil)),a12.F,RQ (st:=lQ) (its:=[.none]) og of o5 ij rfl (.cons rfl .nil),a14.F,oz.g X G,n6.g X G,ov.g X G,nw.g X G,m7.g X G,db.F,ct.F,m6.g X G,i9.F,d1.F,mv.g X G,bi.F,ec.F,o2.g X G,ez.F,ok.g X G,e0.F,ml.F,o0.g X G,e4.F,cs.F,b4.F,m5.g X G,ny.g X G,on.g X G,nd.g X G,bc.F,ne.g X G,ep.F,dt.F,m8.g X G,o4.g X G,b1.F,ei.F,d0.F,oi.g X G,e3.F,nb.g X G,dd.F,b2.F,bx.F,n7.g X G,nf.g X G,bq.F,mx.g X G,bm.F,cb.F,ow.g X G,ox.g X G,eq.F,ns.g X G,d3.F,ew.F,ed.F,en.F,ey.F,ob.g X G,bl.F,dc.F,oj.g X G,hh.F,mt.g X G,kx.F,ot.g X G,ch.F,oq.g X G,b6.F,nr.g X G,oy.g X G,nc.g X G,na.g X G,o7.g X G,o1.g X G,om.g X G,pb.g X G,m9.g X G,n9.g X G,ni.g X G,n3.g X G,mu.g X G,pa.g X G,n2.g X G,n5.g X G,oo.g X G,o8.g X G,fu.g X G,fG.g X G,fD.F,fo.g X G,⟨mg_of X G eF.1,eF.2.2.2,Ys (st:=Zx) eF.2.1 eF.2.2.1 eF.2.2.2⟩,mg_none_of X G cG,mg_none_of X G hJ,mg_none_of X G gK,mg_none_of X G hX,mg_none_of X G gW,mg_none_of X G ic,mg_none_of X G gP,mg_none_of X G fH,mg_none_of X G ib,mg_none_of X G gZ,mg_none_of X G g9,mg_none_of X G gG,mg_none_of X G hU,mg_none_of X G dO,mg_none_of X G dq,mg_none_of X G gz,mg_none_of X G gY,mg_none_of X G gA,mg_of X G fM,mg_of X G fx,mg_of X G eT,mg_of X G gS,mg_of X G fY,mg_of X G eL,mg_of X G hV,mg_of X G gO,mg_of X G gQ,mg_of X G gM,mg_of X G ge,mg_of X G gJ,mg_of X G gX,mg_of X G cP,mg_of X G gN,mg_of X G bY,mg_of X G dB,mg_of X G b9,mg_of X G cO,mg_of X G cj,mg_of X G cK,mg_of X G ef,mg_of X G bI,mg_of X G cL,⟨eI,eN,el,eD⟩,⟨eM,et,eo,eB⟩,⟨dS,dR,dP,dG⟩,⟨gb,gn,gr,gq⟩,⟨cy,cA,cz,cB⟩,⟨⟨cy,cA,cz,cB⟩,dX,eO,eG,dF⟩,b8,bG,bZ,bP,bM,bL,⟨fW,fS,fR,fU⟩,⟨⟨fW,fS,fR,fU⟩,gI,eO,eG,gR⟩,eJ,cH,dN,cI,cZ,eQ,d4,⟨eV,e8,eZ,eU⟩,⟨⟨eV,e8,eZ,eU⟩,gm,eO,eG,gE⟩,dQ,cq,de,ce,cR,dA,cD,bQ,⟨eW,fg,eY,eX⟩,⟨⟨eW,fg,eY,eX⟩,gk,eO,eG,gC⟩,d9,ci,df,ck,di,cJ,⟨fc,fb,fe,e9⟩,⟨⟨fc,fb,fe,e9⟩,gc,eO,eG,gf⟩,dL,cm,cV,cf,cQ,⟨d5,dJ,dU,dY⟩,⟨⟨d5,dJ,dU,dY⟩,fh,eO,eG,fw⟩,dn,bW,cT,cN,dZ,⟨gd,gl,gy,gg⟩,dC,cX,bg,cW,b5,be,aT,⟨gL,gH,gT,gF⟩,cM,dh,cC,dH,⟨cx,cw,cg,cc⟩,bJ,bu,al,bw,aL,aq,ag,bo,aM,⟨fX,gw,fZ,gt⟩,cv,dW,dm,bO,cE,bS,⟨dk,a6.n,dg,dj⟩,⟨gx,a8,gi,gB⟩,⟨fj,a11,fJ,fE⟩,⟨fr,a12.n,fO,fA⟩,⟨fP,a13,fL,fq⟩,⟨eK,a14.n,eS,eA⟩,⟨gD,i9.n,gj,gp⟩,⟨fK,ml.n,fz,fN⟩,⟨fC,hh.n,fB,fF⟩,⟨bT,kx.n,bU,bX⟩,⟨dE,dI,dD⟩,⟨d6,ee,d7⟩,⟨cU,dr,cY⟩,⟨fm,ft,fy⟩,⟨d1.n,bz,d1.k⟩,⟨db.n,aW,db.k⟩,⟨aA,aW,db.k⟩,⟨ct.n,az,ct.k⟩,⟨ar,az,ct.k⟩,⟨ez.n,cu,ez.k⟩,⟨e0.n,am,e0.k⟩,⟨bi.n,bR,bi.k⟩,⟨aZ,bR,bi.k⟩,⟨ec.n,bN,ec.k⟩,⟨e4.n,aC,e4.k⟩,⟨dt.n,cr,dt.k⟩,⟨d0.n,bj,d0.k⟩,⟨aR,aa,bc.k⟩,⟨aS,aa,bc.k⟩,⟨aH,aa,bc.k⟩,⟨ep.n,bf,ep.k⟩,⟨b1.n,aN,b1.k⟩,⟨ei.n,bK,ei.k⟩,⟨e3.n,bh,e3.k⟩,⟨bV,aN,b1.k⟩,⟨dd.n,au,dd.k⟩,⟨ah,au,dd.k⟩,⟨cs.n,aV,cs.k⟩,⟨aB,aV,cs.k⟩,⟨b4.n,aJ,b4.k⟩,⟨av,aJ,b4.k⟩,⟨b2.n,aI,b2.k⟩,⟨aw,aI,b2.k⟩,⟨bx.n,aK,bx.k⟩,⟨ax,aK,bx.k⟩,⟨bq.n,ay,bq.k⟩,⟨ak,ay,bq.k⟩,⟨bm.n,ai,bm.k⟩,⟨ae,ai,bm.k⟩,⟨cb.n,aj,cb.k⟩,⟨ac,aj,cb.k⟩,⟨eq.n,aP,eq.k⟩,⟨d3.n,aG,d3.k⟩,⟨ew.n,aF,ew.k⟩,⟨ed.n,aO,ed.k⟩,⟨en.n,aD,en.k⟩,⟨ey.n,ao,ey.k⟩,⟨bl.n,bF,bl.k⟩,⟨aQ,bF,bl.k⟩,⟨dc.n,b7,dc.k⟩,⟨bC,b7,dc.k⟩,⟨b6.n,bb,b6.k⟩,⟨aE,bb,b6.k⟩,⟨fD.n,bH,fD.k⟩,⟨ch.n,bE,ch.k⟩,⟨aU,bE,ch.k⟩,⟨aY,aX,ba⟩,⟨bB,bA,bD⟩,fQ,eP,ek,eC,dM,cF⟩
 exact⟨_,λs v=> .of_eq rfl,λbase _ _=>akL T⟩
def walk{l:PySem.W.OpenLaw}{q:Program}{aa:List Str}{XP:(Str->Option Value)->Heap->Prop}{YP:World->Heap->Prop}{d:DefRec}{K:Params->Fg_}(hn:l.most=some 63)(ab:d.params.defaults=[])
  (hY:∀(w:World)(h:Heap),YP w h->(K w.params).In h)
  (F:∀(w:World)(mg:Str->Option Value)(fa:Addr)(h:Heap),(K w.params).In h->h.Ns mainGlobals mg->mg d.name=some (.ref fa)->
   ∃fd:FuncData,(∀(s:Shared)(u:Value),BindsTo s fd ⟨[u],[]⟩ [("_law_script",u)])/\∀base:Heap,(K w.params).In base->base.Ns mainGlobals mg->jQ l.prog w (K w.params) mg base CX0 12 fa fd ["_law_script"] (Ot (K w.params))):
  PySem.W.WalkO q aa XP YP l.row.toRowW d [] (λf vs=>PySem.call f vs):=
 L2.walk_of (n:=63) (k:=12) (x:= "_law_script") (CX:=λ_=>CX0) (sp:=λw=>Ot (K w.params)) hn (by decide) ab ⟨rfl,by decide,by decide⟩ hY F (λ_ _ a ns hl _ hS=>⟨a,ns,rfl,hS,hl,λ_=>rfl⟩) λ_ _ _ _ _ z=>z
end My
structure PySem.W.Fast:Prop where(tw11252929883727961122 tw4648254522142642884 tw1929538100781779094 tw8729800638407670285 tw18092039572932260924 tw4900542720109014237 tw17530530586607277665 tw4263400740398273795 tw11092281025983676504 tw11580180256570587301 tw16980510367877790466 tw4964765343148017287 tw2934774369191984370 tw6385206525056663689 tw2099996210214440041 tw10015447157888936875 tw2090918425336986745 tw12143846038644506252 tw7531478062089938998 tw2384257786216164576 tw6844227460310553537 tw17335480465339033906 tw17710236969524988324 tw3147107198369999676 tw13464723692707556077 tw14066449225663412682 tw10191379169441242014 tw18337124988691820166 tw13069911390239263765 tw11570862015586424956 tw59903896674558361 tw5708226016876817434 tw18133553655715450819 tw8639854656567387986 tw8030002510448838861 tw6207800980973906572 tw12113875381024999535 tw5782386043001334481 tw2454400248614742320 tw13480912089169218699 tw13908761527382416043 tw1753171831672743500 tw2105959047172155989 tw15221366552127033024 tw4380891560980240881 tw5769219359827531420 tw8783920221807132652 tw8740338905602434524 tw135327562807390261 tw6184732882008468702 tw14976682431487343358 tw9516431992778521059 tw11120167423727231843 tw6460507154492717530 tw783941766077088027 tw13484114942181400076 tw13810332017803592435 tw11191435952546251940 tw9285017666217280341 tw13975751979221190881 tw7011341503248888891 tw7137047835010586777 tw7167550050352828311 tw637173822933397323 tw18376293733645474264 tw12187920458711974915 tw6142452238858593140 tw15759662071056145632 tw4510601553421678427 tw2880758210016270915 tw7262820510965226027 tw3548854906950243009 tw15361084575171020726 tw1658804657438727957 tw1385230459481559019 tw3166357810364902534 tw12460647899872307627 tw12326087454230299327 tw14075046577993455403 tw10903992457960501487 tw15602670921425318401 tw4984440061081182787 tw3057643003440549656 tw2747335996731409971 tw12302694088825048404 tw7042176295770048029 tw6441966149238635833 tw16905583250422960604 tw1974526949628156921 tw14558736430602659063 tw9883970658271785790 tw4661717698151479446 tw1373949572541175548 tw24519609906412759 tw4378239301426442011 tw6826212108119194084 tw8007082679337229161 tw16001536862382913569 tw13872603491120277407 tw15589275164327516457 tw16042900214527108334 tw11945216342199846304 tw4269567897352403814 tw12275852574973477864 tw6567613071092329780 tw8629117827667459987 tw13518602818034351583 tw11592543127279700471 tw11072070381253879548 tw6112325696766608890 tw10082235743245823040 tw16035255243292976690 tw14826668284930981848 tw14156667757370425982 tw1008016263533126152 tw17805632966991797808 tw8332554508191930245 tw3763767264515333038 tw7555127810302515842 tw13021116678229201576 tw7378329467184516912 tw10765968537865966771 tw9295890247658990694 tw17207090776552431103 tw17390150815198816063 tw14002290994074126748 tw13271820621413507924 tw2771118621494495502 tw975435127193803381 tw8945747487317980344 tw658078680921208938 tw10183299104004608374 tw7349908651999247248 tw10635836436532069135 tw13300527251400171652 tw15356001059653577406 tw9726922759910232526 tw17035223531728974925 tw16993884863297587072 tw14319910603744220692 tw3690211011774669652 tw6163698004934943051 tw6107976306499332320 tw1455662436835768556 tw11330665891983771606 tw12051918244013156301 tw9807538428361706976 tw4322683011416619982 tw7382164737614277022 tw6449218535353105118 tw11005223096494037271 tw17587518762755947514 tw575689147853924478 tw172061877568062431 tw10082942255652224028 tw16588451301765838418 tw14305794903086659283 tw2818352848141098454 tw6562645371214710126 tw2362543606729081738 tw15803350297396243399 tw3226810850032278832 tw4401527071759805122 tw10952048215762463641 tw2094906962209297266 tw13989172647366678810 tw8097283401704098984 tw14824566546405767366 tw6119516147521404352 tw12208103146138721677 tw11620765014846582131 tw18130117398209753704 tw2474376804726677869 tw12374706005884081490 tw18426176883232019273 tw523129565408577097 tw2990279817059912211 tw11123281701464211105 tw16758564271747552615 tw4896296863941141300 tw10044905520293931439 tw11797297094424158348 tw7230827841925436024 tw14959307048657450227 tw8763114683541212792 tw8658145516374298954 tw53602300146873543 tw7314619530413359081 tw3617196040347276326 tw12968255231600121416 tw15314383854049860741 tw2952882451662618783 tw6115202319629234871 tw14080867018472348017 tw5588940350573938164 tw2514345961332459306 tw13543905805265949218 tw138781070804724907 tw8455762412605315096 tw8998142778123384972 tw1543070713050171150 tw16948594596485795274 tw12825201255295965624 tw14203645868532309642 tw2330815087499473196 tw11532246146923324994 tw12160568359667411135 tw16888537983782474898 tw8392345375603995424 tw1275366619579503402 tw2384185704645112053 tw14969151253265014796 tw11221745688187934572 tw6481596450432890065 tw2554235785726033623 tw16691490444697088901 tw301184472518437992 tw10896169619329262468 tw9508129682486125057 tw3917980023168967890 tw5670568847790963384 tw12788312284395753589 tw13985099613729564148 tw4030261019112478080 tw3405588925875862752 tw5170931457531864201 tw6902690695680640159 tw12372613734846457479 tw8410372112273098385 tw5224391342394182882 tw16458233872520445102 tw1244067803454471085 tw5490220103883298318 tw3757709667602381160 tw3572880138502726013 tw7926959494103966207 tw5819354851386061602 tw6707716674842500349 tw16245413971070107980 tw699918474935658285 tw13321782302159513125 tw995289040949973340 tw14542332919583188336 tw3672356322131377265 tw7239884088273066600 tw8163885442256748371 tw62097222515857318 tw12391255730768591876 tw8267221700351726427 tw3796080298105893970 tw1908995091482899845 tw4202298619791698752 tw5185055020315329443 tw11157964947760952710 tw4253754858878918466 tw11284976732422562642 tw8144001465792063163 tw18033154686785992331 tw2286699224495838140 tw5557036331547551707 tw12639014021911783880 tw1943290065805236260 tw7692734702281005725 tw9738828979627810138 tw14267475017114061389 tw14871440557964877085 tw2832160257122724135 tw17455050495914235636 tw9059117310959599188 tw5773631687506591011 tw533949227666538504 tw6048203624366659234 tw5629350007754384371 tw9147531437014338347 tw3148097739663819396 tw2973780025489498584 tw8779239894456360028 tw12552830391421728158 tw11644164191130247008 tw6569084457346781815 tw9549009521913782468 tw4596140090599572017 tw15442410157277915392 tw8204204928736088993 tw12916267085017030506 tw13460501032275362056 tw4030581373366452397 tw2745949852920707174 tw11678338467915222369 tw9137243659662235827 tw6764269588629425587 tw7584191821670466837 tw16563478863305713584 tw16280185337633398031 tw14102247885342657324 tw6654406991522340470 tw18253796728155337542 tw9519957969498881785 tw6943388482070559751 tw3180026665663488963 tw5197409751725029975 tw16121071773092954514 tw1349733686239135493 tw9809796706546018603 tw7653539549286259412 tw2894267900952380774 tw16975536232963670997 tw5520170015462889945 tw13730679837732343607 tw6348035968347601895 tw16804313687483739669 tw15852588111862931777 tw11425460948059789905 tw13507852333596789316 tw5542811786245879696 tw3570835125017398908 tw233556110209471816 tw9590318770842268732 tw4625697470833048313 tw13372131395746510784 tw7153412672621189118 tw423166355745317788 tw16705649895796142825 tw1647989416012372692 tw6880093444661558100 tw8896885839852946367 tw8622628038631174386 tw1670898729540012885 tw17036367674041663950 tw13589429516222154484 tw12990830485969161054 tw3719754741702340871 tw6806707743187659747 tw12586776534650774389 tw7817114746070791868 tw4286024892316358307 tw14482298005181863631 tw847919268306751185 tw9315379138267750765 tw1854981289292469437 tw9999133553401516014 tw7413755504308278203 tw14362112584115780504 tw3925389873877603130 tw11431314475093358796 tw16451820528520690002 tw7840854875841945200 tw1143349589385360447 tw5102495444282208199 tw16047782182021175049 tw9213293368760839297 tw16646043133657906967 tw16553023947816795649 tw12544822344509416041 tw10739361520057890230 tw14116638478524057608 tw9280179344138144133 tw8386657970394174166 tw12211712013827887050 tw5738903886259800336 tw2017019998981270013 tw10142763737182382499 tw16381560747309223791 tw5660725171414993472 tw3011522232363769899 tw12456827924375015824 tw6728763531680151778 tw5214847864812976285 tw756027303198394948 tw4290964580200565399 tw14217191371872545289 tw13070734750850215834 tw10872654369507726549 tw6677353237205647086 tw14662196021549312140 tw260923632275690081 tw17582936933651867127 tw2442515474670103925 tw11455071385558033782 tw6876059043466704558 tw13023294051876991953 tw18401884430700087479 tw5688051082685850511 tw2302098631652623910 tw7941823710117802166 tw7447153877463532750 tw1344748891381006022 tw706890472496548818 tw18312037086023534020 tw12457661103979958100 tw3000353450451083832 tw1692836149588341698 tw5207678478213512724 tw1813230438098790226 tw8358435991797074937 tw8026886443854906475 tw4326786581736658236 tw4214589720332940088 tw10510327069679624577 tw15180064447111747869 tw3816453987574764507 tw8401761377461852224 tw13071556398985680279 tw18185200226499362759 tw5209442927122101023 tw11213965913665086127 tw14860847288325577602 tw7785171894251839129 tw9517263992976027899 tw12639635815224040407 tw212757524944394652 tw16964902851281957653 tw2246315646638045297 tw17741314766775005934 tw17091111205372225330 tw13902506491328914542 tw17856841776692032540 tw14916125771714464537 tw10625557974230787739 tw3614334634583925491 tw5943106329762723197 tw11463079724678064788 tw17111458906280583171 tw8423447731365945612 tw4615513098366155509 tw16996835088098664300 tw866390218938149827 tw10587163634312329886 tw16910664466873321205 tw17667769052621289603 tw15514032488727332083 tw7047726457067116804 tw18049092666647231683 tw4442763896960487994 tw17352110971757424962 tw15107701925647906914 tw16368951841736342760 tw3346514218873348444 tw3929619894757541930 tw16403796832021113074 tw6698273779873592736 tw11224835902574494754 tw13389905441122297728 tw2923801061548220138 tw14644756850387361987 tw1859729453226810412 tw10268130453852991792 tw17465717392755194087 tw17368085684198128695 tw4246619429915701042 tw14844126972031170344 tw17488159005789514740 tw4738066245024208316 tw4042360641190254422 tw7586506291270413182 tw8088294285607906111 tw979583983642531493 tw10258907100233159565 tw5941832310861938340 tw3034354616289379625 tw2701900687046421338 tw15093015126921431013 tw4414645762392009228 tw6544006285360971051 tw16905403146462616405 tw624952046972949976 tw16733629019265320448 tw5219642609380241739 tw13126102576211655238 tw560346516666122423 tw1188188134249526420 tw18444074206148410851 tw11316433880583127213 tw1642906352772275965 tw3007705131545751282 tw1270905855462714420 tw17977496691998048959 tw546159968860535250 tw3087006644640156286 tw4757259064925837950 tw15575305738255769472 tw9950456126532998635 tw15984762107069883051 tw5369659946870614060 tw4414931448631153618 tw5315779668418764118 tw1304507941957559310 tw10902831638873701051 tw11102546505481633394 tw3438978552157895200 tw14268293998100181835 tw11330989464460913006 tw14492065690602957421 tw9810240810947686536 tw8087549489480289906 tw15417200265862713748 tw12030177220068590347 tw5572630148216142199 tw14081865341166007483 tw17940005259185362598 tw39675416530799456 tw16279805044648703079 tw255021761916496703 tw7222411852165728373 tw17225265343644726808 tw13437784361375108692 tw12405905899641756304 tw16817389317518928768 tw11029796872424105708 tw7229775379245672516 tw9361966877554316492 tw17265842344296243620 tw5139903174330360080 tw18043368067519362264 tw14966214307435881152 tw17246610870127063528 tw2249388890260126579 tw4333644157203627538 tw6090204271417647570 tw913428237288192419 tw13947797777107772130 tw1642844601100270488 tw10322961468377405515 tw15890817835931745146 tw14701861519902619460 tw7182233112554277663 tw6205912984158720378 tw10262014763064505771 tw12081557819461391402 tw5159772302496253312 tw10529368369841858365 tw7194599294463924364 tw12026116702495018737 tw15369230012985879256 tw3844461126760442183 tw671853407638579077 tw11383331114363033802 tw17920422645017849445 tw15654859823107372697 tw9486739817130264557 tw17588359488799420986 tw9278121150115930349 tw11302622665535160139 tw17329680157160198119 tw10460049760025475062 tw3694195695618467365 tw17528383774239891651 tw13351634116929684393 tw7497063384733597492 tw11185495078613976681 tw7335601271920760334 tw16593192631481192319 tw14704073470575735519 tw1272982095868562703 tw11616972982859612937 tw487663828542099017 tw16857063091619807539 tw11471741103176243005 tw9955873887457170250 tw10747535060017920470 tw15480543506273293160 tw3975457466785306491 tw2380784400404672268 tw5582849253532867549 tw16667973470158181701 tw6255278670560337591 tw11154041971898643488 tw17228639199418073067 tw8795155251419047759 tw4000307225206133379 tw2321479816354398774 tw6605306969859113901 tw2465681997682186136 tw12771439222936980006 tw3272910162181938256 tw11710515547499022416 tw3119310550673778323 tw5657638927496494837 tw12413076529652606261 tw14898580980356175412 tw6424196001801400722 tw9049415001695959731 tw13911577425548007066 tw821305843273852577 tw9222704579229648724 tw560849712939472816 tw6977146429973225434 tw3756610846245541380 tw9197112418548649950 tw3016601326555689207 tw11977145662215021878 tw11191371075589291916 tw5432284966056066618 tw9987215288885089713 tw8018930156651045155 tw5976953446099198031 tw2349870631590254342 tw2315028320351795477 tw6791948764388107875 tw9225210948849309377 tw849346026689327681 tw8665788097012034057 tw5517719066336244458 tw1579097195156950955 tw8677464368882178153 tw17932358235523599831 tw9893014616909533460 tw11546899730255372082 tw13359433183623209232 tw16092649706212373676 tw7640755539883082650 tw8230003640086425248 tw16551029116479537683 tw8730247042323414688 tw14519936972045703427 tw9709896811990458748 tw1354758934988508988 tw17285119556828942910 tw14244421789180043248 tw6767815131977489542 tw2348337925112072279 tw6646756450925264927 tw1644807202391396814 tw9279990134439346322 tw17366082678891878915 tw15600640620942720978 tw9961404460753592542 tw3091439863867388381 tw9068621782465339180 tw2983468008249326442 tw8232824646406984582 tw17766369322495359900 tw3293637528368743912 tw3167169376562824439 tw13600360765536133457 tw4538598169750736590 tw5263612254755868353 tw6100704220370753725 tw2579291033972148718 tw15386762203940623515 tw4739740593589201326 tw13241822935120409998 tw15288330599496694336 tw6408483136919307651 tw335642197920993269 tw13764820034975514777 tw12283286851182768805 tw2529148267974115822 tw907448399752105599 tw2057416163199190610 tw628070222194169478 tw13511570966425585596 tw16674028758328079959 tw8573795524949625357 tw4811632079108215079 tw4724029155145641215 tw14732322707338129843 tw15515428499857669847 tw12498976672737245928 tw9399669883079872184 tw2787360374648378152 tw15466993553374905232 tw13080163259139120873 tw348214390333747483 tw5994206437750662868 tw2161430894871515329 tw6557701163559112324 tw18025029759116779285 tw10039938213692155271 tw9768576750501485492 tw16094121417375301819 tw14411082027453437633 tw13308242640762107301 tw12017803567190241497 tw5898255202581261523 tw2505915445151308224 tw12499045721213822950 tw10343496960771205897 tw8402621916969356779 tw12408411180386003823 tw14083833675585709708 tw2130685792786511975 tw10158697686433645542 tw17570387262775166206 tw14061695789018988341 tw15375987400811195421 tw12020671377560760540 tw374163109955575962 tw11574631093745269154 tw11383379249419888615 tw17993695110708618773 tw3684749284545406636 tw15107073354364310116 tw9634563061455336178 tw9527419703052326150 tw12060233647446241333 tw16664805334861179851 tw15150375537742654597 tw5022651416881274228 tw13082867867066822745 tw3827002624180017758 tw1329492608776222128 tw1907931788635703132 tw15092722353152609079 tw7408644284009038012 tw17334323181452752156 tw3698536757614331687 tw547702072588283808 tw11678089126372725813 tw1354718477851505758 tw18320481937774183224 tw5260898734426430275 tw12885033415116869444 tw17030530654705140614 tw4237130502285663839 tw9624910883211566481 tw10877605152175699895:True)
open PySem PySem.W PyProof.Rows
set_option maxRecDepth 100000 in
set_option maxHeartbeats 0 in
theorem PySem.Challenge.cw_lotledger_k65_rows_of_gains_holds : PySem.Challenge.rw_lotledger_k65_rows_of_gains.Holds := by
 w_on;o_law;k_head;(case hw=>w_witness2)
 k_fill
 refine My.walk (l:=PySem.Challenge.rw_lotledger_k65_rows_of_gains) rfl rfl (λw h Y=>PySem.W.kIn_of Y) ?F
 case F=>
  intro w mg fa h KX G hmg;refine' My.all_mk KX G hmg ?fM ?fx ?eT ?gS ?fY ?eL ?hV ?gO ?gQ ?gM ?ge ?gJ ?gX ?cP ?gN ?il ?gU ?a0 ?a1 ?a2 ?a3 ?a4 ?a5 ?a6 ?a7 ?a8 ?l8 ?d8 ?k8 ?lt8 ?a9 ?a10 ?a11 ?l11 ?d11 ?k11 ?ik ?a12 ?a13 ?l13 ?d13 ?k13 ?ij ?a14 ?a15 ?a16 ?a17 ?a18 ?a19 ?a20 ?a21 ?a22 ?a23 ?a24 ?a25 ?a26 ?a27 ?a28 ?a29 ?a30 ?a31 ?a32 ?a33 ?a34 ?a35 ?a36 ?a37 ?a38 ?a39 ?a40 ?a41 ?a42 ?a43 ?a44 ?a45 ?a46 ?a47 ?a48 ?a49 ?a50 ?a51 ?a52 ?a53 ?a54 ?a55 ?a56 ?a57 ?a58 ?a59 ?a60 ?a61 ?a62 ?a63 ?a64 ?a65 ?a66 ?a67 ?a68 ?a69 ?a70 ?a71 ?a72 ?a73 ?a74 ?a75 ?a76 ?a77 ?a78 ?a79 ?a80 ?a81 ?a82 ?a83 ?a84 ?a85 ?a86 ?a87 ?a88 ?a89 ?a90 ?a91 ?a92 ?a93 ?a94 ?a95 ?a96 ?a97 ?a98 ?a99 ?fu ?fG ?fD ?fo ?eF ?cG ?hJ ?gK ?hX ?gW ?ic ?gP ?fH ?ib ?gZ ?g9 ?gG ?hU ?dO ?dq ?gz ?gY ?gA ?bY ?dB ?b9 ?cO ?cj ?cK ?ef ?bI ?cL ?eO ?eG ?eI ?eN ?el ?eD ?eM ?et ?eo ?eB ?dS ?dR ?dP ?dG ?gb ?gn ?gr ?gq ?cy ?cA ?cz ?cB ?dX ?dF ?b8 ?bG ?bZ ?bP ?bM ?bL ?fW ?fS ?fR ?fU ?gI ?gR ?eJ ?cH ?dN ?cI ?cZ ?eQ ?d4 ?eV ?e8 ?eZ ?eU ?gm ?gE ?dQ ?cq ?de ?ce ?cR ?dA ?cD ?bQ ?eW ?fg ?eY ?eX ?gk ?gC ?d9 ?ci ?df ?ck ?di ?cJ ?fc ?fb ?fe ?e9 ?gc ?gf ?dL ?cm ?cV ?cf ?cQ ?d5 ?dJ ?dU ?dY ?fh ?fw ?dn ?bW ?cT ?cN ?dZ ?gd ?gl ?gy ?gg ?dC ?cX ?bg ?cW ?b5 ?be ?aT ?gL ?gH ?gT ?gF ?cM ?dh ?cC ?dH ?cx ?cw ?cg ?cc ?bJ ?bu ?al ?bw ?aL ?aq ?ag ?bo ?aM ?fX ?gw ?fZ ?gt ?cv ?dW ?dm ?bO ?cE ?bS ?dk ?dg ?dj ?gx ?gi ?gB ?fj ?fJ ?fE ?fr ?fO ?fA ?fP ?fL ?fq ?eK ?eS ?eA ?gD ?gj ?gp ?fK ?fz ?fN ?fC ?fB ?fF ?bT ?bU ?bX ?dE ?dI ?dD ?d6 ?ee ?d7 ?cU ?dr ?cY ?fm ?ft ?fy ?bz ?aW ?aA ?az ?ar ?cu ?am ?bR ?aZ ?bN ?aC ?cr ?bj ?aR ?aa ?aS ?aH ?bf ?aN ?bK ?bh ?bV ?au ?ah ?aV ?aB ?aJ ?av ?aI ?aw ?aK ?ax ?ay ?ak ?ai ?ae ?aj ?ac ?aP ?aG ?aF ?aO ?aD ?ao ?bF ?aQ ?b7 ?bC ?bb ?aE ?bH ?bE ?aU ?aY ?aX ?ba ?bB ?bA ?bD ?fQ ?eP ?ek ?eC ?dM ?cF
  (case fM|fx|eT|gS|fY|eL|hV|gO|gQ|gM|ge|gJ|gX|cP|gN|il|gU=>k_is)
  (case a0|a1|a2|a3|a4|a5|a6|a7=>constructor;rfl;refine⟨?_,?_,?_,?_⟩<;>k_is)
  (case a8|l8|d8|k8|lt8=>k_is)
  (case a9|a10=>constructor;rfl;refine⟨?_,?_,?_,?_⟩<;>k_is)
  (case a11|l11|d11|k11|ik=>k_is)
  (case a12=>constructor;rfl;refine⟨?_,?_,?_,?_⟩<;>k_is)
  (case a13|l13|d13|k13|ij=>k_is)
  (case a14|a15|a16|a17|a18|a19|a20|a21|a22|a23|a24|a25|a26|a27|a28|a29|a30|a31|a32|a33|a34|a35|a36|a37|a38|a39|a40|a41|a42|a43|a44|a45|a46|a47|a48|a49|a50|a51|a52|a53|a54|a55|a56|a57|a58|a59|a60|a61|a62|a63|a64|a65|a66|a67|a68|a69|a70|a71|a72|a73|a74|a75|a76|a77|a78|a79|a80|a81|a82|a83|a84|a85|a86|a87|a88|a89|a90|a91|a92|a93|a94|a95|a96|a97|a98|a99|fu|fG|fD|fo=>constructor;rfl;refine⟨?_,?_,?_,?_⟩<;>k_is)
  (case eF=>refine⟨?_,?_,?_,?_⟩<;>k_is)
  (case cG|hJ|gK|hX|gW|ic|gP|fH|ib|gZ|g9|gG|hU|dO|dq|gz|gY|gA|bY|dB|b9|cO|cj|cK|ef|bI|cL|eO|eG|eI|eN|el|eD|eM|et|eo|eB|dS|dR|dP|dG|gb|gn|gr|gq|cy|cA|cz|cB|dX|dF|b8|bG|bZ|bP|bM|bL|fW|fS|fR|fU|gI|gR|eJ|cH|dN|cI|cZ|eQ|d4|eV|e8|eZ|eU|gm|gE|dQ|cq|de|ce|cR|dA|cD|bQ|eW|fg|eY|eX|gk|gC|d9|ci|df|ck|di|cJ|fc|fb|fe|e9|gc|gf|dL|cm|cV|cf|cQ|d5|dJ|dU|dY|fh|fw|dn|bW|cT|cN|dZ|gd|gl|gy|gg|dC|cX|bg|cW|b5|be|aT|gL|gH|gT|gF|cM|dh|cC|dH|cx|cw|cg|cc|bJ|bu|al|bw|aL|aq|ag|bo|aM|fX|gw|fZ|gt|cv|dW|dm|bO|cE|bS|dk|dg|dj|gx|gi|gB|fj|fJ|fE|fr|fO|fA|fP|fL|fq|eK|eS|eA|gD|gj|gp|fK|fz|fN|fC|fB|fF|bT|bU|bX|dE|dI|dD|d6|ee|d7|cU|dr|cY|fm|ft|fy|bz|aW|aA|az|ar|cu|am|bR|aZ|bN|aC|cr|bj|aR|aa|aS|aH|bf|aN|bK|bh|bV|au|ah|aV|aB|aJ|av|aI|aw|aK|ax|ay|ak|ai|ae|aj|ac|aP|aG|aF|aO|aD|ao|bF|aQ|b7|bC|bb|aE|bH|bE|aU|aY|aX|ba|bB|bA|bD=>k_is)
  (case fQ|eP|ek|eC|dM|cF=>refine⟨?_,?_,?_,?_,?_⟩<;>kit_is)
