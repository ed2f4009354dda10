import PyProof.Rows.All
import Wide.FinOn
import OpenK.KSplit
import KE.KSortTup
import KE.KDictOf
import KE.RegKIsAll
import KE.KEqDict
import KE.KRevIter
import KE.KNestM
import KE.KDictSum
import KE.KIntText
import KE.KFromBytes
import KE.KLam
import PySem.Challenge.RW_lotledger_k63_whole_nothing_left
set_option Elab.async false
set_option linter.all false
set_option compiler.extract_closed false
set_option maxRecDepth 100000
set_option maxHeartbeats 4000000
local macro_rules | `(tactic| walk_at "o") => `(tactic| first | exact Or.inl rfl | exact Or.inr (Or.inl rfl) | exact Or.inr (Or.inr rfl))
local macro_rules | `(tactic| walk_at "p") => `(tactic| first | exact .inl rfl | exact .inr rfl | assumption)
noncomputable section
abbrev Fg_:=PySem.W.Frag
def za:= @List.length_map
def zb:= @PySem.Heap.get?_push_of_some
def zd:= @PySem.wpAny_bind
def ze:= @if_neg
def zf:= @List.map_cons
def zg:= @List.getElem?_eq_getElem
def zh:= @List.getElem?_map
def zi:= @List.mem_map
def zj:= @Nat.le_refl
def zk:= @List.size_toArray
def zl:= @List.not_mem_nil
def zm:= @List.mem_cons_self
def zn:= @if_pos
def zo:= @List.getElem?_eq_some_iff
def zp:= @List.map_append
def zq:= @List.mem_of_getElem?
def zr:= @List.map_map
def zt:= @PySem.Heap.lt_size
def zu:= @List.mem_cons
def zv:= @PySem.sizeLine_eq
def zw:= @Option.some.inj
def zx:= @List.mem_singleton
def ya:= @List.mem_cons_of_mem
def yb:= @PySem.Heap.get?_push_size
def yc:= @PySem.wpAny_pure
def yd:= @List.length_append
def ye:= @Nat.ne_of_lt
def yf:= @decide_eq_true
def yg:= @List.mem_append
def yh:= @List.mem_append_right
def yi:= @Nat.lt_of_lt_of_le
def yj:= @Nat.zero_le
def yk:= @List.take_add_one
def ym:= @decide_eq_false
def yn:= @List.sum_cons
def yo:= @List.length_cons
def yp:= @Bool.false_ne_true
def yq:= @List.nodup_cons
def yr:= @List.take_of_length_le
def yt:= @PySem.F.plainAttrs_list
def yu:= @List.pairwise_map
def yv:= @Int.emod_lt_of_pos
def yw:= @Nat.le_trans
def yx:= @List.getElem?_eq_none
def yy:= @PySem.F.slot_list_append
def yz:= @PySem.F.type_list_append
def yB:= @PySem.PassesOwn.never
def yC:= @List.getElem_of_mem
def yD:= @List.length_take
def yE:= @List.filter_cons
def yF:= @Int.emod_nonneg
def yG:= @PySem.Paired.length
def yH:= @List.map_congr_left
def yI:= @List.getElem?_append_right
def yJ:= @List.take_length
def yK:= @of_decide_eq_true
def yL:= @List.getElem?_append_left
def yM:= @Nat.lt_irrefl
def yN:= @Array.length_toList
def yO:= @PySem.Heap.get?_update_ne
def yP:= @PySem.wpAny_mono
def yQ:= @PySem.F.plainAttrs_dict
def yR:= @List.filter_cons_of_neg
def yS:= @List.filter_append
def yT:= @PySem.wpAny_Call_Name_kw
def yU:= @PySem.W.kia_one
def yV:= @List.length_filter_le
def yW:= @PySem.wpAny_holding
def yX:= @List.append_nil
def yY:= @List.any_eq_true
def yZ:= @List.filter_cons_of_pos
def y0:= @PySem.Heap.get?_update_other
def y4:= @List.mem_range
def y6:= @PySem.wpAny_truthy_bool
def y8:= @List.length_pos_iff
def y9:= @List.pairwise_iff_getElem
def zza:= @List.length_singleton
def zzb:= @PySem.F.slot_dict_get
def zzc:= @Nat.lt_of_le_of_lt
def zzd:= @Bool.false_eq_true
def zze:= @Option.isSome_iff_exists
def zzf:= @List.mem_filter
def zzg:= @Nat.ne_of_gt
def zzh:= @List.length_drop
def zzi:= @List.getElem_mem
def zzj:= @List.getElem_map
def zzk:= @Array.getElem?_toList
def zzl:= @List.foldl_cons
def zzm:= @List.sum_append
def zzn:= @List.mem_append_left
def zzo:= @Nat.le_succ
def zzp:= @Nat.pow_le_pow_right
def zzq:= @List.nodup_append
def zzr:= @PySem.wpAny_pyIter_list
def zzs:= @List.Pairwise.imp_of_mem
def zzt:= @PySem.mem_of_lookup
def zzu:= @Nat.le_add_right
def zzv:= @List.length_eq_zero_iff
def zzw:= @List.take_append_of_le_length
def zzx:= @List.map_nil
def zzy:= @PySem.F.entry_dict_get
def zzz:= @PySem.call_meetsIn
def zzA:= @Bool.eq_iff_iff
def zzB:= @List.find?_cons
def zzC:= @List.length_nil
def zzD:= @List.cons.inj
def zzE:= @List.take_append_drop
def zzF:= @List.eq_nil_or_concat
def zzG:= @List.concat_eq_append
def zzH:= @List.ext_getElem?
def zzI:= @List.Sublist.refl
def zzJ:= @Sum.inr.inj
def zzK:= @List.pairwise_append
def zzL:= @List.getElem?_of_mem
def zzM:= @PySem.wpAny_tryCatch
def zzN:= @List.cons_append
def zzO:= @List.ext_getElem
def zzP:= @Array.getElem?_eq_getElem
def zzQ:= @PySem.F.slot_dict_values
def zzR:= @List.sublist_append_left
def zzS:= @List.nil_append
def zzT:= @PySem.wpAny_passesOwn
def zzU:= @PySem.W.callWith_K
def zzV:= @List.zip_cons_cons
def zzW:= @PySem.F.slot_dict_items
def zzX:= @Int.le_refl
def zzY:= @List.getElem?_set_self
def zzZ:= @PySem.Heap.size_push
def zz0:= @Option.map_eq_some_iff
def zz1:= @List.getElem?_inj
def zz2:= @List.append_assoc
def zz3:= @List.Perm.refl
def zz4:= @List.drop_of_length_le
def zz5:= @Int.zero_add
def zz6:= @PySem.Heap.get?_update_self
def zz7:= @PySem.F.slot_dict_pop
def zz8:= @PySem.W.methodCall_KW
def zz9:= @List.getElem?_toArray
def yya:= @Nat.lt_succ_self
def yyb:= @Bool.and_eq_true
def yyc:= @PySem.wpAny_call_entry
def yyd:= @PySem.wpAny_newList
def yye:= @List.getElem?_set_ne
def yyf:= @Option.map_some
def yyg:= @PySem.wpAny_execs_nil
def yyh:= @List.filterMap_cons
def yyi:= @PySem.W.plainGet_of
def yyj:= @Int.mul_ediv_cancel
def yyk:= @List.filter_eq_self
def yyl:= @Nat.lt_trans
def yym:= @Bool.false_and
def yyn:= @Bool.and_false
def yyo:= @Array.perm_iff_toList_perm
def yyp:= @List.getD_eq_getElem?_getD
def yyq:= @List.Nodup.sublist
def yyr:= @PySem.wpAny_seqItems
def yys:= @List.drop_eq_getElem_cons
def yyt:= @Sum.inl.inj
def yyu:= @Int.toNat_natCast
def yyv:= @Nat.lt_succ_of_lt
def yyw:= @PySem.wpAny_Call_method
def yyx:= @PySem.wpAny_pyIter_slot
def yyy:= @PySem.wpAny_letGo
def yyz:= @PySem.wpAny_standAt
def yyA:= @List.getElem_inj
def yyB:= @PySem.W.makes_of
def yyC:= @List.lookup_cons
def yyD:= @PySem.Heap.size_update
def yyE:= @PySem.wpAny_eqBool_int
def yyF:= @Nat.le_of_lt
def yyG:= @Nat.le_of_eq
def yyH:= @Int.lt_trans
def yyI:= @PySem.wpAny_call
def yyJ:= @PySem.call_meets
def yyK:= @List.of_mem_zip
def yyL:= @PySem.wpAny_specialOf
def yyM:= @PySem.wpAny_updateSeq
namespace L2
open PySem PySem.Spec PyProof.Rows
abbrev Key:=Sum Int Str
noncomputable def Tg:Key->Value->Bool
 |.inl k,v=>Value.isInt k v
 |.inr x,v=>Value.isStrOf x v
noncomputable def akJ(w:World):Key->Int
 |.inl k=>hashInt k
 |.inr x=>hashStr w x
def kI:∀{k:Key}{v:Value},Tg k v=true->(∃i t,k=Sum.inl i/\v=Value.int i t)\/(∃x t,k=Sum.inr x/\v=Value.str x t)
 |.inl i,v,h=>by
  obtain⟨t,e⟩:=Value.isInt_shape (k:=i) (v:=v) h;exact .inl ⟨i,t,rfl,e⟩
 |.inr x,v,h=>by
  obtain⟨t,e⟩:=Value.isStrOf_shape (x:=x) (v:=v) h;exact .inr ⟨x,t,rfl,e⟩
def Xk(i:Int)(t:Tok):Tg (.inl i) (.int i t)=true:=by simp[Tg,Value.isInt]
def Xd(x:Str)(t:Tok):Tg (.inr x) (.str x t)=true:=by simp[Tg,Value.isStrOf]
def aij(a b:Int):decide ((Sum.inl a:Key)=Sum.inl b)=(a==b):=by
 by_cases e:a=b
 ·subst e;simp
 ·have h:¬(Sum.inl a:Key)=Sum.inl b:=λq=>e (yyt q)
  rw[ym h];exact(beq_eq_false_iff_ne.mpr e).symm
def aid(a b:Str):decide ((Sum.inr a:Key)=Sum.inr b)=decide (a=b):=by
 by_cases e:a=b
 ·subst e;simp
 ·have h:¬(Sum.inr a:Key)=Sum.inr b:=λq=>e (zzJ q)
  rw[ym h,ym e]
def ain(a:Int)(b:Str):decide ((Sum.inl a:Key)=Sum.inr b)=false:=ym (λq=>nomatch q)
def aia(a:Str)(b:Int):decide ((Sum.inr a:Key)=Sum.inl b)=false:=ym (λq=>nomatch q)
noncomputable def jy(prog:Program)(w:World):PySem.KeyKind prog w Key where
 is:=Tg
 hash:=akJ w
 inj:=λv a b ha hb=>by
  rcases kI ha with⟨i,t,rfl,rfl⟩|⟨x,t,rfl,rfl⟩
  ·rcases kI hb with⟨j,u,rfl,e⟩|⟨y,u,rfl,e⟩
   ·injection e with e1 _;rw[e1]
   ·exact nomatch e
  ·rcases kI hb with⟨j,u,rfl,e⟩|⟨y,u,rfl,e⟩
   ·exact nomatch e
   ·injection e with e1 _;rw[e1]
 byValue:=λk v h=>by
  rcases kI h with⟨i,t,rfl,rfl⟩|⟨x,t,rfl,rfl⟩<;>rfl
 pyHash:=λhv h=>by
  rcases kI hv with⟨i,t,rfl,rfl⟩|⟨x,t,rfl,rfl⟩
  ·exact wpAny_pyHash_int h
  ·exact wpAny_pyHash_str h
 eqBool:=λhu hv h=>by
  rcases kI hu with⟨i,t,rfl,rfl⟩|⟨x,t,rfl,rfl⟩
  ·rcases kI hv with⟨j,u,rfl,rfl⟩|⟨y,u,rfl,rfl⟩
   ·rw[aij]at h;exact yyE h
   ·rw[ain]at h;exact SeqAt.EqAt.int_str i t y u _ _ _ _ h
  ·rcases kI hv with⟨j,u,rfl,rfl⟩|⟨y,u,rfl,rfl⟩
   ·rw[aia]at h;exact SeqAt.EqAt.str_int x t j u _ _ _ _ h
   ·rw[aid]at h;exact wpAny_eqBool_str h
 «strs»:=λk x t v h=>by
  rcases kI h with⟨i,u,rfl,e⟩|⟨y,u,rfl,e⟩
  ·exact nomatch e
  ·injection e with e1 _
   subst e1;cases v<;>rfl
def Pu(prog:Program)(w:World)(i:Int)(t:Tok):(jy prog w).is (.inl i) (.int i t)=true:=Xk i t
def QJ(prog:Program)(w:World)(x:Str)(t:Tok):(jy prog w).is (.inr x) (.str x t)=true:=Xd x t
end L2
namespace L2
open PySem PySem.Spec PyProof.Rows
inductive V where
 |non|bl (b:Bool)|int (i:Int)|str (x:Str)|byt (b:Array UInt8)|flt (b:UInt64)|ref (a:Addr)|ty (n:String)
 deriving DecidableEq
noncomputable def RelV:V->Value->Prop
 |.non,u=>u=Value.none
 |.bl b,u=>u=Value.bool b
 |.int i,u=>∃t,u=Value.int i t
 |.str x,u=>∃t,u=Value.str x t
 |.byt b,u=>∃t,u=Value.bytes b t
 |.flt b,u=>∃t,u=Value.float b t
 |.ref a,u=>u=Value.ref a
 |.ty n,u=>u=Value.type n
abbrev Vals:List V->List Value->Prop:=Paired RelV
theorem Vals.length{xs:List V}{us:List Value}(r:Vals xs us):xs.length=us.length:=yG r
theorem Vals.get:∀{xs:List V}{us:List Value}{i:Nat}{x:V},Vals xs us->xs[i]? =some x->∃u,us[i]? =some u/\RelV x u
 |_,_,_,_,.nil,e=>by simp at e
 |_,_,0,_,.cons r _,e=>by simp at e;subst e;exact⟨_,rfl,r⟩
 |_,_,i+1,x,.cons _ t,e=>by
  obtain⟨u,h1,h2⟩:=Vals.get (i:=i) (x:=x) t (by simpa using e);exact⟨u,by simpa using h1,h2⟩
theorem Vals.set{x:V}{u:Value}(r:RelV x u):∀{xs:List V}{us:List Value}(i:Nat),Vals xs us->Vals (xs.set i x) (us.set i u)
 |_,_,_,.nil=> .nil
 |_,_,0,.cons _ t=> .cons r t
 |_,_,i+1,.cons q t=> .cons q (Vals.set r i t)
theorem Vals.append:∀{xs ys:List V}{us ws:List Value},Vals xs us->Vals ys ws->Vals (xs++ys) (us++ws)
 |_,_,_,_,.nil,s=>s
 |_,_,_,_,.cons r t,s=> .cons r (Vals.append t s)
theorem Vals.take:∀{xs:List V}{us:List Value}(n:Nat),Vals xs us->Vals (xs.take n) (us.take n)
 |_,_,0,_=> .nil
 |_,_,_+1,.nil=> .nil
 |_,_,n+1,.cons r t=> .cons r (Vals.take n t)
theorem Vals.drop:∀{xs:List V}{us:List Value}(n:Nat),Vals xs us->Vals (xs.drop n) (us.drop n)
 |_,_,0,r=>r
 |_,_,_+1,.nil=> .nil
 |_,_,n+1,.cons _ t=>Vals.drop n t
noncomputable def Jy:Option V->Option Value->Prop
 |some v,some u=>RelV v u
 |none,none=>True
 |_,_=>False
noncomputable def KV{κ:Type}:List (κ×V)->List (κ×Value)->Prop:=Paired fun(p:κ×V)(q:κ×Value)=>p.1=q.1/\RelV p.2 q.2
noncomputable def kV:Key->V
 |.inl i=> .int i
 |.inr x=> .str x
inductive HO where
 |lst (xs:List V)
 |tup (xs:List V)
 |dK (kvs:List (Key×V))|dT (kvs:List (List Key×V))
 |set (S:Int->Bool) (n:Nat)
 |ins (C dx:Addr) (fs:List (Str×V))
 |own (x:Addr)
 |xd (fs:List (Str×V))
 |met (f x:Addr)
 |rng (lo hi:Int)
 |frz (o:Obj) (u:HO)
 |tbl (ps:Array Value)
 |ext (φ:Heap->Prop)
abbrev Hp:=Addr->Option HO
noncomputable def upd(H:Hp)(a:Addr)(o:HO):Hp:=λb=>if b=a then some o else H b
def iC{H:Hp}{a:Addr}{o:HO}:upd H a o a=some o:=by unfold upd;rw[zn rfl]
def iJ{H:Hp}{a b:Addr}{o:HO}(h:b≠a):upd H a o b=H b:=by unfold upd;rw[ze h]
def ajK{H:Hp}{a b:Addr}{o u:HO}(h:H a=some o)(h':H b=some u)(d:o≠u):a≠b:=by
 intro e;subst e;rw[h]at h';exact d (zw h')
def jz{H:Hp}{a b:Addr}{o:HO}(h:H a=some o)(h':H b=none):a≠b:=by
 intro e;subst e;rw[h]at h';cases h'
section
variable(P:Program)(w:World)
noncomputable def lC(H:Hp)(h:Heap)(a:Addr):HO->Prop
 |.lst xs=>xs.length<=sizeLine/\∃(its:List Value)(n:Nat),Vals xs its/\h.get? a=some {cls:=.type "list",data:=.seq its.toArray n}
 |.tup xs=>xs.length<=sizeLine/\∃its:List Value,Vals xs its/\IsTup h a its.toArray
 |.dK kvs=>kvs.length<=sizeLine/\(a==sysModules)=false/\∃vs,KV kvs vs/\h.DictOf (jy P w) a vs
 | .dT kvs=>kvs.length<=sizeLine/\(a==sysModules)=false/\∃xs:List (List Key×Addr×Value),
   Paired (fun(p:List Key×V)(q:List Key×Addr×Value)=>p.1=q.1/\H q.2.1=some (.tup (p.1.map kV))/\RelV p.2 q.2.2) kvs xs/\
   ∃o es ep,h.get? a=some o/\o.ExactDict/\o.data=.dict es ep/\es.toList=xs.map (entryOfKey (tupleKind (jy P w)))/\(xs.map (·.1)).Nodup
 |.set S n=>h.SetOf (intKind P w) a S n
 | .ins C dx fs=>H dx=some (.own a)/\fs.length<=1000/\dx≠a/\h.get? a=some (PySem.W.instObj C dx)/\
   ∃mA,h.Ns1 dx mA/\(∀f,Jy (fs.lookup f) (mA f))/\PySem.Within mA (fs.map (·.1))
 |.own _=>∃o,h.get? a=some o
 |.xd fs=>∃mA,h.Ns1 a mA/\∀f,Jy (fs.lookup f) (mA f)
 |.rng lo hi=>∃t u v,h.get? a=some {cls:=.type "range",data:=.fields #[.int lo t,.int hi u,.int 1 v]}
 |.frz o u=>h.get? a=some o/\lC H h a u
 |.tbl ps=>h.get? a=some {cls:=.none,data:=.fields ps}
 |.met f x=>h.get? a=some (PySem.W.methodObj (.ref f) (.ref x))
 |.ext φ=>φ h/\(∃o,h.get? a=some o)/\∀h1 h2:Heap,φ h1->(∀o,h1.get? a=some o->h2.get? a=some o)->φ h2
noncomputable def HOk(H:Hp)(h:Heap):Prop:=∀a o,H a=some o->lC P w H h a o
end
section
variable{P:Program}{w:World}{H H':Hp}{h h':Heap}{a:Addr}{o:HO}
theorem lC.lt(x:lC P w H h a o):a<h.objs.size:=by
 cases o with
 |lst xs=>obtain⟨_,_,_,_,e⟩:=x;exact zt e
 |tup xs=>obtain⟨_,_,_,p⟩:=x;exact p.lt
 |dK kvs=>obtain⟨_,_,_,_,o,_,_,e,_⟩:=x;exact zt e
 |dT kvs=>obtain⟨_,_,_,_,o,_,_,e,_⟩:=x;exact zt e
 |set S n=>obtain⟨o,_,_,_,e,_⟩:=x;exact zt e
 |ins C dx fs=>obtain⟨_,_,_,e,_⟩:=x;exact zt e
 |own y=>obtain⟨_,e⟩:=x;exact zt e
 |xd fs=>obtain⟨_,⟨_,_,_,e,_⟩,_⟩:=x;exact zt e
 |rng lo hi=>obtain⟨_,_,_,e⟩:=x;exact zt e
 |frz ob u=>obtain⟨e,_⟩:=x;exact zt e
 |tbl ps=>exact zt (show h.get? a=some _ from x)
 |met f y=>exact zt (show h.get? a=some _ from x)
 |ext φ=>obtain⟨_,⟨_,e⟩,_⟩:=x;exact zt e
theorem Paired.mapP{α β:Type}{F G:α->β->Prop}:∀{l₁:List α}{l₂:List β},Paired F l₁ l₂->(∀a b,F a b->G a b)->Paired G l₁ l₂
 |_,_,.nil,_=> .nil
 |_,_,.cons r t,f=> .cons (f _ _ r) (Paired.mapP t f)
def lC.stay(x:lC P w H h a o)(k:∀b u,(b=a\/H b=some (.own a))->h.get? b=some u->h'.get? b=some u)
  (ho:∀b,H b=some (.own a)->H' b=some (.own a)) (ht:∀b xs,H b=some (.tup xs)->H' b=some (.tup xs)):lC P w H' h' a o:=by
 induction o with
 |lst xs=>obtain⟨z,its,n,r,e⟩:=x;exact⟨z,its,n,r,k _ _ (.inl rfl) e⟩
 |tup xs=>obtain⟨z,its,r,ob,e,c⟩:=x;exact⟨z,its,r,ob,k _ _ (.inl rfl) e,c⟩
 |dK kvs=>obtain⟨z,y,vs,r,ob,es,ep,e,c⟩:=x;exact⟨z,y,vs,r,ob,es,ep,k _ _ (.inl rfl) e,c⟩
 |dT kvs=>
  obtain⟨z,y,xs,r,ob,es,ep,e,c⟩:=x;exact⟨z,y,xs,Paired.mapP r λp q z=>⟨z.1,ht _ _ z.2.1,z.2.2⟩,ob,es,ep,k _ _ (.inl rfl) e,c⟩
 |set S n=>obtain⟨ob,es,ep,t,e,c⟩:=x;exact⟨ob,es,ep,t,k _ _ (.inl rfl) e,c⟩
 |ins C dx fs=>
  obtain⟨d,z,ne,e,mA,⟨od,es,ep,e2,c⟩,r⟩:=x;exact⟨ho _ d,z,ne,k _ _ (.inl rfl) e,mA,⟨od,es,ep,k _ _ (.inr d) e2,c⟩,r⟩
 |own y=>obtain⟨ob,e⟩:=x;exact⟨ob,k _ _ (.inl rfl) e⟩
 |xd fs=>obtain⟨mA,⟨od,es,ep,e,c⟩,r⟩:=x;exact⟨mA,⟨od,es,ep,k _ _ (.inl rfl) e,c⟩,r⟩
 |rng lo hi=>obtain⟨t,u,v,e⟩:=x;exact⟨t,u,v,k _ _ (.inl rfl) e⟩
 |frz ob u ih=>obtain⟨e,q⟩:=x;exact⟨k _ _ (.inl rfl) e,ih q⟩
 |tbl ps=>
  have e:h.get? a=some {cls:=.none,data:=.fields ps}:=x;show h'.get? a=some {cls:=.none,data:=.fields ps};exact k a _ (.inl rfl) e
 |met f y=>
  have e:h.get? a=some (PySem.W.methodObj (.ref f) (.ref y)):=x;show h'.get? a=some (PySem.W.methodObj (.ref f) (.ref y));exact k a _ (.inl rfl) e
 |ext φ=>obtain⟨p,⟨o,e⟩,st⟩:=x;exact⟨st _ _ p λo q=>k _ _ (.inl rfl) q,⟨o,k _ _ (.inl rfl) e⟩,st⟩
theorem HOk.lt(x:HOk P w H h)(e:H a=some o):a<h.objs.size:=(x a o e).lt
def HOk.fresh(x:HOk P w H h)(e:h.objs.size<=a):H a=none:=by
 cases q:H a with
 |none=>rfl
 |some u=>exact absurd (yi (x.lt q) e) (yM _)
def HOk.kept(x:HOk P w H h)(k:∀b u,h.get? b=some u->h'.get? b=some u):HOk P w H h':=λa o e=>
 (x a o e).stay (λb u _ q=>k b u q) (λ_ q=>q) λ_ _ q=>q
def HOk.laid(x:HOk P w H h)(k:∀b u,h.get? b=some u->h'.get? b=some u)(hp:h.objs.size<=a)(z:lC P w (upd H a o) h' a o):HOk P w (upd H a o) h':=λb u e=>by
 have hn:=x.fresh hp;by_cases hb:b=a
 ·subst hb;rw[iC]at e;cases e;exact z
 ·rw[iJ hb]at e
  exact(x b u e).stay (λc v _ q=>k c v q) (λc q=>by rw[iJ (jz q hn)];exact q) λc xs q=>by rw[iJ (jz q hn)];exact q
end
noncomputable def Rd(H:Hp)(a:Addr)(u:HO):Prop:=H a=some u\/∃o,H a=some (.frz o u)
def Rd.of{H:Hp}{a:Addr}{u:HO}(h:H a=some u):Rd H a u:=.inl h
def Rd.ok{P:Program}{w:World}{H:Hp}{h:Heap}{a:Addr}{u:HO}(r:Rd H a u)(x:HOk P w H h):lC P w H h a u:=by
 rcases r with r|⟨o,r⟩
 ·exact x a u r
 ·obtain⟨_,q⟩:=x a _ r
  exact q
noncomputable def Mut:Option HO->Prop
 |some (.lst _)=>True
 |some (.dK _)=>True
 |some (.dT _)=>True
 |some (.set _ _)=>True
 |some (.ins _ _ _)=>True
 |some (.ext _)=>True
 |_=>False
section
variable{P:Program}{w:World}{H:Hp}{h h':Heap}{x e:Addr}{o':HO}
def HOk.write(ok:HOk P w H h)(mu:Mut (H x))(he:e=x\/H e=some (.own x))(k:∀b u,b≠e->h.get? b=some u->h'.get? b=some u)(ad:∃u,h'.get? e=some u)
  (ae:lC P w (upd H x o') h' x o'):HOk P w (upd H x o') h':=λb u q=>by
 have ab:∀c y,H c=some (.own y)->c≠x:=λc y r z=>by subst z;rw[r]at mu;exact mu
 have ac:∀c xs,H c=some (.tup xs)->c≠x:=λc xs r z=>by subst z;rw[r]at mu;exact mu
 by_cases hb:b=x
 ·subst hb;rw[iC]at q;cases q;exact ae
 ·rw[iJ hb]at q
  by_cases aa:b=e
  ·have q':H b=some (.own x):=by
    rcases he with z|z
    ·exact absurd (aa.trans z) hb
    ·rw[aa];exact z
   rw[q]at q';cases q';obtain⟨v,hv⟩:=ad;exact⟨v,by rw[aa];exact hv⟩
  ·refine(ok b u q).stay (λc v hc r=>k c v ?_ r) (λc r=>by rw[iJ (ab c b r)];exact r) λc xs r=>by rw[iJ (ac c xs r)];exact r
   rcases hc with rfl|hc
   ·exact aa
   ·rintro rfl
    rcases he with z|z
    ·exact ab c b hc z
    ·rw[hc]at z;cases z;exact hb rfl
end
structure Un(fs ex:List Addr)(H H':Hp)(h h':Heap):Prop where
 keep:∀b o,h.get? b=some o->H b=none->b∉fs->b∉ex->h'.get? b=some o
 slot:∀b o,h.get? b=some o->H b=none->b∈fs->b∉ex->∃sl,h'.get? b=some {o with slots:=sl}
 free:∀b o,h.get? b=some o->H b=none->b∉ex->H' b=none
 there:∀b o,h.get? b=some o->b∉ex->∃o',h'.get? b=some o'
 tups:∀b xs,H b=some (.tup xs)->H' b=some (.tup xs)
 frzs:∀b o u,H b=some (.frz o u)->H' b=some (.frz o u)
 tbls:∀b ps,H b=some (.tbl ps)->∃more,H' b=some (.tbl (ps++more))
section
variable{fs fs' ex ex':List Addr}{H H1 H2:Hp}{h h1 h2 h':Heap}{a x e:Addr}{o:HO}
def Un.any(u:Un fs ex H H1 h h1){b:Addr}{z:Obj}(q:h.get? b=some z)(n:H b=none)(hx:b∉ex):∃sl,h1.get? b=some {z with slots:=sl}:=by
 by_cases hb:b∈fs
 ·exact u.slot b z q n hb hx
 ·exact⟨z.slots,u.keep b z q n hb hx⟩
def Un.trans(a:Un fs ex H H1 h h1)(b:Un fs ex H1 H2 h1 h2):Un fs ex H H2 h h2 where
 keep:=λc ob q n hc z=>b.keep c ob (a.keep c ob q n hc z) (a.free c ob q n z) hc z
 slot:=λc ob q n hc z=>by
  obtain⟨sl,e1⟩:=a.slot c ob q n hc z;obtain⟨aa,e2⟩:=b.slot c _ e1 (a.free c ob q n z) hc z;exact⟨aa,e2⟩
 free:=λc ob q n z=>by
  obtain⟨o',e1⟩:=a.there c ob q z;exact b.free c o' e1 (a.free c ob q n z) z
 there:=λc ob q z=>by
  obtain⟨o',e1⟩:=a.there c ob q z;exact b.there c o' e1 z
 tups:=λc xs q=>b.tups c xs (a.tups c xs q)
 frzs:=λc ob xs q=>b.frzs c ob xs (a.frzs c ob xs q)
 tbls:=λc ps q=>by
  obtain⟨m1,e1⟩:=a.tbls c ps q;obtain⟨m2,e2⟩:=b.tbls c _ e1;exact⟨m1++m2,by rw[e2,Array.append_assoc]⟩
def Un.kept(k:∀b u,h.get? b=some u->h'.get? b=some u):Un fs ex H H h h':=
 ⟨λb z q _ _ _=>k b z q,λb z q _ _ _=>⟨z.slots,k b z q⟩,λ_ _ _ n _=>n,λb z q _=>⟨z,k b z q⟩,λ_ _ q=>q,λ_ _ _ q=>q,λ_ ps q=>⟨#[],by rw[q];simp⟩⟩
def Un.refl:Un fs ex H H h h:=Un.kept λ_ _ q=>q
def Un.laid(k:∀b u,h.get? b=some u->h'.get? b=some u)(z:h.objs.size<=a)(hn:H a=none):Un fs ex H (upd H a o) h h' where
 keep:=λb u q _ _ _=>k b u q
 slot:=λb u q _ _ _=>⟨u.slots,k b u q⟩
 free:=λb u q n _=>by rw[iJ (ye (yi (zt q) z))];exact n
 there:=λb u q _=>⟨u,k b u q⟩
 tups:=λb xs q=>by rw[iJ (jz q hn)];exact q
 frzs:=λb u xs q=>by rw[iJ (jz q hn)];exact q
 tbls:=λb ps q=>⟨#[],by rw[iJ (jz q hn),q];simp⟩
def Un.write(mu:Mut (H x))(he:e=x\/H e=some (.own x))(k:∀b u,b≠e->h.get? b=some u->h'.get? b=some u)(ab:∃u,h'.get? e=some u):Un fs ex H (upd H x o) h h':=by
 have hx:∀b,H b=none->b≠x:=λb n z=>by subst z;rw[n]at mu;exact mu
 have hb:∀b,H b=none->b≠e:=λb n z=>by
  subst z;rcases he with r|r
  ·exact hx b n r
  ·rw[n]at r;cases r
 have hm:∀b u,H b=some u->¬Mut (some u)->b≠x:=λb u q nm z=>by subst z;rw[q]at mu;exact nm mu
 refine ⟨λb u q n _ _=>k b u (hb b n) q,λb u q n _ _=>⟨u.slots,k b u (hb b n) q⟩,λb u q n _=>by rw[iJ (hx b n)];exact n,λb u q _=>?_,
  λb xs q=>by rw[iJ (hm b _ q λz=>z)];exact q,λb u xs q=>by rw[iJ (hm b _ q λz=>z)];exact q,λb ps q=>⟨#[],by rw[iJ (hm b _ q λz=>z),q];simp⟩⟩
 by_cases aa:b=e
 ·subst aa;exact ab
 ·exact⟨u,k b u aa q⟩
end
noncomputable def trk(h:Heap)(H:Hp):List Addr:=(List.range h.objs.size).filter λa=>(H a).isSome
noncomputable def YF(h:Heap)(H:Hp):Heap:=PySem.W.hideAll h (trk h H)
def Wj(h:Heap)(H:Hp):(YF h H).objs.size=h.objs.size:=PySem.W.hideAll_size _ _
def Zv{h:Heap}{H:Hp}{b:Addr}{o:Obj}(e:h.get? b=some o)(n:H b=none):(YF h H).get? b=some o:=
 PySem.W.hideAll_get _ e λhm=>by
  have q:(H b).isSome=true:=(zzf.mp hm).2;rw[n]at q;simp at q
def ahf{h:Heap}{H:Hp}{b:Addr}{o:Obj}(e:(YF h H).get? b=some o):h.get? b=some o/\H b=none:=by
 have e':h.get? b=some o:=PySem.W.of_hideAll (trk h H) e;refine⟨e',?_⟩
 cases q:H b with
 |none=>rfl
 |some x=>
  have hm:b∈trk h H:=zzf.mpr ⟨y4.mpr (zt e'),by simp[q]⟩;have z:(YF h H).get? b=none:=PySem.W.hideAll_none (trk h H) hm;rw[z]at e;cases e
noncomputable def ahR(g h:Heap)(L:Addr):List (Addr×Obj):=(List.range h.objs.size).filterMap λa=>if a=L\/(g.get? a).isSome=true then none else(h.get? a).map λo=>(a,o)
noncomputable def rest(g h:Heap)(L d:Addr):List (Addr×Obj):=(ahR g h L).filter λp=>decide (p.1≠d)
end L2
namespace L2
open PySem PySem.Spec PyProof.Rows
structure Mod(K:Fg_)(mg:Str->Option Value)(base:Heap):Prop where
 kin:K.In base
 glob:base.Ns mainGlobals mg
 blt:∃mb,base.Ns builtinsNs mb/\∀x:Str,x≠ "__name__" ->mb x=bootBuiltins x
 nolimit:base.NoLimit
structure Cx where
 prog:Program
 w:World
 K:Fg_
 mg:Str->Option Value
 base:Heap
 A:Around
 N:List Str
 s₀:Shared
 H₀:Hp
 env:Env
 outer:List Env
 stack:List Env
 ex:List Addr
 fn:Str->Bool
 calm:Bool
 pn:List (Addr×Obj)
 xe:Value->Shared->Prop
noncomputable def frs(l:List Env):List Addr:=l.filterMap (·.frame)
abbrev Cx.fs(X:Cx):List Addr:=frs X.outer
noncomputable def Vis(sc:Scope)(x:Str):Prop:=sc.names.lookup x=some .local\/sc.names.lookup x=some .cell\/sc.names.lookup x=some .free
noncomputable def Loc(sc:Scope)(x:Str):Prop:=sc.names.lookup x=some .local\/sc.names.lookup x=some .cell
noncomputable def Look(env:Env)(h:Heap)(m:Str->Option Value)(x:Str)(u:Value):Prop:=
 (env.kindOf x=some .local/\m x=some u)\/((env.kindOf x=some .cell\/env.kindOf x=some .free)/\∃c,env.cells.lookup x=some c/\h.IsCell c (some u))
structure Cx.Ok(X:Cx):Prop where
 mod:Mod X.K X.mg X.base
 kind:X.env.scope.kind=.function
 glob:X.env.globals=mainGlobals
 blt:X.env.builtins=builtinsNs
 above:X.s₀.heap.objs.size<=X.env.locals
 inj:∀x y c,X.env.cells.lookup x=some c->X.env.cells.lookup y=some c->x=y
 has:∀x,(X.env.kindOf x=some .cell\/X.env.kindOf x=some .free)->∃c,X.env.cells.lookup x=some c
 cab:∀x c,X.fn x=true->X.env.cells.lookup x=some c->X.s₀.heap.objs.size<=c
 hd:X.calm=true->X.A.handled=none
 frames:X.A.frames=some X.stack
 stk:X.stack=X.outer\/(X.stack=X.env::X.outer/\X.env.frame=some X.env.locals)
 exf:∀b∈X.ex,b≠X.env.locals/\∀x c,X.env.cells.lookup x=some c->c≠b
 bs:∀b o,X.base.get? b=some o->X.s₀.heap.get? b=some o/\X.H₀ b=none
 bsz:X.base.objs.size<=X.s₀.heap.objs.size
 noex:∀b o,X.base.get? b=some o->b∉X.ex
 exfs:∀b∈X.ex,b∉X.fs
 funs:X.s₀.heap.FunFrames X.base X.outer
 frf:∀b∈X.fs,X.H₀ b=none
structure Inv(X:Cx)(pins:List (Addr×Obj))(σ:List (Option V))(H:Hp)(s:Shared):Prop where
 ok:X.Ok
 os:s.os=X.s₀.os
 bare:AllBare s.gens
 base:Un X.fs X.ex X.H₀ H X.s₀.heap s.heap
 loc:∃m,s.heap.Ns X.env.locals m/\∀(i:Nat)(x:Str)(v:V),X.N[i]? =some x->σ[i]? =some (some v)->Vis X.env.scope x->∃u,RelV v u/\Look X.env s.heap m x u
 cell:∀x c,X.env.cells.lookup x=some c->∃v,s.heap.IsCell c v
 free:H X.env.locals=none
 freeC:∀x c,X.env.cells.lookup x=some c->H c=none
 pin:∀p∈X.pn++pins,s.heap.get? p.1=some p.2/\H p.1=none/\p.1≠X.env.locals/\p.1∉X.fs/\∀v,p.2.data≠.cell v
 hok:HOk X.prog X.w H s.heap
 len:σ.length=X.N.length
section
variable{X:Cx}{pins:List (Addr×Obj)}{σ:List (Option V)}{H H':Hp}{s:Shared}{h':Heap}
def Cx.Ok.nofr(ok:X.Ok){b:Addr}{o:Obj}(e:X.base.get? b=some o):b∉X.fs:=λq=>by
 have:=(ok.funs.mem q).1;rw[e]at this;cases this
theorem Inv.bs(I:Inv X pins σ H s):∀b o,X.base.get? b=some o->s.heap.get? b=some o/\H b=none:=λb o e=>
 ⟨I.base.keep b o (I.ok.bs b o e).1 (I.ok.bs b o e).2 (I.ok.nofr e) (I.ok.noex b o e),I.base.free b o (I.ok.bs b o e).1 (I.ok.bs b o e).2 (I.ok.noex b o e)⟩
def Inv.bk(I:Inv X pins σ H s):∀b o,X.base.get? b=some o->s.heap.get? b=some o:=λb o e=>(I.bs b o e).1
theorem Inv.mod(I:Inv X pins σ H s):Mod X.K X.mg X.base:=I.ok.mod
def Inv.kIn(I:Inv X pins σ H s):X.K.In s.heap:=I.ok.mod.kin.keeps I.bk
theorem Inv.lt(I:Inv X pins σ H s):X.env.locals<s.heap.objs.size:=let⟨_,hn,_⟩:=I.loc;hn.lt
def Inv.sz(I:Inv X pins σ H s):X.s₀.heap.objs.size<=s.heap.objs.size:=yw I.ok.above (yyF I.lt)
def Inv.nofs(I:Inv X pins σ H s){a:Addr}(h:s.heap.objs.size<=a):a∉X.fs:=λz=>by
 obtain⟨_,o,q,_⟩:=I.ok.funs.mem z;exact absurd (yi (zt q) (yw I.sz h)) (yM _)
def Inv.cne(I:Inv X pins σ H s):∀x c,X.env.cells.lookup x=some c->c≠X.env.locals:=λx c e z=>by
 obtain⟨v,o,ho,hd⟩:=I.cell x c e;obtain⟨m,⟨o',es,ep,q,aa,_⟩,_⟩:=I.loc;rw[z,q]at ho;cases ho;rw[aa]at hd;cases hd
theorem Inv.funs(I:Inv X pins σ H s):s.heap.FunFrames X.base X.outer:=by
 have aa:∀(l:List Env),(∀b∈frs l,b∈X.fs)->X.s₀.heap.FunFrames X.base l->s.heap.FunFrames X.base l:=by
  intro l
  induction l with
  |nil=>intro _ _;trivial
  |cons env r ih=>
   intro hs hl;obtain⟨hk,⟨L,o,hf,hn,ho,hd⟩,hr⟩:=hl;have hL:L∈X.fs:=hs L (by unfold frs;rw[yyh,hf];exact zm);obtain⟨sl,e⟩:=I.base.slot L o ho (I.ok.frf L hL) hL λz=>I.ok.exfs L z hL;exact⟨hk,⟨L,_,hf,hn,e,hd⟩,ih (λb q=>hs b (by unfold frs;rw[yyh,hf];exact ya _ q)) hr⟩
 exact aa X.outer (λ_ q=>q) I.ok.funs
theorem Inv.stack(I:Inv X pins σ H s):s.heap.FunFrames X.base X.stack:=by
 rcases I.ok.stk with e|⟨e,q⟩
 ·rw[e];exact I.funs
 ·rw[e]
  obtain⟨m,hn,_⟩:=I.loc;refine .cons (by rw[I.ok.kind];decide) q hn ?_ I.funs;exact Heap.get?_none_of_le (yw I.ok.bsz I.ok.above)
def Inv.stkSub(I:Inv X pins σ H s):∀b∈frs X.stack,b∈X.env.locals::X.fs:=λb q=>by
 rcases I.ok.stk with e|⟨e,z⟩
 ·rw[e]at q;exact ya _ q
 ·rw[e]at q
  unfold frs at q;rw[yyh,z]at q;exact q
def Inv.stkFree(I:Inv X pins σ H s):∀b∈frs X.stack,H b=none:=λb q=>by
 rcases zu.mp (I.stkSub b q)with e|q
 ·rw[e];exact I.free
 ·obtain⟨_,o,ho,_⟩:=I.ok.funs.mem q
  exact I.base.free b o ho (I.ok.frf b q) λz=>I.ok.exfs b z q
def Inv.step{g':Array GenState}{t':Nat}{d':Drawn}{ch:List Addr}(I:Inv X pins σ H s)
  (ac:∀b∈ch,(b∈X.ex\/X.s₀.heap.objs.size<=b)/\b≠X.env.locals/\(∀x c,X.env.cells.lookup x=some c->c≠b)/\∀p∈X.pn++pins,p.1≠b)
  (keep:∀b o,b≠X.env.locals->b∉X.fs->b∉ch->s.heap.get? b=some o->H b=none->h'.get? b=some o)
  (slot:∀b o,b≠X.env.locals->b∈X.fs->b∉ch->s.heap.get? b=some o->H b=none->∃sl,h'.get? b=some {o with slots:=sl}) (free:∀b o,b∉ch->s.heap.get? b=some o->H b=none->H' b=none)
  (there:∀b o,b∉ch->s.heap.get? b=some o->∃o',h'.get? b=some o')
  (tups:∀b xs,H b=some (.tup xs)->H' b=some (.tup xs)) (frzs:∀b o u,H b=some (.frz o u)->H' b=some (.frz o u)) (tbls:∀b ps,H b=some (.tbl ps)->∃af,H' b=some (.tbl (ps++af)))
  (ns:∀m,s.heap.Ns X.env.locals m->h'.Ns X.env.locals m) (hok:HOk X.prog X.w H' h') (hg:AllBare g'):
  Inv X pins σ H' {s with heap:=h',gens:=g',drawn:=d',toks:=t'}:=by
 have ae:∀b o,X.s₀.heap.get? b=some o->b≠X.env.locals:=λb o e=>ye (yi (zt e) I.ok.above)
 have ad:∀b o,X.s₀.heap.get? b=some o->b∉X.ex->b∉ch:=λb o e hx hb=>by
  rcases(ac b hb).1 with z|z
  ·exact hx z
  ·exact absurd (yi (zt e) z) (yM _)
 have ab:∀x c,X.env.cells.lookup x=some c->∀v,s.heap.IsCell c v->h'.IsCell c v:=λx c e v ⟨o,ho,hd⟩=>by
  have aa:c∉ch:=λz=>(ac c z).2.2.1 x c e rfl;by_cases hc:c∈X.fs
  ·obtain⟨sl,q⟩:=slot c o (I.cne x c e) hc aa ho (I.freeC x c e)
   exact⟨_,q,hd⟩
  ·exact⟨o,keep c o (I.cne x c e) hc aa ho (I.freeC x c e),hd⟩
 refine⟨I.ok,I.os,hg,⟨λb o e n hb hx=>?_,λb o e n hb hx=>?_,λb o e n hx=>?_,λb o e hx=>?_,λb xs e=>tups b xs (I.base.tups b xs e),λb o xs e=>frzs b o xs (I.base.frzs b o xs e),λb ps e=>?_⟩,?_,λx c e=>?_,?_,λx c e=>?_,λp hp=>?_,hok,I.len⟩
 ·exact keep b o (ae b o e) hb (ad b o e hx) (I.base.keep b o e n hb hx) (I.base.free b o e n hx)
 ·obtain⟨sl,e1⟩:=I.base.slot b o e n hb hx
  obtain⟨ag,e2⟩:=slot b _ (ae b o e) hb (ad b o e hx) e1 (I.base.free b o e n hx);exact⟨ag,e2⟩
 ·obtain⟨o',e1⟩:=I.base.there b o e hx
  exact free b o' (ad b o e hx) e1 (I.base.free b o e n hx)
 ·obtain⟨o',e1⟩:=I.base.there b o e hx
  exact there b o' (ad b o e hx) e1
 ·obtain⟨m1,e1⟩:=I.base.tbls b ps e
  obtain⟨m2,e2⟩:=tbls b _ e1;exact⟨m1++m2,by rw[e2,Array.append_assoc]⟩
 ·obtain⟨m,hn,hl⟩:=I.loc
  refine⟨m,ns m hn,λi x v e1 e2 e3=>?_⟩;obtain⟨u,r,l⟩:=hl i x v e1 e2 e3;refine⟨u,r,?_⟩;rcases l with l|⟨k,c,e,z⟩
  ·exact .inl l
  ·exact .inr ⟨k,c,e,ab x c e _ z⟩
 ·obtain⟨v,z⟩:=I.cell x c e
  exact⟨v,ab x c e v z⟩
 ·obtain⟨m,⟨o,_,_,ho,_⟩,_⟩:=I.loc
  exact free _ o (λz=>(ac _ z).2.1 rfl) ho I.free
 ·obtain⟨v,o,ho,hd⟩:=I.cell x c e
  exact free c o (λz=>(ac c z).2.2.1 x c e rfl) ho (I.freeC x c e)
 ·obtain⟨e,n,ne,nf,d⟩:=I.pin p hp
  have aa:p.1∉ch:=λz=>(ac p.1 z).2.2.2 p hp rfl;exact⟨keep p.1 p.2 ne nf aa e n,free p.1 p.2 aa e n,ne,nf,d⟩
def Inv.un{t':Nat}(I:Inv X pins σ H s)(u:Un X.fs [] H H' s.heap h')(hok:HOk X.prog X.w H' h'):Inv X pins σ H' {s with heap:=h',toks:=t'}:=by
 obtain⟨m,⟨o,es,ep,ho,r⟩,_⟩:=id I.loc;obtain⟨sl,hL⟩:=u.any ho I.free (by simp)
 exact I.step (g':=s.gens) (d':=s.drawn) (ch:=[]) (λ_ z=>nomatch z) (λb o _ hb _ e n=>u.keep b o e n hb (by simp)) (λb o _ hb _ e n=>u.slot b o e n hb (by simp)) (λb o _ e n=>u.free b o e n (by simp)) (λb o _ e=>u.there b o e (by simp)) u.tups u.frzs u.tbls (λm' hm=>by
  obtain⟨o',aa,ab,q,r'⟩:=hm;rw[ho]at q;cases q;exact⟨_,aa,ab,hL,r'⟩) hok I.bare
def Inv.call{g':Array GenState}{t':Nat}{d':Drawn}{ch:List Addr}(I:Inv X pins σ H s)(u:Un (frs X.stack) ch H H' s.heap h')(hok:HOk X.prog X.w H' h')(hg:AllBare g')
  (aa:∀b∈ch,(b∈X.ex\/X.s₀.heap.objs.size<=b)/\b≠X.env.locals/\(∀x c,X.env.cells.lookup x=some c->c≠b)/\∀p∈X.pn++pins,p.1≠b):
  Inv X pins σ H' {s with heap:=h',gens:=g',drawn:=d',toks:=t'}:=by
 obtain⟨m,⟨o,es,ep,ho,r⟩,_⟩:=id I.loc;obtain⟨sl,hL⟩:=u.any ho I.free λz=>(aa _ z).2.1 rfl
 exact I.step (ch:=ch) aa (λb o hL hb q e n=>u.keep b o e n (λz=>(zu.mp (I.stkSub b z)).elim hL hb) q) (λb o _ _ q e n=>u.any e n q) (λb o q e n=>u.free b o e n q) (λb o q e=>u.there b o e q) u.tups u.frzs u.tbls (λm' hm=>by
  obtain⟨o',ac,ad,ab,r'⟩:=hm;rw[ho]at ab;cases ab;exact⟨_,ac,ad,hL,r'⟩) hok hg
def Inv.turned{t':Nat}{it:Addr}(I:Inv X pins σ H s)(k:∀b o,b≠it->s.heap.get? b=some o->h'.get? b=some o)(hn:H it=none)(hL:it≠X.env.locals)
  (h1:it∈X.ex\/X.s₀.heap.objs.size<=it) (h2:∀x c,X.env.cells.lookup x=some c->c≠it) (h3:∀p∈X.pn++pins,p.1≠it):Inv X pins σ H {s with heap:=h',toks:=t'}:=by
 have aa:∀b u,H b=some u->b≠it:=λb u e z=>by rw[z,hn]at e;cases e
 refine I.step (g':=s.gens) (d':=s.drawn) (ch:=[it]) (λb hb=>?_) (λb o _ _ hc e _=>k b o (λz=>hc (by simp[z])) e) (λb o _ _ hc e _=>⟨o.slots,k b o (λz=>hc (by simp[z])) e⟩) (λ_ _ _ _ n=>n)
  (λb o hc e=>⟨o,k b o (λz=>hc (by simp[z])) e⟩) (λ_ _ e=>e) (λ_ _ _ e=>e) (λb ps e=>⟨#[],by rw[e];simp⟩) (λm hm=>?_) (λb u e=>?_) I.bare
 ·have e:b=it:=by simpa using hb
  subst e;exact⟨h1,hL,h2,h3⟩
 ·obtain⟨o,es,ep,ho,r⟩:=hm
  exact⟨o,es,ep,k _ o (Ne.symm hL) ho,r⟩
 ·refine(I.hok b u e).stay (λc v hc q=>k c v ?_ q) (λ_ q=>q) λ_ _ q=>q
  rcases hc with z|z
  ·rw[z];exact aa b u e
  ·exact aa c _ z
def Inv.tok(I:Inv X pins σ H s)(t:Nat):Inv X pins σ H {s with toks:=t}:=I.un (h':=s.heap) (t':=t) Un.refl I.hok
theorem Inv.kept{t':Nat}(I:Inv X pins σ H s)(k:∀b u,s.heap.get? b=some u->h'.get? b=some u):Inv X pins σ H {s with heap:=h',toks:=t'}:=I.un (Un.kept k) (I.hok.kept k)
theorem Inv.laid{a:Addr}{o:HO}{t':Nat}(I:Inv X pins σ H s)(k:∀b u,s.heap.get? b=some u->h'.get? b=some u)(z:s.heap.objs.size<=a)(q:lC X.prog X.w (upd H a o) h' a o):
  Inv X pins σ (upd H a o) {s with heap:=h',toks:=t'}:=I.un (Un.laid k z (I.hok.fresh z)) (I.hok.laid k z q)
theorem Inv.write{x e:Addr}{o:HO}{t':Nat}(I:Inv X pins σ H s)(mu:Mut (H x))(he:e=x\/H e=some (.own x))(k:∀b u,b≠e->s.heap.get? b=some u->h'.get? b=some u)(q:∃u,h'.get? e=some u)
  (z:lC X.prog X.w (upd H x o) h' x o):Inv X pins σ (upd H x o) {s with heap:=h',toks:=t'}:=I.un (Un.write mu he k q) (I.hok.write mu he k q z)
def Inv.pins_of{q:List (Addr×Obj)}(I:Inv X pins σ H s)(h:∀p∈q,s.heap.get? p.1=some p.2/\H p.1=none/\p.1≠X.env.locals/\p.1∉X.fs/\∀v,p.2.data≠.cell v):Inv X q σ H s:=
 ⟨I.ok,I.os,I.bare,I.base,I.loc,I.cell,I.free,I.freeC,λp hp=>(yg.mp hp).elim (λz=>I.pin p (zzn _ z)) (h p),I.hok,I.len⟩
def Sy{N:List Str}(hN:N.Nodup){i j:Nat}{x:Str}(a:N[i]? =some x)(b:N[j]? =some x):i=j:=by
 obtain⟨h1,z⟩:=zo.mp a;obtain⟨h2,q⟩:=zo.mp b;exact(yyA hN).mp (z.trans q.symm)
def Nx{M:Model}{A:Around}{E:Value->Shared->Prop}{i:Nat}{x:Str}{v:V}{u:Value}{Q:Unit->Shared->Prop}(I:Inv X pins σ H s)(hN:X.N.Nodup)(hi:X.N[i]? =some x)(hx:Loc X.env.scope x)(r:RelV v u)
  (h:∀s',Inv X pins (σ.set i (some v)) H s'->(∃a,Heap.SameBut a s.heap s'.heap/\(a=X.env.locals\/X.env.cells.lookup x=some a))->Q () s') (hf:X.fn x=true\/X.env.scope.names.lookup x=some .local:=by walk_at "p"):wpAny M A (storeName X.env x u) Q E s:=by
 obtain⟨m,hn,hl⟩:=id I.loc;have ae:(X.env.scope.kind==.class||(X.env.scope.kind==.module && X.env.locals !=X.env.globals))=false:=by rw[I.ok.kind];rfl
 have ai:i<σ.length:=by rw[I.len];exact(zo.mp hi).1
 have ad:=I.cne
 have aa:∀{a:Addr}{h':Heap},(∃o,s.heap.get? a=some o/\H a=none)->Heap.SameBut a s.heap h'->HOk X.prog X.w H h':=fun{a h'} ha hs b ob e=>by
  obtain⟨_,_,ab⟩:=ha;refine(I.hok b ob e).stay (λc w' hc q=>(hs.2 c ?_).trans q) (λ_ q=>q) λ_ _ q=>q;rintro rfl;rcases hc with rfl|hc
  ·rw[ab]at e;cases e
  ·rw[ab]at hc;cases hc
 rcases hx with hk|hk
 ·refine wpAny_storeName_local hk hn (λh' al hs=>?_) ae
  obtain⟨oL,_,_,ak,_⟩:=id hn;refine h _ ⟨I.ok,I.os,I.bare,⟨λb o e n hb hx=>?_,λb o e n hb hx=>?_,I.base.free,λb o e hx=>?_,I.base.tups,I.base.frzs,I.base.tbls⟩,⟨_,al,λj y v' e1 e2 e3=>?_⟩,λy c e=>?_,I.free,I.freeC,λp hp=>?_,aa ⟨oL,ak,I.free⟩ hs,by simpa using I.len⟩ ⟨_,hs,.inl rfl⟩
  ·exact(hs.2 b (ye (yi (zt e) I.ok.above))).trans (I.base.keep b o e n hb hx)
  ·obtain⟨sl,e1⟩:=I.base.slot b o e n hb hx
   exact⟨sl,(hs.2 b (ye (yi (zt e) I.ok.above))).trans e1⟩
  ·obtain⟨o',e1⟩:=I.base.there b o e hx
   exact⟨o',(hs.2 b (ye (yi (zt e) I.ok.above))).trans e1⟩
  ·by_cases hj:j=i
   ·subst hj
    rw[hi]at e1;cases e1;rw[zzY ai]at e2;cases e2;exact⟨u,r,.inl ⟨hk,by simp⟩⟩
   ·rw[yye (Ne.symm hj)]at e2
    obtain⟨u',r',q⟩:=hl j y v' e1 e2 e3;refine⟨u',r',?_⟩;rcases q with⟨k,e⟩|⟨k,c,e,z⟩
    ·refine .inl ⟨k,?_⟩
     have:y≠x:=λe=>hj (Sy hN e1 (e▸hi));simp[this,e]
    ·exact .inr ⟨k,c,e,z.sameBut hs (ad y c e)⟩
  ·obtain⟨w',z⟩:=I.cell y c e
   exact⟨w',z.sameBut hs (ad y c e)⟩
  ·obtain⟨e,n,ne,nf,d⟩:=I.pin p hp
   exact⟨(hs.2 p.1 ne).trans e,n,ne,nf,d⟩
 ·have ac:X.fn x=true:=by
   rcases hf with z|z
   ·exact z
   ·rw[z]at hk;cases hk
  obtain⟨c,hc⟩:=I.ok.has x (.inl hk);obtain⟨w',z⟩:=I.cell x c hc;refine wpAny_storeName_cell I.ok.kind hk hc z (λh' ah hs=>?_);obtain⟨oc,ag,af⟩:=id z;refine h {s with heap:=h'} ⟨I.ok,I.os,I.bare,⟨λb o e n hb hx=>?_,λb o e n hb hx=>?_,I.base.free,λb o e hx=>?_,I.base.tups,I.base.frzs,I.base.tbls⟩,⟨m,hn.sameBut hs (Ne.symm (ad x c hc)),λj y v' e1 e2 e3=>?_⟩,λy c' e=>?_,I.free,I.freeC,λp hp=>?_,aa ⟨oc,ag,I.freeC x c hc⟩ hs,by simpa using I.len⟩ ⟨c,hs,.inr hc⟩
  ·exact(hs.2 b (ye (yi (zt e) (I.ok.cab x c ac hc)))).trans (I.base.keep b o e n hb hx)
  ·obtain⟨sl,e1⟩:=I.base.slot b o e n hb hx
   exact⟨sl,(hs.2 b (ye (yi (zt e) (I.ok.cab x c ac hc)))).trans e1⟩
  ·obtain⟨o',e1⟩:=I.base.there b o e hx
   exact⟨o',(hs.2 b (ye (yi (zt e) (I.ok.cab x c ac hc)))).trans e1⟩
  ·by_cases hj:j=i
   ·subst hj
    rw[hi]at e1;cases e1;rw[zzY ai]at e2;cases e2;exact⟨u,r,.inr ⟨.inl hk,c,hc,ah⟩⟩
   ·rw[yye (Ne.symm hj)]at e2
    obtain⟨u',r',q⟩:=hl j y v' e1 e2 e3;refine⟨u',r',?_⟩;rcases q with q|⟨k,c',e,z'⟩
    ·exact .inl q
    ·refine .inr ⟨k,c',e,z'.sameBut hs ?_⟩
     rintro rfl;exact hj (Sy hN e1 (I.ok.inj _ _ _ e hc▸hi))
  ·by_cases aj:c'=c
   ·subst aj;exact⟨_,ah⟩
   ·obtain⟨w2,z2⟩:=I.cell y c' e
    exact⟨w2,z2.sameBut hs aj⟩
  ·obtain⟨e,n,ne,nf,d⟩:=I.pin p hp
   refine⟨(hs.2 p.1 ?_).trans e,n,ne,nf,d⟩;intro q;rw[q,ag]at e;have q':oc=p.2:=zw e;exact d w' (by rw[<-q'];exact af)
def RM{M:Model}{A:Around}{E:Value->Shared->Prop}{i:Nat}{x:Str}{v:V}{u:Value}{Q:Unit->Shared->Prop}(I:Inv X pins σ H s)(hN:X.N.Nodup)(hi:X.N[i]? =some x)(q:Loc X.env.scope x)(r:RelV v u)
  (h:∀s',Inv X pins (σ.set i (some v)) H s'->Q () s') (z:X.fn x=true\/X.env.scope.names.lookup x=some .local:=by walk_at "p"):wpAny M A (storeName X.env x u) Q E s:=
 Nx I hN hi q r (λs' I' _=>h s' I') z
def Inv.call'{s':Shared}{ch:List Addr}(I:Inv X pins σ H s)(ho:s'.os=s.os)(u:Un (frs X.stack) ch H H' s.heap s'.heap)(hok:HOk X.prog X.w H' s'.heap)(z:AllBare s'.gens)
  (q:∀b∈ch,(b∈X.ex\/X.s₀.heap.objs.size<=b)/\b≠X.env.locals/\(∀x c,X.env.cells.lookup x=some c->c≠b)/\∀p∈X.pn++pins,p.1≠b):Inv X pins σ H' s':=by
 obtain⟨h',g',d',t',o'⟩:=s';have e:o'=s.os:=ho;subst e;exact I.call (g':=g') (t':=t') (d':=d') u hok z q
end
abbrev XK:=Value->Option Addr->Hp->Prop
abbrev St:=List (Option V)
abbrev VK:=V->Hp->Prop
abbrev TE:=St->Hp->VK->Prop
abbrev TT:=St->Hp->(Bool->Hp->Prop)->Prop
abbrev TA:=St->Hp->(List V->Hp->Prop)->Prop
structure Ends where
 nx:St->Hp->Prop
 rt:VK
 bk:St->Hp->Prop:=λ_ _=>False
 ct:St->Hp->Prop:=λ_ _=>False
abbrev TS:=Ends->St->Hp->Prop
noncomputable def EP(X:Cx)(pins:List (Addr×Obj))(σ:St)(Q:VK)(u:Value)(s':Shared):Prop:=∃v H',Inv X pins σ H' s'/\RelV v u/\Q v H'
noncomputable def TP(X:Cx)(pins:List (Addr×Obj))(σ:St)(Q:Bool->Hp->Prop)(b:Bool)(s':Shared):Prop:=∃H',Inv X pins σ H' s'/\Q b H'
noncomputable def AP(X:Cx)(pins:List (Addr×Obj))(σ:St)(Q:List V->Hp->Prop)(us:List Value)(s':Shared):Prop:=∃vs H',Inv X pins σ H' s'/\Vals vs us/\Q vs H'
noncomputable def SP(X:Cx)(pins:List (Addr×Obj))(D:Ends)(f:Flow)(s':Shared):Prop:=
 match f with
 |.next=>∃σ' H',Inv X pins σ' H' s'/\D.nx σ' H'
 |.brk=>∃σ' H',Inv X pins σ' H' s'/\D.bk σ' H'
 |.cont=>∃σ' H',Inv X pins σ' H' s'/\D.ct σ' H'
 |.ret u=>∃v σ' H',Inv X pins σ' H' s'/\RelV v u/\D.rt v H'
noncomputable def PE(X:Cx)(e:Expr)(t:TE):Prop:=
 ∀(pins:List (Addr×Obj))(s:Shared)(σ:St)(H:Hp)(Q:VK),Inv X pins σ H s->t σ H Q->wpAny (model X.prog X.w) X.A (eval e X.env) (EP X pins σ Q) X.xe s
noncomputable def PT(X:Cx)(e:Expr)(t:TT):Prop:=
 ∀(pins:List (Addr×Obj))(s:Shared)(σ:St)(H:Hp)(Q:Bool->Hp->Prop),Inv X pins σ H s->t σ H Q->wpAny (model X.prog X.w) X.A (isTrue e X.env (eval e X.env)) (TP X pins σ Q) X.xe s
noncomputable def PW(X:Cx)(e:Expr)(t:TT):Prop:=
 ∀(whole:Sem Value)(pins:List (Addr×Obj))(s:Shared)(σ:St)(H:Hp)(Q:Bool->Hp->Prop),Inv X pins σ H s->t σ H Q->wpAny (model X.prog X.w) X.A (isTrue e X.env whole) (TP X pins σ Q) X.xe s
def PW.pt{X:Cx}{e:Expr}{t:TT}(h:PW X e t):PT X e t:=h _
noncomputable def PA(X:Cx)(es:List Expr)(t:TA):Prop:=
 ∀(pos:Pos)(pins:List (Addr×Obj))(s:Shared)(σ:St)(H:Hp)(Q:List V->Hp->Prop),Inv X pins σ H s->t σ H Q->wpAny (model X.prog X.w) X.A (spliced (backTo pos (starEach es X.env))) (AP X pins σ Q) X.xe s
noncomputable def PS(X:Cx)(st:Stmt)(t:TS):Prop:=
 ∀(pins:List (Addr×Obj))(s:Shared)(σ:St)(H:Hp)(D:Ends),Inv X pins σ H s->t D σ H->wpAny (model X.prog X.w) X.A (exec st X.env) (SP X pins D) X.xe s
noncomputable def PSs(X:Cx)(st:List Stmt)(t:TS):Prop:=
 ∀(pins:List (Addr×Obj))(s:Shared)(σ:St)(H:Hp)(D:Ends),Inv X pins σ H s->t D σ H->wpAny (model X.prog X.w) X.A (execs st X.env) (SP X pins D) X.xe s
def thn{α:Type}{t:Sem α}{Q Q':α->Shared->Prop}{M:Model}{A:Around}{E:Value->Shared->Prop}{s:Shared}(h:wpAny M A t Q E s)(q:∀a s,Q a s->Q' a s):wpAny M A t Q' E s:=yP h q λ_ _ x=>x
end L2
namespace L2
open PySem PySem.Spec PyProof.Rows
section
variable{X:Cx}
noncomputable def Mr(i:Nat):TE:=λσ H Q=>∃v,σ[i]? =some (some v)/\Q v H
noncomputable def tC(v:V):TE:=λ_ H Q=>Q v H
def aiY{i:Nat}{x:Str}{pos:Pos}(hN:X.N[i]? =some x)(hv:Vis X.env.scope x)(hd:(x==("__debug__" :Str))=false:=by decide) (hcd:(x==("__classdict__" :Str))=false:=by decide):PE X (.Name x pos) (Mr i):=by
 intro pins s σ H Q I h;obtain⟨v,e,h⟩:=h;obtain⟨m,hn,hl⟩:=I.loc;obtain⟨u,r,l⟩:=hl i x v hN e hv;have z:EP X pins σ Q u s:=⟨v,H,I,r,h⟩;rcases l with⟨hk,hm⟩|⟨hk,c,hc,q⟩
 ·exact wpAny_Name (wpAny_loadName_local I.ok.kind hk hn hm z) hd
 ·rcases hk with hk|hk
  ·exact wpAny_Name (wpAny_loadName_cell I.ok.kind hk hc q z) hd
  ·exact wpAny_Name (wpAny_loadName_free I.ok.kind hk hc q z hcd) hd
def iB{i j pos}:PE X (.Constant (.int i) j pos) (tC (.int i)):=λ_ _ _ H _ I h=>wpAny_Constant_int ⟨.int i,H,I.tok _,⟨_,rfl⟩,h⟩
def Lw{b j pos}:PE X (.Constant (.bool b) j pos) (tC (.bl b)):=λ_ _ _ H _ I h=>Constant_bool ⟨.bl b,H,I,rfl,h⟩
def mJ{j pos}:PE X (.Constant .none j pos) (tC .non):=λ_ _ _ H _ I h=>Constant_none ⟨.non,H,I,rfl,h⟩
def ji{x j pos}:PE X (.Constant (.str x) j pos) (tC (.str x)):=λ_ _ _ H _ I h=>Calls.Constant_str ⟨.str x,H,I.tok _,⟨_,rfl⟩,h⟩
noncomputable def Gl(X:Cx)(x:Str):Prop:=X.env.kindOf x=some .globalImplicit
def FW{E:Value->Shared->Prop}{pins:List (Addr×Obj)}{s:Shared}{σ:St}{H:Hp}{x:Str}{u:Value}{pos:Pos}{Q:Value->Shared->Prop}(I:Inv X pins σ H s)(q:Gl X x)(hm:X.mg x=some u)(h:Q u s)
  (hd:(x==("__debug__" :Str))=false:=by decide):wpAny (model X.prog X.w) X.A (eval (.Name x pos) X.env) Q E s:=
 Calls.Name_function_global I.ok.kind q (Calls.loadGlobal_global (by rw[I.ok.glob];exact I.mod.glob.keeps I.bk) hm h) hd
def xH{E:Value->Shared->Prop}{pins:List (Addr×Obj)}{s:Shared}{σ:St}{H:Hp}{x:Str}{u:Value}{pos:Pos}{Q:Value->Shared->Prop}(I:Inv X pins σ H s)(q:Gl X x)(hm:X.mg x=none)(z:bootBuiltins x=some u)(h:Q u s)
  (hn:x≠ "__name__" :=by decide) (hd:(x==("__debug__" :Str))=false:=by decide):wpAny (model X.prog X.w) X.A (eval (.Name x pos) X.env) Q E s:=by
 obtain⟨mb,h1,h2⟩:=I.mod.blt;exact Calls.Name_function_global I.ok.kind q (Calls.loadGlobal_builtin (by rw[I.ok.glob];exact I.mod.glob.keeps I.bk) hm (by rw[I.ok.blt];exact h1.keeps I.bk) ((h2 x hn).trans z) h) hd
def lK{x:Str}{v:V}{u:Value}{pos:Pos}(q:Gl X x)(hm:X.mg x=some u)(r:RelV v u)(hd:(x==("__debug__" :Str))=false:=by decide):PE X (.Name x pos) (tC v):=
 λ_ _ _ H _ I h=>FW I q hm ⟨v,H,I,r,h⟩ hd
def ahD{x:Str}{v:V}{u:Value}{pos:Pos}(q:Gl X x)(hm:X.mg x=none)(z:bootBuiltins x=some u)(r:RelV v u)(hn:x≠ "__name__" :=by decide) (hd:(x==("__debug__" :Str))=false:=by decide):PE X (.Name x pos) (tC v):=
 λ_ _ _ H _ I h=>xH I q hm z ⟨v,H,I,r,h⟩ hn hd
variable{a b:Expr}{ta tb:TE}{pos:Pos}
noncomputable def tB(t:TE):TT:=λσ H Q=>t σ H λx H1=>∃c,x=.bl c/\Q c H1
def oF{e:Expr}{t:TE}(h:PE X e t)(he:∀z,isTrue e X.env z=(do let v<-z;standAt e.pos;holding [v] (truthy v)):=by intro _;rfl):PT X e (tB t):=by
 intro pins s σ H Q I hw;refine isTrue_plain (thn (h pins s σ H _ I hw) λv s1 ⟨x,H1,I1,r1,q1⟩=>?_) (he _);obtain⟨d,rfl,q⟩:=q1;cases r1;exact y6 ⟨H1,I1,q⟩
variable{tA tB':TT}{rest:List Expr}
noncomputable def aks(t u:TT):TT:=λσ H Q=>t σ H λc H1=>if c=true then u σ H1 Q else Q false H1
noncomputable def tOr(t u:TT):TT:=λσ H Q=>t σ H λc H1=>if c=true then Q true H1 else u σ H1 Q
noncomputable def aku(t:TT):TT:=λσ H Q=>t σ H λc H1=>Q (!c) H1
def Gv(ha:PT X a tA):PW X (.BoolOp .And [a] pos) tA:=by
 intro z pins s σ H Q I h;refine isTrue_and (thn (ha pins s σ H Q I h) λc q e=>?_)
 cases c with
 |true=>exact isTrue_and_nil e
 |false=>exact e
def Bk(ha:PT X a tA):PW X (.BoolOp .Or [a] pos) tA:=by
 intro z pins s σ H Q I h;refine isTrue_or (thn (ha pins s σ H Q I h) λc q e=>?_)
 cases c with
 |false=>exact isTrue_or_nil e
 |true=>exact e
def NP(ha:PT X a tA)(hb:PW X (.BoolOp .And (b::rest) pos) tB'):PW X (.BoolOp .And (a::b::rest) pos) (aks tA tB'):=by
 intro wh pins s σ H Q I h;refine isTrue_and (thn (ha pins s σ H _ I h) λc s1 ⟨H1,q,z⟩=>?_)
 cases c with
 |true=>exact hb wh pins s1 σ H1 Q q z
 |false=>exact⟨H1,q,z⟩
def Fj(ha:PT X a tA)(hb:PW X (.BoolOp .Or (b::rest) pos) tB'):PW X (.BoolOp .Or (a::b::rest) pos) (tOr tA tB'):=by
 intro wh pins s σ H Q I h;refine isTrue_or (thn (ha pins s σ H _ I h) λc s1 ⟨H1,q,z⟩=>?_)
 cases c with
 |true=>exact⟨H1,q,z⟩
 |false=>exact hb wh pins s1 σ H1 Q q z
def Kc(ha:PT X a tA):PT X (.UnaryOp .Not a pos) (aku tA):=by
 intro pins s σ H Q I h;exact isTrue_not (ha pins s σ H (λc H1=>Q (!c) H1) I h)
noncomputable def ajb(ta tb:TE):TE:=λσ H Q=>ta σ H λx H1=>∃c,x=.bl c/\if c=true then tb σ H1 Q else Q (.bl false) H1
noncomputable def aiK(ta:TE):TE:=λσ H Q=>ta σ H λx H1=>∃c,x=.bl c/\Q (.bl (!c)) H1
def Rn{op}{t:TE}(h:PE X a t):PE X (.BoolOp op [a] pos) t:=λpins s σ H Q I q=>BoolOp_one (h pins s σ H Q I q)
def Ka(ha:PE X a ta)(hb:PE X (.BoolOp .And (b::rest) pos) tb):PE X (.BoolOp .And (a::b::rest) pos) (ajb ta tb):=by
 intro pins s σ H Q I h;refine BoolOp_and (thn (ha pins s σ H _ I h) λv s1 ⟨x,H1,z,r1,q⟩=>?_);obtain⟨c,rfl,q⟩:=q;cases r1;refine y6 ?_
 cases c with
 |true=>exact hb pins s1 σ H1 Q z q
 |false=>exact⟨.bl false,H1,z,rfl,q⟩
def aja(ha:PE X a ta):PE X (.UnaryOp .Not a pos) (aiK ta):=by
 intro pins s σ H Q I h;refine UnaryOp_ (thn (ha pins s σ H _ I h) λv s1 ⟨x,H1,I1,z,q⟩=>?_);obtain⟨c,rfl,q⟩:=q;cases z;exact not_of (y6 ⟨.bl (!c),H1,I1,rfl,q⟩)
noncomputable def tIf(t:TT)(ta tb:TE):TE:=λσ H Q=>t σ H λc H1=>if c=true then ta σ H1 Q else tb σ H1 Q
def Ci{c:Expr}(hc:PT X c tA)(ha:PE X a ta)(hb:PE X b tb):PE X (.IfExp c a b pos) (tIf tA ta tb):=by
 intro pins s σ H Q I h;refine wpAny_IfExp (thn (hc pins s σ H _ I h) λd z ⟨H1,q,q1⟩=>?_)
 cases d with
 |true=>exact ha pins z σ H1 Q q q1
 |false=>exact hb pins z σ H1 Q q q1
end
end L2
namespace L2
open PySem PySem.Spec PyProof.Rows
noncomputable def SqL(K:Fg_)(H:Hp)(a:Addr)(xs:List V):Prop:=
 Rd H a (.lst xs)\/
  ∃(o:Obj)(its:Array Value)(n:Nat),K.lookup a=some o/\o.cls=.type "list" /\o.dict=none/\o.data=.seq its n/\its.size<=sizeLine/\Vals xs its.toList
noncomputable def SqT(K:Fg_)(H:Hp)(a:Addr)(xs:List V):Prop:=
 Rd H a (.tup xs)\/
  ∃(o:Obj)(its:Array Value)(n:Nat),K.lookup a=some o/\o.cls=.type "tuple" /\o.data=.seq its n/\its.size<=sizeLine/\Vals xs its.toList
noncomputable def akG:Value->Option V
 |.none=>some .non
 |.bool b=>some (.bl b)
 |.int i _=>some (.int i)
 |.str x _=>some (.str x)
 |.bytes b _=>some (.byt b)
 |.float b _=>some (.flt b)
 |.ref a=>some (.ref a)
 |.type n=>some (.ty n)
 |_=>none
def RelV.abs{x:V}{u:Value}(r:RelV x u):akG u=some x:=by
 cases x with
 |non=>cases r;rfl
 |bl _=>cases r;rfl
 |int _=>obtain⟨t,rfl⟩:=r;rfl
 |str _=>obtain⟨t,rfl⟩:=r;rfl
 |byt _=>obtain⟨t,rfl⟩:=r;rfl
 |flt _=>obtain⟨t,rfl⟩:=r;rfl
 |ref _=>cases r;rfl
 |ty _=>cases r;rfl
def RelV.inj{x y:V}{u:Value}(r:RelV x u)(q:RelV y u):x=y:=zw (r.abs.symm.trans q.abs)
theorem Vals.inj:∀{xs ys:List V}{us:List Value},Vals xs us->Vals ys us->xs=ys
 |_,_,_,.nil,.nil=>rfl
 |_,_,_,.cons r t,.cons r' t'=>by rw[r.inj r',Vals.inj t t']
section
variable{X:Cx}{pins:List (Addr×Obj)}{σ:St}{H:Hp}{s:Shared}{a:Addr}{xs ys:List V}
def iH{K:Fg_}(h:H a=some (.lst xs)):SqL K H a xs:=.inl (.inl h)
def jt{K:Fg_}(h:H a=some (.tup xs)):SqT K H a xs:=.inl (.inl h)
def Inv.list(I:Inv X pins σ H s)(h:SqL X.K H a xs):∃its:List Value,Vals xs its/\PlainL s.heap a its.toArray/\xs.length<=sizeLine:=by
 rcases h with h|⟨o,its,n,hk,hc,hd,q,hz,r⟩
 ·obtain⟨z,its,n,r,e⟩:=h.ok I.hok
  exact⟨its,r,⟨_,n,e,rfl,rfl,rfl⟩,z⟩
 ·refine⟨its.toList,r,⟨o,n,I.kIn a o hk,hc,hd,by simpa using q⟩,?_⟩
  have e:=r.length;simp only[yN]at e;omega
def Inv.tuple(I:Inv X pins σ H s)(h:SqT X.K H a xs):∃its:List Value,Vals xs its/\IsTup s.heap a its.toArray/\xs.length<=sizeLine:=by
 rcases h with h|⟨o,its,n,hk,hc,q,hz,r⟩
 ·obtain⟨z,its,r,p⟩:=h.ok I.hok
  exact⟨its,r,p,z⟩
 ·refine⟨its.toList,r,⟨o,I.kIn a o hk,hc,n,by simpa using q⟩,?_⟩
  have e:=r.length;simp only[yN]at e;omega
def Inv.list_inj(I:Inv X pins σ H s)(h:SqL X.K H a xs)(h':SqL X.K H a ys):xs=ys:=by
 obtain⟨its,r,⟨o,n,e,_,_,d⟩,_⟩:=I.list h;obtain⟨its',z,⟨o',n',q,_,_,d'⟩,_⟩:=I.list h';rw[e]at q;cases q;rw[d]at d';injection d' with d1 _
 have:its=its':=by simpa using congrArg Array.toList d1
 subst this;exact r.inj z
def Inv.tuple_inj(I:Inv X pins σ H s)(h:SqT X.K H a xs)(h':SqT X.K H a ys):xs=ys:=by
 obtain⟨its,r,⟨o,e,_,n,d⟩,_⟩:=I.tuple h;obtain⟨its',z,⟨o',q,_,n',d'⟩,_⟩:=I.tuple h';rw[e]at q;cases q;rw[d]at d';injection d' with d1 _
 have:its=its':=by simpa using congrArg Array.toList d1
 subst this;exact r.inj z
end
abbrev Cx.wish(X:Cx)(E:Value->Shared->Prop):Cx:={X with xe:=E}
abbrev Cx.nox(X:Cx):Cx:=X.wish λ_ _=>False
theorem Cx.Ok.wish{X:Cx}(ok:X.Ok)(E:Value->Shared->Prop):(X.wish E).Ok:=
 ⟨ok.mod,ok.kind,ok.glob,ok.blt,ok.above,ok.inj,ok.has,ok.cab,ok.hd,ok.frames,ok.stk,ok.exf,ok.bs,ok.bsz,ok.noex,ok.exfs,ok.funs,ok.frf⟩
def Cx.Ok.unwish{X:Cx}{E:Value->Shared->Prop}(ok:(X.wish E).Ok):X.Ok:=
 ⟨ok.mod,ok.kind,ok.glob,ok.blt,ok.above,ok.inj,ok.has,ok.cab,ok.hd,ok.frames,ok.stk,ok.exf,ok.bs,ok.bsz,ok.noex,ok.exfs,ok.funs,ok.frf⟩
section
variable{X:Cx}{pins:List (Addr×Obj)}{σ:St}{H:Hp}{s:Shared}{E:Value->Shared->Prop}
theorem Inv.wish(I:Inv X pins σ H s)(E:Value->Shared->Prop):Inv (X.wish E) pins σ H s:=⟨I.ok.wish E,I.os,I.bare,I.base,I.loc,I.cell,I.free,I.freeC,I.pin,I.hok,I.len⟩
theorem Inv.unwish(I:Inv (X.wish E) pins σ H s):Inv X pins σ H s:=⟨I.ok.unwish,I.os,I.bare,I.base,I.loc,I.cell,I.free,I.freeC,I.pin,I.hok,I.len⟩
theorem SP.unwish{D:Ends}{f:Flow}{s':Shared}(h:SP (X.wish E) pins D f s'):SP X pins D f s':=by
 cases f with
 |next=>obtain⟨z,H',I,q⟩:=h;exact⟨z,H',I.unwish,q⟩
 |brk=>obtain⟨z,H',I,q⟩:=h;exact⟨z,H',I.unwish,q⟩
 |cont=>obtain⟨z,H',I,q⟩:=h;exact⟨z,H',I.unwish,q⟩
 |ret u=>obtain⟨v,z,H',I,r,q⟩:=h;exact⟨v,z,H',I.unwish,r,q⟩
theorem PSs.nox{st:List Stmt}{t:TS}(h:PSs X.nox st t):PSs X st t:=λpins s σ H D I hw=>
 yP (h pins s σ H D (I.wish _) hw) (λ_ _ q=>q.unwish) λ_ _ z=>False.elim z
end
section
variable{X:Cx}{st:Stmt}{rest:List Stmt}{t u:TS}{e:Expr}{te:TE}{pos:Pos}
noncomputable def Om:TS:=λD σ H=>D.nx σ H
noncomputable def Xb(t u:TS):TS:=λD σ H=>t {D with nx:=u D} σ H
def jd:PSs X [] Om:=λ_ _ σ H _ I h=>yyg ⟨σ,H,I,h⟩
def iu(h1:PS X st t)(h2:PSs X rest u):PSs X (st::rest) (Xb t u):=by
 intro pins s σ H D I h;refine wpAny_execs_cons (thn (h1 pins s σ H {D with nx:=u D} I h) λf s1 q=>?_)
 cases f with
 |next=>
  obtain⟨z,H',I',q⟩:=q;exact h2 pins s1 z H' D I' q
 |ret v=>exact q
 |brk=>exact q
 |cont=>exact q
def iz(h1:PS X st t):PSs X [st] t:=by
 intro pins s σ H D I h;refine wpAny_execs_cons (thn (h1 pins s σ H D I h) λf z q=>?_)
 cases f with
 |next=>exact yyg q
 |ret v=>exact q
 |brk=>exact q
 |cont=>exact q
noncomputable def agh:TS:=λD σ H=>D.bk σ H
def Zb:PS X (.Break pos) agh:=λ_ _ σ H _ I h=>wpAny_Break ⟨σ,H,I,h⟩
def Inv.quiet{pins:List (Addr×Obj)}{σ:St}{H:Hp}{s:Shared}(I:Inv X pins σ H s):interactive X.env=false:=by simp[interactive,I.ok.kind]
noncomputable def aiC(te:TE):TS:=λD σ H=>te σ H λ_ H1=>D.nx σ H1
def jf(q:PE X e te)(hs:swapsWith e none pos.line X.env=pure false:=by rfl):PS X (.Expr e pos) (aiC te):=by
 intro pins s σ H D I h;exact wpAny_Expr_any (thn (q pins s σ H _ I h) λv s1 ⟨x,H1,z,r1,q1⟩=>⟨σ,H1,z,q1⟩) I.quiet hs
noncomputable def akz(te:TE):TS:=λD σ H=>te σ H D.rt
def iM(z:PE X e te):PS X (.Return (some e) pos) (akz te):=by
 intro pins s σ H D I h;exact wpAny_Return_some (thn (z pins s σ H _ I h) λv s1 ⟨x,H1,I1,q,q1⟩=>⟨x,σ,H1,I1,q,q1⟩)
noncomputable def aie:TS:=λD _ H=>D.rt .non H
def agL:PS X (.Return none pos) aie:=λ_ _ σ H _ I h=>wpAny_Return_none ⟨.non,σ,H,I,rfl,h⟩
noncomputable def Ve(c:TT)(t u:TS):TS:=λD σ H=>c σ H λb H1=>if b=true then t D σ H1 else u D σ H1
def jK{c:Expr}{a b:List Stmt}{tc:TT}(hc:PT X c tc)(ha:PSs X a t)(hb:PSs X b u):PS X (.If c a b pos) (Ve tc t u):=by
 intro pins s σ H D I h;refine wpAny_If (thn (hc pins s σ H _ I h) λd z ⟨H1,q,q1⟩=>?_)
 cases d with
 |true=>exact ha pins z σ H1 D q q1
 |false=>exact hb pins z σ H1 D q q1
noncomputable def aio:TS:=λ_ _ _=>False
def kY:PS X st aio:=λ_ _ _ _ _ _ h=>h.elim
end
abbrev TG:=V->St->Hp->(St->Hp->Prop)->Prop
abbrev TGs:=List V->St->Hp->(St->Hp->Prop)->Prop
noncomputable def PG(X:Cx)(target:Expr)(t:TG):Prop:=
 ∀(pins:List (Addr×Obj)) (s:Shared) (σ:St) (H:Hp) (v:V) (u:Value) (Q:St->Hp->Prop),Inv X pins σ H s->RelV v u->t v σ H Q->
  wpAny (model X.prog X.w) X.A (assign target X.env u) (λ_ s'=>∃σ' H',Inv X pins σ' H' s'/\Q σ' H') X.xe s
noncomputable def PGs(X:Cx)(ts:List Expr)(t:TGs):Prop:=
 ∀(pins:List (Addr×Obj)) (s:Shared) (σ:St) (H:Hp) (vs:List V) (us:List Value) (Q:St->Hp->Prop),Inv X pins σ H s->Vals vs us->t vs σ H Q->
  wpAny (model X.prog X.w) X.A (assignInOrder ((assignEach ts X.env).map (·.2)) us) (λ_ s'=>∃σ' H',Inv X pins σ' H' s'/\Q σ' H') X.xe s
abbrev ajX:=V->V->V->Hp->(Hp->Prop)->Prop
noncomputable def akC(X:Cx)(t:ajX):Prop:=
 ∀(pins:List (Addr×Obj)) (s:Shared) (σ:St) (H:Hp) (o i v:V) (ov iv u:Value) (Q:Hp->Prop),Inv X pins σ H s->RelV o ov->RelV i iv->RelV v u->t o i v H Q->
  wpAny (model X.prog X.w) X.A (setItem ov iv u) (λ_ s'=>∃H',Inv X pins σ H' s'/\Q H') X.xe s
section
variable{X:Cx}{pos:Pos}
noncomputable def Uu(i:Nat):TG:=λv σ H Q=>Q (σ.set i (some v)) H
def iK{i:Nat}{x:Str}(hN:X.N.Nodup)(hi:X.N[i]? =some x)(q:Loc X.env.scope x)(z:X.fn x=true\/X.env.scope.names.lookup x=some .local:=by walk_at "p"):PG X (.Name x pos) (Uu i):=by
 intro pins s σ H v u Q I r h;exact wpAny_assign_Name (RM I hN hi q r (λs' I'=>⟨_,H,I',h⟩) z)
noncomputable def akr:TGs:=λvs σ H Q=>vs=[]/\Q σ H
noncomputable def ajn(t:TG)(u:TGs):TGs:=λvs σ H Q=>∃v r,vs=v::r/\t v σ H λσ' H'=>u r σ' H' Q
def nA:PGs X [] akr:=by
 intro pins s σ H vs us Q I r h;obtain⟨e,h⟩:=h;subst e;cases r;exact assignInOrder_nil ⟨σ,H,I,h⟩
def jl{e:Expr}{es:List Expr}{t:TG}{u:TGs}(h1:PG X e t)(h2:PGs X es u)
  (hs:(assignEach (e::es) X.env).map (·.2)=assign e X.env::(assignEach es X.env).map (·.2):=by rfl):PGs X (e::es) (ajn t u):=by
 intro pins s σ H vs us Q I r h;obtain⟨v,vr,q,h⟩:=h;subst q
 cases r with
 |cons r rr=>
  rw[hs];refine assignInOrder_cons (thn (h1 pins s σ H _ _ _ I r h) λ_ s1 ⟨σ1,H1,z,q1⟩=>?_);exact h2 pins s1 σ1 H1 _ _ Q z rr q1
noncomputable def akb(K:Fg_)(n:Nat)(t:TGs):TG:=λv σ H Q=>∃a xs,v=.ref a/\SqT K H a xs/\xs.length=n/\t xs σ H Q
def aiw{es:List Expr}{k:Nat}{t:TGs}{n:Nat}(hc:X.calm=true)(h:PGs X es t)
  (hn:(assignEach es X.env).length=n:=by rfl) (hst:(assignEach es X.env).findIdx? (·.1)=none:=by rfl):PG X (.Tuple es k pos) (akb X.K n t):=by
 intro pins s σ H v u Q I r q;obtain⟨a,xs,e1,hq,hl,q⟩:=q;subst e1;cases r;obtain⟨its,z,ht,hz⟩:=I.tuple hq;refine assign_Tuple_tuple (I.ok.hd hc) ht (by simp[hn,<-hl,z.length]) hst λh' hx=>?_;have I1:Inv X pins σ H {s with heap:=h'}:=I.kept (t':=s.toks) λb o e=>hx b o (ye (zt e)) e;exact h pins _ σ H xs _ Q I1 (by simpa using z) q
noncomputable def akm(to ti:TE)(t:ajX):TG:=λv σ H Q=>to σ H λo H1=>ti σ H1 λi H2=>t o i v H2 λH3=>Q σ H3
def aiL{o i:Expr}{to ti:TE}{t:ajX}(ho:PE X o to)(hi:PE X i ti)(hs:akC X t)
  (ha:∀v,assign (.Subscript o i pos) X.env v=(do
   let q<-holding [v] (eval o X.env)
   let z<-holding [v,q] (eval i X.env)
   standAt pos
   holding [v,q,z] (setItem q z v)
   release [v,q,z] []):=by intro _;rfl):PG X (.Subscript o i pos) (akm to ti t):=by
 intro pins s σ H v u Q I r h;rw[ha];refine zd (yW (thn (ho pins s σ H _ I h) λq s1 ⟨x,H1,I1,r1,q1⟩=>?_));refine zd (yW (thn (hi pins s1 σ H1 _ I1 q1) λz s2 ⟨y,H2,I2,r2,q2⟩=>?_));refine zd (yyz (zd (yW (thn (hs pins s2 σ H2 x y v q z u _ I2 r1 r2 r q2) λ_ s3 ⟨H3,I3,q3⟩=>?_))));exact wpAny_release ⟨σ,H3,I3,q3⟩
noncomputable def ajC(te:TE)(g:TG):TS:=λD σ H=>te σ H λx H1=>g x σ H1 D.nx
def Wc{tg e:Expr}{te:TE}{g:TG}(he:PE X e te)(hg:PG X tg g)(hs:swapsWithSole [tg] e pos.line X.env=pure false:=by rfl)(hw:swappedStores [tg] e X.env=pure none:=by rfl)
  (h1:(assignEach [tg] X.env).map (·.2)=[assign tg X.env]:=by rfl):PS X (.Assign [tg] e pos) (ajC te g):=by
 intro pins s σ H D I h;refine wpAny_Assign_stores (thn (he pins s σ H _ I h) λv s1 ⟨x,H1,I1,z,q1⟩=>?_) hs hw;rw[h1];exact thn (hg pins s1 σ H1 x v _ I1 z q1) λ_ s2 q=>q
def iT{i:Nat}{x:Str}{e:Expr}{te:TE}{pos':Pos}(hN:X.N.Nodup)(hi:X.N[i]? =some x)(z:Loc X.env.scope x)(he:PE X e te)(hs:swapsWith e (some (.Name x pos')) pos.line X.env=pure false:=by rfl)(hf:X.fn x=true\/X.env.scope.names.lookup x=some .local:=by walk_at "p"):
  PS X (.Assign [.Name x pos'] e pos) (ajC te (Uu i)):=by
 intro pins s σ H D I h;refine wpAny_Assign_Name (thn (he pins s σ H _ I h) λv s1 ⟨y,H1,I1,q,q1⟩=>?_) hs;exact RM I1 hN hi z q (λs2 I2=>⟨_,H1,I2,q1⟩) hf
end
structure It where
 go:Nat->Hp->Prop
 yld:Nat->Hp->V->Hp->Prop
 stop:Nat->Hp->Prop
noncomputable def QC(X:Cx)(pins:List (Addr×Obj))(H:Hp)(b:Addr):Prop:=
 H b=none/\b≠X.env.locals/\b∉X.fs/\(b∈X.ex\/X.s₀.heap.objs.size<=b)/\(∀x c,X.env.cells.lookup x=some c->c≠b)/\∀p∈X.pn++pins,p.1≠b
def Inv.fpOk{X:Cx}{pins:List (Addr×Obj)}{σ:St}{H H':Hp}{s:Shared}{b:Addr}(I:Inv X pins σ H s)(hb:s.heap.objs.size<=b)(hn:H' b=none):QC X pins H' b:=by
 refine⟨hn,zzg (yi I.lt hb),I.nofs hb,.inr (yw I.sz hb),λx c e z=>?_,λp hp z=>?_⟩
 ·obtain⟨v,q⟩:=I.cell x c e
  exact absurd (yi q.lt (by rw[z];exact hb)) (yM _)
 ·exact absurd (yi (zt (I.pin p hp).1) (by rw[z];exact hb)) (yM _)
structure Turn(P:Program)(w:World)(K:Fg_)(tg:Expr)(J:It)(fp:List Addr)(it:Addr)(tn:Nat->Heap->Prop):Prop where
 mem:it∈fp
 obj:∀i h,tn i h->∀b∈fp,∃o,h.get? b=some o/\∀v,o.data≠.cell v
 keep:∀i h h',tn i h->(∀b∈fp,∀o,h.get? b=some o->h'.get? b=some o)->tn i h'
 item:∀(X:Cx),X.prog=P->X.w=w->X.K=K->X.calm=true->∀(i:Nat)(pins:List (Addr×Obj))(s:Shared)(σ:St)(H:Hp)(E:Value->Shared->Prop),Inv X pins σ H s->(∀b∈fp,QC X pins H b)->tn i s.heap->J.go i H->
  wpAny (model P w) X.A (pyNext (.ref it)) (λr s1=>∃u,r=some u/\
   wpAny (model P w) X.A (letOwnedTupleGo tg (.ref it) u) (λ_ s2=>∃x H',Inv X pins σ H' s2/\RelV x u/\J.yld i H x H'/\tn (i+1) s2.heap/\∀b∈fp,H' b=none) E s1) E s
 done:∀(X:Cx),X.prog=P->X.w=w->X.K=K->X.calm=true->∀(i:Nat)(pins:List (Addr×Obj))(s:Shared)(σ:St)(H:Hp)(E:Value->Shared->Prop),Inv X pins σ H s->(∀b∈fp,QC X pins H b)->tn i s.heap->J.stop i H->
  wpAny (model P w) X.A (pyNext (.ref it)) (λr s1=>r=none/\Inv X pins σ H s1) E s
 self:∀(A:Around)(i:Nat)(s:Shared)(Q:Value->Shared->Prop)(E:Value->Shared->Prop),tn i s.heap->Q (.ref it) s->wpAny (model P w) A (pyIter (.ref it)) Q E s
abbrev TI:=St->Hp->(It->Hp->Prop)->Prop
noncomputable def PIE(X:Cx)(pins:List (Addr×Obj))(σ:St)(tg:Expr)(R:It->Hp->Prop)(itv:Value)(s2:Shared):Prop:=
 ∃(it:Addr)(fp:List Addr)(tn:Nat->Heap->Prop)(J:It)(H':Hp),itv=.ref it/\Inv X pins σ H' s2/\Turn X.prog X.w X.K tg J fp it tn/\tn 0 s2.heap/\(∀b∈fp,QC X pins H' b)/\R J H'
noncomputable def PI(X:Cx)(tg iter:Expr)(wi:TI):Prop:=
 ∀(pins:List (Addr×Obj)) (s:Shared) (σ:St) (H:Hp) (R:It->Hp->Prop),Inv X pins σ H s->wi σ H R->
  wpAny (model X.prog X.w) X.A (eval iter X.env) (λv s1=>wpAny (model X.prog X.w) X.A (pyIter v) (PIE X pins σ tg R) X.xe s1) X.xe s
def Uk{M:Model}{A:Around}{E:Value->Shared->Prop}{s:Shared}{tg:Expr}{it:Addr}{u:Value}{o:Obj}{n:String}{vs:Array Value}{Q:Unit->Shared->Prop}(z:s.heap.get? it=some o)(hc:o.cls=.type n)(hd:o.data=.fields vs)
  (hn:["enumerate", "zip", "dict_itemiterator", "dict_reverseitemiterator", "odict_iterator", "itertools.zip_longest", "itertools.pairwise"].contains n=false) (q:Q () s):wpAny M A (letOwnedTupleGo tg (.ref it) u) Q E s:=by
 unfold letOwnedTupleGo
 cases tg<;>first
  |exact yc q
  | (cases u<;>first
    |exact yc q
    | (refine zd (wpAny_load z ?_)
       rw[hc,hd];show wpAny M A (if(["enumerate", "zip", "dict_itemiterator", "dict_reverseitemiterator", "odict_iterator", "itertools.zip_longest", "itertools.pairwise"].contains n && vs[0]? ==some (rawInt _))=true then _ else _) Q E s;rw[ze (by intro h;rw[hn,yym]at h;cases h)];exact yc q))
noncomputable def Itl(K:Fg_)(a:Addr):It:=
 ⟨λi H=>∃xs x,SqL K H a xs/\xs[i]? =some x,λi H x H'=>H'=H/\∀xs,SqL K H a xs->xs[i]? =some x,λi H=>∃xs,SqL K H a xs/\xs.length<=i⟩
noncomputable def Itr(lo:Int)(n:Nat):It:=⟨λi _=>i<n,λi H x H'=>H'=H/\x=.int (lo+i),λi _=>n<=i⟩
def WY{P:Program}{w:World}{K:Fg_}{tg:Expr}(a it:Addr):Turn P w K tg (Itl K a) [it] it (λi h=>h.IsListIter it a i) where
 mem:=by simp
 obj:=λi h st b q=>by
  have e:b=it:=by simpa using q
  subst e;obtain⟨o,e,c,d⟩:=st;exact⟨o,e,λv z=>by rw[d]at z;cases z⟩
 keep:=λi h h' st k=>st.at λo e=>k it (by simp) o e
 item:=by
  intro X hP hw hK hc i pins s σ H E I hf st hg;subst hP hw hK;obtain⟨xs,x,hq,hx⟩:=hg;obtain⟨its,rv,p,hz⟩:=I.list hq;obtain⟨u,hu,ru⟩:=rv.get hx;obtain⟨f0,f1,f2,f3,f4,f5⟩:=hf it (by simp);refine wpAny_pyNext_list_item st p.isList (x:=u) (by simpa using hu) λh' aa sb=>?_;have I1:Inv X pins σ H {s with heap:=h'}:=I.turned (t':=s.toks) (λb o q e=>(sb.2 b q).trans e) f0 f1 f3 f4 f5;obtain⟨o,e,c,d⟩:=id aa;exact⟨u,rfl,Uk (s:={s with heap:=h'}) e c d (by decide) ⟨x,H,I1,ru,⟨rfl,λys hy=>by rw[I.list_inj hy hq];exact hx⟩,aa,λb q=>(hf b q).1⟩⟩
 done:=by
  intro X hP hw hK hc i pins s σ H E I hf st hg;subst hP hw hK;obtain⟨xs,hq,hx⟩:=hg;obtain⟨its,rv,p,hz⟩:=I.list hq;obtain⟨f0,f1,f2,f3,f4,f5⟩:=hf it (by simp);have hl:=rv.length;exact wpAny_pyNext_list_end (I.ok.hd hc) st p.isList (by simp;omega) λh' eb=>⟨rfl,I.turned (t':=s.toks) (λb o q e=>eb b o q e) f0 f1 f3 f4 f5⟩
 self:=λ_ _ _ _ _ st h=>wpAny_pyIter_listiter st h
def UW{P:Program}{w:World}{K:Fg_}{tg:Expr}(it:Addr)(lo:Int)(n:Nat):Turn P w K tg (Itr lo n) [it] it (λi h=>IsRangeIter h it (lo+(i:Nat)*1) ((n:Int) - (i:Nat)) 1) where
 mem:=by simp
 obj:=λi h st b q=>by
  have e:b=it:=by simpa using q
  subst e
  exact ⟨_,st,λv z=>by
   have z':Data.fields _=Data.cell v:=z;cases z'⟩
 keep:=λi h h' st k=>k it (by simp) _ st
 item:=by
  intro X hP hw hK hc i pins s σ H E I hf st hg;subst hP hw hK;obtain⟨f0,f1,f2,f3,f4,f5⟩:=hf it (by simp);have W:=Walks.range (prog:=X.prog) (w:=X.w) (I.ok.hd hc) it lo 1 n;refine W.item i s _ _ hg st λv h' tk hv aa kk=>?_;obtain⟨t,rfl⟩:=hv;have I1:Inv X pins σ H {s with heap:=h',toks:=tk}:=I.turned (λb o q e=>kk b o (by simpa using q) e) f0 f1 f3 f4 f5;refine⟨_,rfl,Uk (s:={s with heap:=h',toks:=tk}) (n:= "range_iterator") aa rfl rfl (by decide) ⟨.int (lo+i),H,I1,⟨t,?_⟩,⟨rfl,rfl⟩,aa,λb q=>(hf b q).1⟩⟩;rw[Int.mul_one]
 done:=by
  intro X hP hw hK hc i pins s σ H E I hf st hg;subst hP hw hK;obtain⟨f0,f1,f2,f3,f4,f5⟩:=hf it (by simp);exact wpAny_pyNext_range_end (I.ok.hd hc) st (by have:n<=i:=hg;omega) λh' eb=>⟨rfl,I.turned (t':=s.toks) (λb o q e=>eb b o q e) f0 f1 f3 f4 f5⟩
 self:=λ_ _ _ _ _ st h=>wpAny_pyIter_rangeiter st h
end L2
namespace L2
open PySem PySem.Spec PyProof.Rows
section
variable{X:Cx}{tg:Expr}
noncomputable def Wf(K:Fg_)(tl:TE):TI:=λσ H R=>tl σ H λx H1=>∃a,x=.ref a/\(∃xs,SqL K H1 a xs)/\R (Itl K a) H1
def ahs{l:Expr}{tl:TE}(hl:PE X l tl):PI X tg l (Wf X.K tl):=by
 intro pins s σ H R I h;refine thn (hl pins s σ H _ I h) λv z ⟨x,H1,I1,r1,q1⟩=>?_;obtain⟨a,e,⟨xs,hq⟩,q⟩:=q1;subst e;cases r1;obtain⟨its,rv,p,hz⟩:=I1.list hq;refine zzr p.isList ?_;refine⟨z.heap.objs.size,[z.heap.objs.size],_,_,H1,rfl,I1.kept (t':=z.toks) λb o e=>zb _ e,WY a _,⟨_,yb _ rfl,rfl,rfl⟩,λb hb=>?_,q⟩;have e:b=z.heap.objs.size:=by simpa using hb
 subst e;exact I1.fpOk (zj _) (I1.hok.fresh (zj _))
def Zg{pins:List (Addr×Obj)}{σ:St}{H:Hp}{s:Shared}{R:It->Hp->Prop}{E:Value->Shared->Prop}{lo hi:Int}{t u v:Tok}{tk:Nat}(I:Inv X pins σ H s)(h1: -(2^62)<=lo)(h2:lo<2^62)(h3: -(2^62)<=hi)(h4:hi<2^62)
  (q:R (Itr lo (hi - lo).toNat) H):wpAny (model X.prog X.w) X.A (pyIter (.ref s.heap.objs.size)) (PIE X pins σ tg R) E {s with heap:=s.heap.push {cls:=.type "range",data:=.fields #[.int lo t,.int hi u,.int 1 v]},toks:=tk}:=by
 refine wpAny_pyIter_range (IsRange.new ..) (small_one h1 h2 h3 h4) ?_;have z:Inv X pins σ H {s with heap:=s.heap.push {cls:=.type "range",data:=.fields #[.int lo t,.int hi u,.int 1 v]},toks:=tk}:=I.kept λb o e=>zb _ e
 refine ⟨(s.heap.push {cls:=.type "range",data:=.fields #[.int lo t,.int hi u,.int 1 v]}).objs.size,[(s.heap.push {cls:=.type "range",data:=.fields #[.int lo t,.int hi u,.int 1 v]}).objs.size],_,_,H,rfl,
  z.kept (t':=tk) λb o e=>zb _ e,UW _ lo (hi - lo).toNat,?_,λb hb=>?_,q⟩
 ·have e1:lo+((0:Nat):Int)*1=lo:=by simp
  have e2:(((hi - lo).toNat:Nat):Int) - ((0:Nat):Int)=Builtin.Range.rangeSize lo hi 1:=by rw[rangeSize_one];split<;>omega
  show IsRangeIter _ _ (lo+((0:Nat):Int)*1) ((((hi - lo).toNat:Nat):Int) - ((0:Nat):Int)) 1;rw[e1,e2];exact yb _ rfl
 ·have e:b=(s.heap.push {cls:=.type "range",data:=.fields #[.int lo t,.int hi u,.int 1 v]}).objs.size:=by simpa using hb
  subst e;exact z.fpOk (zj _) (z.hok.fresh (zj _))
noncomputable def ajl(ta:TA):TI:=λσ H R=>ta σ H λvs H1=>∃j:Int,vs=[.int j]/\ -(2^62)<=j/\j<2^62/\R (Itr 0 j.toNat) H1
def wK{a:Expr}{ta:TA}{p pos:Pos}(hg:Gl X "range") (hm:X.mg "range" =none) (ha:PA X [a] ta) (hs:starEach [a] X.env=[(false,eval a X.env)]:=by rfl):PI X tg (.Call (.Name "range" p) [a] [] pos) (ajl ta):=by
 intro pins s σ H R I h;refine Call_ (xH I hg hm boot_range (PyProof.Rows.callWith_type1 (thn (ha pos pins s σ H _ I h) λus s1 ⟨vs,H1,I1,r1,z⟩=>?_) hs rfl));obtain⟨j,e,z,q2,q⟩:=z;subst e
 cases r1 with
 |cons r rr=>
  cases rr;obtain⟨t,rfl⟩:=r;exact call_range_1 (Zg I1 (by omega) (by omega) z q2 (by simpa using q))
noncomputable def ajA(wi:TI)(g:TG)(tb:TS):TS:=λD σ H=>wi σ H λJ H1=>∃W:Nat->Nat->St->Hp->Prop,(∃m,W 0 m σ H1)/\∀i m σ H,W i m σ H->
 (J.stop i H/\D.nx σ H)\/(J.go i H/\∃N:St->Hp->Prop,(∀σ' H',N σ' H'->∃m',m'<m/\W (i+1) m' σ' H')/\∀x H',J.yld i H x H'->g x σ H' λσ2 H2=>tb {D with nx:=N,ct:=N,bk:=D.nx} σ2 H2)
noncomputable def MT(fp:List Addr)(h:Heap):List (Addr×Obj):=fp.filterMap λb=>(h.get? b).map λo=>(b,o)
def wN{fp:List Addr}{h:Heap}{b:Addr}{o:Obj}(q:b∈fp)(e:h.get? b=some o):(b,o)∈MT fp h:=List.mem_filterMap.mpr ⟨b,q,by rw[e];rfl⟩
def Xh{fp:List Addr}{h:Heap}{p:Addr×Obj}(z:p∈MT fp h):p.1∈fp/\h.get? p.1=some p.2:=by
 obtain⟨b,hb,e⟩:=List.mem_filterMap.mp z
 cases q:h.get? b with
 |none=>rw[q]at e;cases e
 |some o=>
  rw[q]at e;have e':(b,o)=p:=zw e;subst e';exact⟨hb,q⟩
def Inv.pinned{pins:List (Addr×Obj)}{σ:St}{H:Hp}{s:Shared}{fp:List Addr}(I:Inv X pins σ H s)(hf:∀b∈fp,QC X pins H b)(ho:∀b∈fp,∃o,s.heap.get? b=some o/\∀v,o.data≠.cell v):Inv X (pins++MT fp s.heap) σ H s:=
 I.pins_of λp hp=>(yg.mp hp).elim (λz=>I.pin p (yh _ z)) λz=>by
  obtain⟨hb,e⟩:=Xh z;obtain⟨f0,f1,f2,_⟩:=hf p.1 hb;obtain⟨o,q,d⟩:=ho p.1 hb;rw[e]at q;cases q;exact⟨e,f0,f1,f2,d⟩
def Inv.unpinned{pins pl:List (Addr×Obj)}{σ:St}{H:Hp}{s:Shared}(I:Inv X (pins++pl) σ H s):Inv X pins σ H s:=I.pins_of λp q=>I.pin p (yh _ (zzn _ q))
def qC{iter:Expr}{ab:List Stmt}{wi:TI}{g:TG}{tb:TS}{pos:Pos}(hp:PassesOwn (model X.prog X.w) X.A X.env X.xe)(hc:X.calm=true)(hi:PI X tg iter wi)(hg:PG X tg g)(hb:PSs X ab tb)
  (hs:∀x,foldedSetIterable iter X.env x=pure x:=by intro _;rfl):PS X (.For tg iter ab [] pos) (ajA wi g tb):=by
 intro pins s σ H D I h;refine wpAny_For (thn (hi pins s σ H _ I h) λv s1 h1=>thn h1 λaj s2 h2=>?_) hs;obtain⟨it,fp,tn,J,H2,e,I2,T,ah,f2,W,⟨m0,w0⟩,ag⟩:=h2;subst e;have aa:∀{H':Hp},(∀b∈fp,H' b=none)->∀b∈fp,QC X pins H' b:=λhn b hb=>⟨hn b hb,(f2 b hb).2⟩;refine codeAny_forLoop_any (λn s'=>∃i σ' H',Inv X pins σ' H' s'/\tn i s'.heap/\(∀b∈fp,H' b=none)/\W i n σ' H') ?_ m0 ⟨0,σ,H2,I2,ah,λb hb=>(f2 b hb).1,w0⟩;rintro n s3 ⟨i,σ3,H3,I3,ae,af,w3⟩;rcases ag i n σ3 H3 w3 with⟨stop,qn⟩|⟨go,N,hN,ad⟩
 ·refine zzT hp (thn (T.done X rfl rfl rfl hc i pins s3 σ3 H3 X.xe I3 (aa af) ae stop) λr s4 ⟨hr,I4⟩=>?_)
  subst hr;exact yyg ⟨σ3,H3,I4,qn⟩
 ·refine zzT hp (thn (T.item X rfl rfl rfl hc i pins s3 σ3 H3 X.xe I3 (aa af) ae go) λr s4 ⟨u,hr,h4⟩=>?_)
  subst hr;refine zzT hp (thn h4 λ_ s5 ⟨x,H5,I5,r5,y5,ac,ai⟩=>?_);have I5':=I5.pinned (aa ai) (T.obj _ _ ac);refine zzT hp (thn (hg _ s5 σ3 H5 x u _ I5' r5 (ad x H5 y5)) λ_ s6 ⟨σ6,H6,I6,q6⟩=>?_);refine zzT hp (thn (hb _ s6 σ6 H6 _ I6 q6) λf s7 q7=>?_)
  have z:∀{σ7:St}{q:Hp},Inv X (pins++MT fp s5.heap) σ7 q s7->N σ7 q->∃m,m<n/\∃i σ' H',Inv X pins σ' H' s7/\tn i s7.heap/\(∀b∈fp,H' b=none)/\W i m σ' H':=fun{σ7 q} I7 n7=>by
   obtain⟨m',hm,w7⟩:=hN σ7 q n7;refine⟨m',hm,i+1,σ7,q,I7.unpinned,T.keep _ _ _ ac λb hb o e=>(I7.pin (b,o) (yh _ (yh _ (wN hb e)))).1,λb hb=>?_,w7⟩;obtain⟨o,e,d⟩:=T.obj _ _ ac b hb;exact(I7.pin (b,o) (yh _ (yh _ (wN hb e)))).2.1
  cases f with
  |next=>obtain⟨σ7,q,I7,n7⟩:=q7;exact z I7 n7
  |cont=>obtain⟨σ7,q,I7,n7⟩:=q7;exact z I7 n7
  |brk=>obtain⟨σ7,q,I7,q7⟩:=q7;exact⟨σ7,q,I7.unpinned,q7⟩
  |ret v=>obtain⟨x7,σ7,q,I7,r7,q7⟩:=q7;exact⟨x7,σ7,q,I7.unpinned,r7,q7⟩
end
def YM{K:Fg_}{a:Addr}{xs:List V}{g:TG}{tb:TS}{D:Ends}{σ:St}{H:Hp}(z:Nat->St->Hp->Prop)(h0:z 0 σ H)(hl:∀i σ H,i<=xs.length->z i σ H->SqL K H a xs)
  (hs:∀i x σ H,xs[i]? =some x->z i σ H->g x σ H λσ2 H2=>tb {D with nx:=z (i+1),ct:=z (i+1),bk:=D.nx} σ2 H2) (hd:∀σ H,z xs.length σ H->D.nx σ H):
  ∃W:Nat->Nat->St->Hp->Prop,(∃m,W 0 m σ H)/\∀i m σ H,W i m σ H->
   ((Itl K a).stop i H/\D.nx σ H)\/((Itl K a).go i H/\∃N:St->Hp->Prop,(∀σ' H',N σ' H'->∃m',m'<m/\W (i+1) m' σ' H')/\∀x H',(Itl K a).yld i H x H'->g x σ H' λσ2 H2=>tb {D with nx:=N,ct:=N,bk:=D.nx} σ2 H2):=by
 refine⟨λi m σ H=>m=xs.length - i/\i<=xs.length/\z i σ H,⟨xs.length,by simp,yj _,h0⟩,?_⟩;rintro i m σ H ⟨rfl,hi,p⟩;have q:=hl i σ H hi p;by_cases aa:i<xs.length
 ·refine .inr ⟨⟨xs,xs[i],q,by simp[aa]⟩,z (i+1),λσ' H' p'=>⟨xs.length - (i+1),by omega,rfl,aa,p'⟩,λx H' y=>?_⟩
  obtain⟨e,y⟩:=y;subst e;exact hs i x σ _ (y xs q) p
 ·have e:i=xs.length:=by omega
  subst e;exact .inl ⟨⟨xs,q,zj _⟩,hd σ H p⟩
def Xf{lo:Int}{n:Nat}{g:TG}{tb:TS}{D:Ends}{σ:St}{H:Hp}(q:Nat->St->Hp->Prop)(h0:q 0 σ H)
  (hs:∀i σ H,i<n->q i σ H->g (.int (lo+i)) σ H λσ2 H2=>tb {D with nx:=q (i+1),ct:=q (i+1),bk:=D.nx} σ2 H2) (hd:∀σ H,q n σ H->D.nx σ H):
  ∃W:Nat->Nat->St->Hp->Prop,(∃m,W 0 m σ H)/\∀i m σ H,W i m σ H->
   ((Itr lo n).stop i H/\D.nx σ H)\/((Itr lo n).go i H/\∃N:St->Hp->Prop,(∀σ' H',N σ' H'->∃m',m'<m/\W (i+1) m' σ' H')/\∀x H',(Itr lo n).yld i H x H'->g x σ H' λσ2 H2=>tb {D with nx:=N,ct:=N,bk:=D.nx} σ2 H2):=by
 refine⟨λi m σ H=>m=n - i/\i<=n/\q i σ H,⟨n,by simp,yj _,h0⟩,?_⟩;rintro i m σ H ⟨rfl,hi,p⟩;by_cases z:i<n
 ·refine .inr ⟨z,q (i+1),λσ' H' p'=>⟨n - (i+1),by omega,rfl,z,p'⟩,λx H' y=>?_⟩
  obtain⟨e,y⟩:=y;subst e y;exact hs i σ _ z p
 ·have e:i=n:=by omega
  subst e;exact .inl ⟨zj _,hd σ H p⟩
end L2
namespace L2
open PySem PySem.Spec PyProof.Rows
abbrev R2:=V->V->Hp->VK->Prop
noncomputable def OpR(X:Cx)(f:Value->Value->Sem Value)(r:R2):Prop:=
 ∀(pins:List (Addr×Obj)) (s:Shared) (σ:St) (H:Hp) (x y:V) (v u:Value) (Q:VK),Inv X pins σ H s->RelV x v->RelV y u->r x y H Q->
  wpAny (model X.prog X.w) X.A (f v u) (EP X pins σ Q) X.xe s
noncomputable def UnR(X:Cx)(f:Value->Sem Value)(r:V->Hp->VK->Prop):Prop:=
 ∀(pins:List (Addr×Obj)) (s:Shared) (σ:St) (H:Hp) (x:V) (v:Value) (Q:VK),Inv X pins σ H s->RelV x v->r x H Q->
  wpAny (model X.prog X.w) X.A (f v) (EP X pins σ Q) X.xe s
noncomputable def mR(X:Cx)(f:Value)(r:List V->Hp->VK->Prop):Prop:=
 ∀(pins:List (Addr×Obj)) (s:Shared) (σ:St) (H:Hp) (xs:List V) (us:List Value) (Q:VK),Inv X pins σ H s->Vals xs us->r xs H Q->
  wpAny (model X.prog X.w) X.A (call f us) (EP X pins σ Q) X.xe s
noncomputable def tOp(r:R2)(ta tb:TE):TE:=λσ H Q=>ta σ H λx H1=>tb σ H1 λy H2=>r x y H2 Q
noncomputable def tUn(r:V->Hp->VK->Prop)(ta:TE):TE:=λσ H Q=>ta σ H λx H1=>r x H1 Q
noncomputable def rI(C:Int->Int->Prop)(g:Int->Int->V):R2:=λx y H Q=>∃i j,x=.int i/\y=.int j/\C i j/\Q (g i j) H
noncomputable def rI0(g:Int->Int->V):R2:=λx y H Q=>∃i j,x=.int i/\y=.int j/\Q (g i j) H
noncomputable def rU(g:Int->V):V->Hp->VK->Prop:=λx H Q=>∃i,x=.int i/\Q (g i) H
section
variable{X:Cx}{a b c:Expr}{ta tb tc:TE}{pos:Pos}
def ajM(ha:PE X a ta)(hb:PE X b tb){pins:List (Addr×Obj)}{s:Shared}{σ:St}{H:Hp}{R:V->V->Hp->Prop}(I:Inv X pins σ H s)
  (h:ta σ H λx H1=>tb σ H1 λy H2=>R x y H2) {Q:Value->Shared->Prop} {f:Value->Value->Sem Value}
  (hf:∀v u q x y H2,Inv X pins σ H2 q->RelV x v->RelV y u->R x y H2->wpAny (model X.prog X.w) X.A (f v u) Q X.xe q):
  wpAny (model X.prog X.w) X.A (eval a X.env) (λv s₁=>wpAny (model X.prog X.w) X.A (eval b X.env) (λu s₂=>wpAny (model X.prog X.w) X.A (f v u) Q X.xe s₂) X.xe s₁) X.xe s:=by
 refine thn (ha pins s σ H _ I h) λv s1 ⟨x,H1,I1,z,q1⟩=>?_;refine thn (hb pins s1 σ H1 _ I1 q1) λu q ⟨y,H2,I2,r2,q2⟩=>?_;exact hf v u q x y H2 I2 z r2 q2
def iZ{op:Operator}{r:R2}(ho:OpR X (binaryOp op) r)(ha:PE X a ta)(hb:PE X b tb):PE X (.BinOp a op b pos) (tOp r ta tb):=by
 intro pins s σ H Q I h;exact wpAny_BinOp (ajM ha hb I h λv u s2 x y H2 z rx ry q=>ho pins s2 σ H2 x y v u Q z rx ry q)
def ZJ{op:UnaryOp}{r:V->Hp->VK->Prop}(z:UnR X (unaryOp op) r)(ha:PE X a ta):PE X (.UnaryOp op a pos) (tUn r ta):=by
 intro pins s σ H Q I h;exact UnaryOp_ (thn (ha pins s σ H _ I h) λv s1 ⟨x,H1,I1,q,q1⟩=>z pins s1 σ H1 x v Q I1 q q1)
def opI{f:Value->Value->Sem Value}{C:Int->Int->Prop}{g:Int->Int->Int}
  (z:∀(i j:Int)(t u:Tok)(s:Shared)(Q:Value->Shared->Prop)(E:Value->Shared->Prop),C i j->Q (.int (g i j) s.toks) {s with toks:=s.toks+1}->wpAny (model X.prog X.w) X.A (f (.int i t) (.int j u)) Q E s):
  OpR X f (rI C λi j=> .int (g i j)):=by
 intro pins s σ H x y v u Q I rx ry h;obtain⟨i,j,rfl,rfl,hc,q⟩:=h;obtain⟨t,rfl⟩:=rx;obtain⟨t',rfl⟩:=ry;exact z i j t t' s _ _ hc ⟨.int (g i j),H,I.tok _,⟨_,rfl⟩,q⟩
def akv{f:Value->Value->Sem Value}{g:Int->Int->Int}
  (z:∀(i j:Int)(t u:Tok)(s:Shared)(Q:Value->Shared->Prop)(E:Value->Shared->Prop),Q (.int (g i j) s.toks) {s with toks:=s.toks+1}->wpAny (model X.prog X.w) X.A (f (.int i t) (.int j u)) Q E s):
  OpR X f (rI0 λi j=> .int (g i j)):=by
 intro pins s σ H x y v u Q I rx ry h;obtain⟨i,j,rfl,rfl,q⟩:=h;obtain⟨t,rfl⟩:=rx;obtain⟨t',rfl⟩:=ry;exact z i j t t' s _ _ ⟨.int (g i j),H,I.tok _,⟨_,rfl⟩,q⟩
def ajG{f:Value->Value->Sem Value}{g:Int->Int->Bool}
  (z:∀(i j:Int)(t u:Tok)(s:Shared)(Q:Value->Shared->Prop)(E:Value->Shared->Prop),Q (.bool (g i j)) s->wpAny (model X.prog X.w) X.A (f (.int i t) (.int j u)) Q E s):
  OpR X f (rI0 λi j=> .bl (g i j)):=by
 intro pins s σ H x y v u Q I rx ry h;obtain⟨i,j,rfl,rfl,q⟩:=h;obtain⟨t,rfl⟩:=rx;obtain⟨t',rfl⟩:=ry;exact z i j t t' s _ _ ⟨.bl (g i j),H,I,rfl,q⟩
noncomputable def aky(i j:Int):Prop:=0<=j/\j<=1000000/\i.natAbs<2^64
noncomputable def ajW(i j:Int):Prop:=(-(2^64)<i/\i<2^64)\/(-(2^64)<j/\j<2^64)
def ajW.ok{i j:Int}(h:ajW i j):IntMulOk i j:=by
 rcases h with⟨h1,h2⟩|⟨h1,h2⟩
 ·exact .of_left (intBits_le_64 h1 h2)
 ·exact .of_right (intBits_le_64 h1 h2)
def jD:OpR X (binaryOp .Add) (rI0 λi j=> .int (i+j)):=akv λ_ _ _ _ _ _ _ q=>add_int q
def pX:OpR X (binaryOp .Sub) (rI0 λi j=> .int (i - j)):=akv λ_ _ _ _ _ _ _ q=>sub_int q
def qz:OpR X (binaryOp .Mod) (rI (λ_ j=>0<j) λi j=> .int (i%j)):=opI λi j _ _ _ _ _ z q=>by
 have h1:(0:Int)<j:=z;exact mod_int' (by omega) (by rw[Int.fmod_eq_emod_of_nonneg i (by omega)];exact q)
def sH:OpR X (binaryOp .Pow) (rI aky λi j=> .int (i^j.toNat)):=opI λ_ _ _ _ _ _ _ z q=>pow_int_small z.1 z.2.1 z.2.2 q
def unI{f:Value->Sem Value}{g:Int->Int}
  (z:∀(i:Int)(t:Tok)(s:Shared)(Q:Value->Shared->Prop)(E:Value->Shared->Prop),Q (.int (g i) s.toks) {s with toks:=s.toks+1}->wpAny (model X.prog X.w) X.A (f (.int i t)) Q E s):
  UnR X f (rU λi=> .int (g i)):=by
 intro pins s σ H x v Q I rx h;obtain⟨i,rfl,q⟩:=h;obtain⟨t,rfl⟩:=rx;exact z i t s _ _ ⟨.int (g i),H,I.tok _,⟨_,rfl⟩,q⟩
def SJ:UnR X (unaryOp .USub) (rU λi=> .int (-i)):=unI λ_ _ _ _ _ q=>neg_int q
end
noncomputable def ahm:V->V->Bool
 |.non,.non=>true|.non,.int _=>true|.int _,.non=>true|.non,.bl _=>true|.bl _,.non=>true|.non,.str _=>true|.str _,.non=>true
 |.int _,.int _=>true|.bl _,.bl _=>true|.str _,.str _=>true|.byt _,.byt _=>true
 |.int _,.str _=>true|.str _,.int _=>true|.bl _,.str _=>true|.str _,.bl _=>true
 |_,_=>false
noncomputable def rEq:R2:=λx y H Q=>ahm x y=true/\Q (.bl (decide (x=y))) H
noncomputable def rNe:R2:=λx y H Q=>ahm x y=true/\Q (.bl (!decide (x=y))) H
def Vz{i j:Int}:decide (V.int i=V.int j)=(i==j):=by
 rw[zzA];simp
def ZZ{i j:Bool}:decide (V.bl i=V.bl j)=(i==j):=by
 rw[zzA];simp
def Ws{i j:Str}:decide (V.str i=V.str j)=(i==j):=by
 rw[zzA];simp
def Wi{i j:Array UInt8}:decide (V.byt i=V.byt j)=(i.toList==j.toList):=by
 rw[zzA];cases i;cases j;simp
section
variable{X:Cx}{a b c:Expr}{ta tb tc:TE}{pos:Pos}
def jV{pins:List (Addr×Obj)}{σ:St}{H:Hp}{s:Shared}{Q:VK}{k z:Bool}(I:Inv X pins σ H s)(q:Q (.bl k) H)(e:k=z):EP X pins σ Q (.bool z) s:=by
 subst e;exact⟨.bl k,H,I,rfl,q⟩
def lu:OpR X (compareOp .Eq) rEq:=by
 intro pins s σ H x y v u Q I rx z h;obtain⟨hs,q⟩:=h
 cases x with
 |non=>
  cases rx
  cases y with
  |non=>cases z;exact PySem.EqNone.eq_none_none (jV I q (by simp))
  |bl j=>cases z;exact PySem.EqNone.eq_none_bool (jV I q (by simp))
  |int j=>obtain⟨t',rfl⟩:=z;exact PySem.EqNone.eq_none_int (jV I q (by simp))
  |str j=>obtain⟨t',rfl⟩:=z;exact PySem.EqNone.eq_none_str (jV I q (by simp))
  |_=>exact absurd (show false=true from hs) yp
 |bl i=>
  cases rx
  cases y with
  |non=>cases z;exact PySem.EqNone.eq_bool_none (jV I q (by simp))
  |bl j=>cases z;exact eq_bool (jV I q ZZ)
  |str j=>obtain⟨t',rfl⟩:=z;exact PySem.EqMixed.eq_bool_str (jV I q (by simp))
  |_=>exact absurd (show false=true from hs) yp
 |int i=>
  obtain⟨t,rfl⟩:=rx
  cases y with
  |non=>cases z;exact PySem.EqNone.eq_int_none (jV I q (by simp))
  |int j=>obtain⟨t',rfl⟩:=z;exact eq_int (jV I q Vz)
  |str j=>obtain⟨t',rfl⟩:=z;exact PySem.EqMixed.eq_int_str (jV I q (by simp))
  |_=>exact absurd (show false=true from hs) yp
 |str i=>
  obtain⟨t,rfl⟩:=rx
  cases y with
  |non=>cases z;exact PySem.EqNone.eq_str_none (jV I q (by simp))
  |bl j=>cases z;exact PySem.EqMixed.eq_str_bool (jV I q (by simp))
  |int j=>obtain⟨t',rfl⟩:=z;exact PySem.EqMixed.eq_str_int (jV I q (by simp))
  |str j=>obtain⟨t',rfl⟩:=z;exact eq_str (jV I q Ws)
  |_=>exact absurd (show false=true from hs) yp
 |byt i=>
  obtain⟨t,rfl⟩:=rx
  cases y with
  |byt j=>obtain⟨t',rfl⟩:=z;exact PySem.W.eq_bytes (jV I q Wi)
  |_=>exact absurd (show false=true from hs) yp
 |_=>cases y<;>exact absurd (show false=true from hs) yp
def aiV:OpR X (compareOp .NotEq) rNe:=by
 intro pins s σ H x y v u Q I rx z h;obtain⟨hs,q⟩:=h
 cases x with
 |non=>
  cases rx
  cases y with
  |non=>cases z;exact PySem.EqNone.ne_none_none (jV I q (by simp))
  |bl j=>cases z;exact PySem.EqNone.ne_none_bool (jV I q (by simp))
  |int j=>obtain⟨t',rfl⟩:=z;exact PySem.EqNone.ne_none_int (jV I q (by simp))
  |str j=>obtain⟨t',rfl⟩:=z;exact PySem.EqNone.ne_none_str (jV I q (by simp))
  |_=>exact absurd (show false=true from hs) yp
 |bl i=>
  cases rx
  cases y with
  |non=>cases z;exact PySem.EqNone.ne_bool_none (jV I q (by simp))
  |bl j=>cases z;exact ne_bool (jV I q (congrArg not ZZ))
  |str j=>obtain⟨t',rfl⟩:=z;exact PySem.EqMixed.ne_bool_str (jV I q (by simp))
  |_=>exact absurd (show false=true from hs) yp
 |int i=>
  obtain⟨t,rfl⟩:=rx
  cases y with
  |non=>cases z;exact PySem.EqNone.ne_int_none (jV I q (by simp))
  |int j=>obtain⟨t',rfl⟩:=z;exact ne_int (jV I q (congrArg not Vz))
  |str j=>obtain⟨t',rfl⟩:=z;exact PySem.EqMixed.ne_int_str (jV I q (by simp))
  |_=>exact absurd (show false=true from hs) yp
 |str i=>
  obtain⟨t,rfl⟩:=rx
  cases y with
  |non=>cases z;exact PySem.EqNone.ne_str_none (jV I q (by simp))
  |bl j=>cases z;exact PySem.EqMixed.ne_str_bool (jV I q (by simp))
  |int j=>obtain⟨t',rfl⟩:=z;exact PySem.EqMixed.ne_str_int (jV I q (by simp))
  |str j=>obtain⟨t',rfl⟩:=z;exact ne_str (jV I q (congrArg not Ws))
  |_=>exact absurd (show false=true from hs) yp
 |byt i=>
  obtain⟨t,rfl⟩:=rx
  cases y with
  |byt j=>obtain⟨t',rfl⟩:=z;exact PySem.W.ne_bytes (jV I q (congrArg not Wi))
  |_=>exact absurd (show false=true from hs) yp
 |_=>cases y<;>exact absurd (show false=true from hs) yp
def Mi:OpR X (compareOp .Lt) (rI0 λi j=> .bl (decide (i<j))):=ajG λ_ _ _ _ _ _ _ q=>lt_int q
def ahz:OpR X (compareOp .LtE) (rI0 λi j=> .bl (decide (i<=j))):=ajG λ_ _ _ _ _ _ _ q=>le_int q
def HN:OpR X (compareOp .Gt) (rI0 λi j=> .bl (decide (j<i))):=ajG λ_ _ _ _ _ _ _ q=>gt_int q
def Gd:OpR X (compareOp .Is) (λx y H Q=>y=.non/\Q (.bl (decide (x=.non))) H):=by
 intro pins s σ H x y v u Q I z ry h;obtain⟨rfl,q⟩:=h;cases ry;refine is_none_gen (jV I q ?_)
 cases x<;>first
  |(cases z;rfl)
  |(obtain⟨t,rfl⟩:=z;rfl)
def LK:OpR X (compareOp .IsNot) (λx y H Q=>y=.non/\Q (.bl (!decide (x=.non))) H):=by
 intro pins s σ H x y v u Q I z ry h;obtain⟨rfl,q⟩:=h;cases ry;refine isnot_none_gen (jV I q ?_)
 cases x<;>first
  |(cases z;rfl)
  |(obtain⟨t,rfl⟩:=z;rfl)
def iY(b:Expr){op:CmpOp}(h:op≠.In:=by decide)(h2:op≠.NotIn:=by decide):behindInMarks op b=false:=by
 have z:(op==CmpOp.In)=false:=by cases op<;>first|rfl|exact absurd rfl h
 have q:(op==CmpOp.NotIn)=false:=by cases op<;>first|rfl|exact absurd rfl h2
 cases b<;>simp[behindInMarks,z,q]
def rO{op:CmpOp}{r:R2}(ho:OpR X (compareOp op) r)(ha:PE X a ta)(hb:PE X b tb)(hm:behindInMarks op b=false):PE X (.Compare a [op] [b] pos) (tOp r ta tb):=by
 intro pins s σ H Q I h;exact wpAny_Compare1 (ajM ha hb I h λv u s2 x y H2 z rx ry q=>ho pins s2 σ H2 x y v u Q z rx ry q) hm
noncomputable def Bv(t:TE):TT:=λσ H Q=>t σ H λx H'=>∃k,x=.bl k/\Q k H'
def iR{op:CmpOp}{r:R2}(ho:OpR X (compareOp op) r)(ha:PE X a ta)(hb:PE X b tb)(hm:behindInMarks op b=false):PT X (.Compare a [op] [b] pos) (Bv (tOp r ta tb)):=by
 intro pins s σ H Q I h
 refine wpAny_isTrue_Compare1 (thn (ha pins s σ H _ I h) λv s1 ⟨x,H1,I1,r1,q1⟩=>thn (hb pins s1 σ H1 _ I1 q1) λu s2 ⟨y,H2,I2,r2,q2⟩=>
  thn (ho pins s2 σ H2 x y v u _ I2 r1 r2 q2) λc s3 ⟨z,H3,I3,r3,k,e,q⟩=>?_) hm
 subst e;cases r3;exact y6 ⟨H3,I3,q⟩
noncomputable def agv(r r':R2)(ta tb tc:TE):TE:=λσ H Q=>ta σ H λx H1=>tb σ H1 λy H2=>r x y H2 λz H3=>∃k,z=.bl k/\
 (if k=true then tc σ H3 λw' H4=>r' y w' H4 Q else Q (.bl false) H3)
def Zh{op q:CmpOp}{r r':R2}(ho:OpR X (compareOp op) r)(aa:OpR X (compareOp q) r')(ha:PE X a ta)(hb:PE X b tb)(hc:PE X c tc)
  (hm:lastMarks [op,q] [b,c]=false:=by with_unfolding_all rfl):PE X (.Compare a [op,q] [b,c] pos) (agv r r' ta tb tc):=by
 intro pins s σ H Q I h
 refine Compare_chain (thn (ha pins s σ H _ I h) λv s1 ⟨x,H1,I1,r1,q1⟩=>chain_link (thn (hb pins s1 σ H1 _ I1 q1) λu s2 ⟨y,H2,I2,r2,q2⟩=>
  thn (ho pins s2 σ H2 x y v u _ I2 r1 r2 q2) λd s3 ⟨z,H3,I3,r3,k,e,q3⟩=>?_)) hm
 subst e;cases r3;refine y6 ?_
 cases k with
 |false=>exact ite_ff ⟨.bl false,H3,I3,rfl,q3⟩
 |true=>exact ite_tt (chain_last (thn (hc pins s3 σ H3 _ I3 q3) λw' s4 ⟨z',H4,I4,r4,q4⟩=>aa pins s4 σ H4 y z' u w' Q I4 r2 r4 q4))
def MF:(sizeLine:Nat)<2^63:=by rw[zv];decide
def vals1{x:V}{us:List Value}(r:Vals [x] us):∃u,us=[u]/\RelV x u:=by
 cases r with
 |cons r1 r2=>cases r2;exact⟨_,rfl,r1⟩
def vals2{x y:V}{us:List Value}(r:Vals [x,y] us):∃u q,us=[u,q]/\RelV x u/\RelV y q:=by
 cases r with
 |cons r1 r2=>
  cases r2 with
  |cons r3 r4=>cases r4;exact⟨_,_,rfl,r1,r3⟩
def Ww(hc:X.calm=true):mR X (.builtin "min") (λxs H Q=>∃i j,xs=[.int i,.int j]/\Q (.int (if j<i then j else i)) H):=by
 intro pins s σ H xs us Q I r h;obtain⟨i,j,rfl,q⟩:=h;obtain⟨u,w',rfl,⟨t,rfl⟩,⟨t',rfl⟩⟩:=vals2 r;refine min_two_ints (I.ok.hd hc) λh' tk k=>⟨_,H,I.kept k,?_,q⟩;by_cases z:j<i
 ·rw[zn z,zn z];exact⟨_,rfl⟩
 ·rw[ze z,ze z];exact⟨_,rfl⟩
end
end L2
namespace L2
open PySem PySem.Spec PyProof.Rows
structure agZ(h:Heap)(x dx C:Addr)(mA:Str->Option Value):Prop where
 obj:h.get? x=some (PySem.W.instObj C dx)
 ns:h.Ns1 dx mA
 ne:dx≠x
def Wt{h:Heap}{dx:Addr}{mA:Str->Option Value}(n:h.Ns1 dx mA):∃od,h.get? dx=some od/\∀name,PySem.W.lookIn name od=some (mA name):=by
 obtain⟨o,es,ep,ho,hd,hk,_,hm⟩:=n;refine⟨o,ho,λname=>?_⟩;have e:=hm name;unfold nsFind findBy at e;rw[<-Array.find?_toList]at e;unfold PySem.W.lookIn;rw[hd];dsimp only;split
 ·rename_i y q
  rw[q]at e;exact congrArg some e
 ·rename_i q
  rw[q]at e
  have a:es.toList.any (·.refKey)=false:=by
   rw[List.any_eq_false];intro y hy;obtain⟨z,t,aa⟩:=hk y (Array.mem_toList_iff.mp hy);simp[DictEntry.refKey,aa]
  have a':¬es.toList.any (·.refKey)=true:=by rw[a];exact yp
  rw[ze a'];exact congrArg some e
def agZ.look{h:Heap}{x dx C:Addr}{mA:Str->Option Value}(I:agZ h x dx C mA):∃q,PySem.W.InstAt h x (PySem.W.instObj C dx) C (some q)/\∀name,PySem.W.lookIn name q=some (mA name):=
 let⟨q,ho,hl⟩:=Wt I.ns
 ⟨q,⟨I.obj,rfl,rfl,ho⟩,hl⟩
section
variable{prog:Program}{w:World}{A:Around}{E:Value->Shared->Prop}{s:Shared}{K:Fg_}{x dx C f:Addr}{mA:Str->Option Value}{name:Str}{v:Value}
def get_map{q:Bool}{Q:Value->Shared->Prop}(X:K.In s.heap)(I:agZ s.heap x dx C mA)(hg:PySem.W.plainGet K C name=true)(hh:PySem.W.hasDictIn K C=true)
  (ha:PySem.W.findIn K (.ref C) name=some none) (hv:mA name=some v) (z:PySem.W.handedIn v=true) (h:Q v {s with toks:=s.toks+1}):
  wpAny (model prog w) A (getAttr (.ref x) name q) Q E s:=by
 obtain⟨od,J,hl⟩:=I.look;exact PySem.W.get_value X J (yyi hg).1 (PySem.W.findObj_own hh ha rfl (by rw[hl,hv])) z h
def ZG{pl:Sem Bool}{Q:Value×List Value->Shared->Prop}(X:K.In s.heap)(I:agZ s.heap x dx C mA)(q:PySem.W.plainGet K C name=true)
  (hf:PySem.W.findIn K (.ref C) name=some (some (.ref f))) (z:PySem.W.isFn K (.ref f)=true) (hv:mA name=none) (h:Q (.ref f,[.ref x]) s):
  wpAny (model prog w) A (getMethod (.ref x) name pl) Q E s:=by
 obtain⟨od,J,hl⟩:=I.look;exact PySem.W.method_fn X J (yyi q).1 (yyi q).2 hf (beq_iff_eq.mp z) (by show(PySem.W.lookIn name od).map (·.isSome)=some false;rw[hl,hv];rfl) h
def ahl{ns:List Str}{Q:Unit->Shared->Prop}(X:K.In s.heap)(I:agZ s.heap x dx C mA)
  (hs:PySem.W.findIn K (.ref C) "__setattr__" =some (some (.builtin "object.__setattr__"))) (hp:PySem.W.plainOver K C=true) (ht:PySem.W.takerIn K C name=some none) (hh:PySem.W.hasDictIn K C=true)
  (hw:PySem.Within mA ns) (hsz:ns.length<=sizeLine)
  (h:∀h',agZ h' x dx C (λy=>if y=name then some v else mA y)->Heap.SameBut dx s.heap h'->Q () {s with heap:=h',toks:=s.toks+2}):
  wpAny (model prog w) A (setAttr (.ref x) name v) Q E s:=by
 obtain⟨od,J,hl⟩:=I.look;refine PySem.W.set_plain X J hs (PySem.W.osa_open (s:={s with toks:=s.toks+1}) (r:=none) X J hp ht λb=>?_);obtain⟨cd,hc,ab⟩:=PySem.W.any_some hh;have hx:s.heap.get? x=some ⟨.ref C,some dx,.plain, #[]⟩:=I.obj;refine zd (yc (zd (zd (wpAny_loadPart hx (zd (PySem.W.Looks.here (s:={s with toks:=s.toks+1}) (PySem.W.looks_clsIn X hc) ?_))))));rw[ab];refine yc (a:=some dx) (zd (yc (zd ?_)));refine wpAny_nsSet1 (s:={s with toks:=s.toks+1}) I.ns λh' q z=>?_;obtain⟨oD,ae,af,ac,aa,ad⟩:=q.count (PySem.Within.cons name v hw);refine zd (wpAny_lookBehind ac (by rw[aa];exact pastItsLine_dict (yw ad (by rw[yo];omega))) ?_);exact yc (h _ ⟨(z.2 _ (Ne.symm I.ne)).trans I.obj,q,I.ne⟩ z)
def Yz{R:Result->Shared->Prop}{vs:List Value}{q:List (Str×Value)}(X:K.In s.heap)(hm:PySem.W.makesIn K C=true)
  (hi:PySem.W.findIn K (.ref C) "__init__" =some (some (.ref f))) (z:PySem.W.typeIn K (.ref f)=some (.type "function"))
  (h:codeAny (model prog w) (A.under (.builtin "type.__call__" ⟨.ref C::vs,q⟩)) (.call (.ref f) ⟨.ref (s.heap.objs.size+1)::vs,q⟩) (PySem.W.InitBack (s.heap.objs.size+1) R)
   {s with heap:=(s.heap.push PySem.W.emptyDict).push (PySem.W.instObj C s.heap.objs.size)}):
  codeAny (model prog w) A (.call (.ref C) ⟨vs,q⟩) R s:=by
 obtain⟨hh,g,d,t,os⟩:=s;exact PySem.W.make_core (yyB X hm) (PySem.W.looks_findIn X hi) (λself=>PySem.W.bind_fn X self z) (.inl rfl) h
def Xy{R:Result->Shared->Prop}(X:K.In s.heap)(hm:PySem.W.makesIn K C=true)
  (hi:PySem.W.findIn K (.ref C) "__init__" =some (some (.builtin "object.__init__")))
  (q:∀self,PySem.W.Looks (model prog w) s.heap (bindSpecial (.builtin "object.__init__") self) (.builtin "object.__init__",[self]))
  (h:codeAny (model prog w) (A.under (.builtin "type.__call__" ⟨[.ref C],[]⟩)) (.call (.builtin "object.__init__") ⟨[.ref (s.heap.objs.size+1)],[]⟩) (PySem.W.InitBack (s.heap.objs.size+1) R)
   {s with heap:=(s.heap.push PySem.W.emptyDict).push (PySem.W.instObj C s.heap.objs.size)}):
  codeAny (model prog w) A (.call (.ref C) ⟨[],[]⟩) R s:=by
 obtain⟨z,g,d,t,os⟩:=s;exact PySem.W.make_core (yyB X hm) (PySem.W.looks_findIn X hi) q (.inr ⟨rfl,rfl⟩) h
end
noncomputable def CN(f:Str)(v:V):List (Str×V)->List (Str×V)
 |[]=>[(f,v)]
 |(g,x)::r=>if g=f then(g,v)::r else(g,x)::CN f v r
theorem Ii(f g:Str)(v:V):∀fs:List (Str×V),(CN f v fs).lookup g=if g=f then some v else fs.lookup g
 |[]=>by
  show List.lookup g [(f,v)]=_;by_cases h:g=f
  ·have q:(g==f)=true:=beq_iff_eq.mpr h
   simp only[List.lookup,q,zn h]
  ·have q:(g==f)=false:=beq_eq_false_iff_ne.mpr h
   simp only[List.lookup,q,ze h]
 |(k,x)::r=>by
  have ih:=Ii f g v r;rw[show CN f v ((k,x)::r)=(if k=f then(k,v)::r else(k,x)::CN f v r)from rfl];by_cases z:k=f
  ·rw[zn z]
   by_cases h:g=k
   ·have q:(g==k)=true:=beq_iff_eq.mpr h
    simp only[List.lookup,q,zn (h.trans z)]
   ·have q:(g==k)=false:=beq_eq_false_iff_ne.mpr h
    simp only[List.lookup,q,ze (λe:g=f=>h (e.trans z.symm))]
  ·rw[ze z]
   by_cases h:g=k
   ·have q:(g==k)=true:=beq_iff_eq.mpr h
    simp only[List.lookup,q,ze (λe:g=f=>z (h.symm.trans e))]
   ·have q:(g==k)=false:=beq_eq_false_iff_ne.mpr h
    simp only[List.lookup,q];exact ih
theorem Hq(f:Str)(v:V):∀fs:List (Str×V),f∈(CN f v fs).map (·.1)/\∀g,g∈fs.map (·.1)->g∈(CN f v fs).map (·.1)
 |[]=>⟨by simp[CN],λg h=>by simp at h⟩
 |(k,x)::r=>by
  obtain⟨z,i2⟩:=Hq f v r;rw[show CN f v ((k,x)::r)=(if k=f then(k,v)::r else(k,x)::CN f v r)from rfl];by_cases q:k=f
  ·rw[zn q]
   subst q;exact⟨by simp,λg h=>by simpa using h⟩
  ·rw[ze q]
   refine⟨?_,λg h=>?_⟩
   ·rw[zf]
    exact ya _ z
   ·rw[zf]at h⊢
    rcases zu.mp h with e|e
    ·exact zu.mpr (.inl e)
    ·exact ya _ (i2 g e)
theorem Iu(f:Str)(v:V):∀fs:List (Str×V),(CN f v fs).length<=fs.length+1
 |[]=>by simp[CN]
 |(k,x)::r=>by
  have z:=Iu f v r;rw[show CN f v ((k,x)::r)=(if k=f then(k,v)::r else(k,x)::CN f v r)from rfl];by_cases q:k=f
  ·rw[zn q,yo,yo];omega
  ·rw[ze q,yo,yo];omega
def Jy.some_of{v:V}{o:Option Value}(r:Jy (some v) o):∃u,o=some u/\RelV v u:=by
 cases o with
 |none=>exact(show False from r).elim
 |some u=>exact⟨u,rfl,r⟩
def Jy.none_of{o:Option Value}(r:Jy none o):o=none:=by
 cases o with
 |none=>rfl
 |some u=>exact(show False from r).elim
def Wh{v:V}{u:Value}(r:RelV v u):PySem.W.handedIn u=true:=by
 cases v with
 |non=>cases (show u=Value.none from r);rfl
 |bl b=>cases (show u=Value.bool b from r);rfl
 |int i=>obtain⟨t,e⟩:=(show∃t,u=Value.int i t from r);cases e;rfl
 |str x=>obtain⟨t,e⟩:=(show∃t,u=Value.str x t from r);cases e;rfl
 |byt b=>obtain⟨t,e⟩:=(show∃t,u=Value.bytes b t from r);cases e;rfl
 |flt b=>obtain⟨t,e⟩:=(show∃t,u=Value.float b t from r);cases e;rfl
 |ref a=>cases (show u=Value.ref a from r);rfl
 |ty n=>cases (show u=Value.type n from r);rfl
section
variable{P:Program}{w:World}{H H':Hp}{h h':Heap}{a C dx:Addr}{fs fs':List (Str×V)}
def KY(hok:HOk P w H h)(e:H a=some (.ins C dx fs)):∃mA,agZ h a dx C mA/\(∀f,Jy (fs.lookup f) (mA f))/\PySem.Within mA (fs.map (·.1))/\fs.length<=1000/\H dx=some (.own a):=by
 obtain⟨d,z,ne,ob,mA,n,r,q⟩:=(show lC P w H h a (.ins C dx fs)from hok a _ e);exact⟨mA,⟨ob,n,ne⟩,r,q,z,d⟩
end
structure Cls(K:Fg_)(C:Addr):Prop where
 pg:PySem.W.plainGet K C Str.empty=true
 hd:PySem.W.hasDictIn K C=true
 po:PySem.W.plainOver K C=true
 sa:PySem.W.findIn K (.ref C) "__setattr__" =some (some (.builtin "object.__setattr__"))
def Cls.get{K:Fg_}{C:Addr}(c:Cls K C)(f:Str):PySem.W.plainGet K C f=true:=c.pg
noncomputable def iU(K:Fg_)(C:Addr)(f:Str):Prop:=PySem.W.findIn K (.ref C) f=some none
def iU.taker{K:Fg_}{C:Addr}{f:Str}(n:iU K C f):PySem.W.takerIn K C f=some none:=by
 unfold PySem.W.takerIn;rw[show PySem.W.findIn K (.ref C) f=some none from n];rfl
structure Con(K:Fg_)(C:Addr)(f:Str)(v:V)(u:Value):Prop where
 at_:PySem.W.findIn K (.ref C) f=some (some u)
 rel:RelV v u
 get:PySem.W.specialIn K u "__get__" =some none
 cp:PySem.W.copiedNames.contains f=false
structure Meth(K:Fg_)(C:Addr)(m:Str)(f:Addr):Prop where
 at_:PySem.W.findIn K (.ref C) m=some (some (.ref f))
 fn:PySem.W.isFn K (.ref f)=true
 kp:PySem.W.keepIn K (.ref f)=true
section
variable{X:Cx}{pins:List (Addr×Obj)}{σ:St}{H:Hp}{s:Shared}{a C dx:Addr}{fs:List (Str×V)}{f:Str}{v:V}{A:Around}{E:Value->Shared->Prop}
def Uj{b:Bool}{Q:Value->Shared->Prop}(I:Inv X pins σ H s)(e:H a=some (.ins C dx fs))(c:Cls X.K C)(n:iU X.K C f)(l:fs.lookup f=some v)
  (h:∀u s',Inv X pins σ H s'->RelV v u->Q u s'):wpAny (model X.prog X.w) A (getAttr (.ref a) f b) Q E s:=by
 obtain⟨mA,O,r,_,_,_⟩:=KY I.hok e;obtain⟨u,z,q⟩:=Jy.some_of (v:=v) (o:=mA f) (by rw[<-l];exact r f);exact get_map I.kIn O (c.get f) c.hd n z (Wh q) (h u _ (I.tok _) q)
def Kh{m:Str}{g:Addr}{pl:Sem Bool}{Q:Value×List Value->Shared->Prop}(I:Inv X pins σ H s)(e:H a=some (.ins C dx fs))(c:Cls X.K C)(k:Meth X.K C m g)(l:fs.lookup m=none)
  (h:Q (.ref g,[.ref a]) s):wpAny (model X.prog X.w) A (getMethod (.ref a) m pl) Q E s:=by
 obtain⟨mA,O,r,_,_,_⟩:=KY I.hok e;have hn:mA m=none:=Jy.none_of (by rw[<-l];exact r m);exact ZG I.kIn O (c.get m) k.at_ k.fn hn h
def Uh{y:V}{u:Value}{Q:Unit->Shared->Prop}(I:Inv X pins σ H s)(e:H a=some (.ins C dx fs))(c:Cls X.K C)(n:iU X.K C f)(hl:fs.length<1000)(ry:RelV y u)
  (h:∀s',Inv X pins σ (upd H a (.ins C dx (CN f y fs))) s'->Q () s'):wpAny (model X.prog X.w) A (setAttr (.ref a) f u) Q E s:=by
 obtain⟨mA,O,r,wi,_,ho⟩:=KY I.hok e;have hz:(fs.map (·.1)).length<=sizeLine:=by rw[za,zv];omega
 refine ahl I.kIn O c.sa c.po n.taker c.hd wi hz λh' O' sb=>h _ ?_;have hd:∃o,h'.get? dx=some o:=let⟨o,_,_,e',_⟩:=O'.ns;⟨o,e'⟩
 refine I.write (x:=a) (e:=dx) (by rw[e];exact True.intro) (.inr ho) (λb q hb z=>(sb.2 b hb).trans z) hd ?_;refine⟨by rw[iJ O.ne];exact ho,?_,O.ne,O'.obj,_,O'.ns,λg=>?_,λg hg=>?_⟩
 ·have:=Iu f y fs;omega
 ·show Jy ((CN f y fs).lookup g) (if g=f then some u else mA g)
  rw[Ii];by_cases q:g=f
  ·rw[zn q,zn q];exact ry
  ·rw[ze q,ze q];exact r g
 ·by_cases q:g=f
  ·rw[q];exact(Hq f y fs).1
  ·refine(Hq f y fs).2 g (wi g λz=>hg ?_)
   show(if g=f then some u else mA g)=none;rw[ze q];exact z
def Inv.made(I:Inv X pins σ H s):Inv X pins σ (upd (upd H s.heap.objs.size (.own (s.heap.objs.size+1))) (s.heap.objs.size+1) (.ins C s.heap.objs.size []))
  {s with heap:=(s.heap.push PySem.W.emptyDict).push (PySem.W.instObj C s.heap.objs.size)}:=by
 have z:(s.heap.push PySem.W.emptyDict).get? s.heap.objs.size=some PySem.W.emptyDict:=yb s.heap rfl
 have e2:((s.heap.push PySem.W.emptyDict).push (PySem.W.instObj C s.heap.objs.size)).get? (s.heap.objs.size+1)=some (PySem.W.instObj C s.heap.objs.size):=by
  have:=yb (s.heap.push PySem.W.emptyDict) (o:=PySem.W.instObj C s.heap.objs.size) rfl
  rwa [zzZ]at this
 have e3:(s.heap.push PySem.W.emptyDict).Ns s.heap.objs.size (λ_=>none):=⟨PySem.W.emptyDict, #[],_,z,rfl,(λe he=>absurd he (by simp)),λ_=>rfl⟩;have I1:=I.laid (a:=s.heap.objs.size) (o:=.own (s.heap.objs.size+1)) (h':=s.heap.push PySem.W.emptyDict) (t':=s.toks) (λb u q=>zb _ q) (zj _) ⟨_,z⟩;refine I1.laid (a:=s.heap.objs.size+1) (o:=.ins C s.heap.objs.size []) (t':=s.toks) (λb u q=>zb _ q) (yyG (zzZ _ _)) ?_;have ne:s.heap.objs.size≠s.heap.objs.size+1:=ye (yya _);refine⟨by rw[iJ ne,iC],yj _,ne,e2,λ_=>none,(Heap.Ns1.of_empty e3).at λo q=>zb _ q,λ_=>True.intro,λy hy=>absurd rfl hy⟩
def agK{prog:Program}{w:World}{env:Env}{e:Expr}{f:Str}{pos:Pos}{s:Shared}{Q:Value->Shared->Prop}(z:attributeBase e f env (eval e env)=eval e env)
  (h:wpAny (model prog w) A (eval e env) (λo q=>wpAny (model prog w) A (getAttr o f true) Q E q) E s):wpAny (model prog w) A (eval (.Attribute e f pos) env) Q E s:=
 Attribute_any_ h (by rw[arm_eval_Attribute,z])
end
noncomputable def aiF(K:Fg_)(ta:TE)(f:Str):TE:=λσ H Q=>ta σ H λx H1=>∃a C dx fs v,x=.ref a/\H1 a=some (.ins C dx fs)/\Cls K C/\iU K C f/\fs.lookup f=some v/\Q v H1
noncomputable def aip(K:Fg_)(ta tv:TE)(f:Str):TS:=λD σ H=>tv σ H λy H1=>ta σ H1 λx H2=>∃a C dx fs,x=.ref a/\H2 a=some (.ins C dx fs)/\Cls K C/\iU K C f/\fs.length<1000/\
 D.nx σ (upd H2 a (.ins C dx (CN f y fs)))
section
variable{X:Cx}{o e value:Expr}{f:Str}{pos pos' tpos:Pos}{ta tv:TE}
def aiO(he:PE X e ta)(hb:attributeBase e f X.env (eval e X.env)=eval e X.env):PE X (.Attribute e f pos) (aiF X.K ta f):=by
 intro pins s σ H Q I h;refine agK hb (thn (he pins s σ H _ I h) λu s1 ⟨x,H1,I1,rx,a,C,dx,fs,v,ex,z,c,n,l,q⟩=>?_);subst ex;obtain rfl:u=Value.ref a:=rx;exact Uj I1 z c n l λu' s2 I2 ru=>⟨v,H1,I2,ru,q⟩
def aix(ha:PE X o ta)(hv:PE X value tv)(hs:swapsWith value (some (.Attribute o f pos')) pos.line X.env=pure false):PS X (.Assign [.Attribute o f pos'] value pos) (aip X.K ta tv f):=by
 intro pins s σ H D I h;refine plainObj_wpAny_Assign_Attribute (thn (hv pins s σ H _ I h) λu s1 ⟨y,H1,I1,ry,q⟩=>thn (ha pins s1 σ H1 _ I1 q) λov s2 ⟨x,H2,I2,rx,a,C,dx,fs,ex,z,c,n,l,q2⟩=>?_) hs;subst ex;obtain rfl:ov=Value.ref a:=rx;exact Uh I2 z c n l ry λs3 I3=>⟨σ,_,I3,q2⟩
end
section
variable{X:Cx}{pins:List (Addr×Obj)}{σ:St}{H:Hp}{s:Shared}{A:Around}{E:Value->Shared->Prop}{Q:Value->Shared->Prop}{c:Value}{b:Bool}
inductive Jh(K:Fg_)(H:Hp):V->Value->Prop where
 |non:Jh K H .non (.type "NoneType")
 |bl (x:Bool):Jh K H (.bl x) (.type "bool")
 |int (i:Int):Jh K H (.int i) (.type "int")
 |str (x:Str):Jh K H (.str x) (.type "str")
 |flt (x:UInt64):Jh K H (.flt x) (.type "float")
 |lst {a:Addr} {xs:List V} (e:H a=some (.lst xs)):Jh K H (.ref a) (.type "list")
 |frz {a:Addr} {o:Obj} {xs:List V} (e:H a=some (.frz o (.lst xs))):Jh K H (.ref a) (.type "list")
 |tup {a:Addr} {xs:List V} (e:H a=some (.tup xs)):Jh K H (.ref a) (.type "tuple")
 |dK {a:Addr} {kvs:List (Key×V)} (e:H a=some (.dK kvs)):Jh K H (.ref a) (.type "dict")
 |dT {a:Addr} {kvs:List (List Key×V)} (e:H a=some (.dT kvs)):Jh K H (.ref a) (.type "dict")
 | ins {a C dx:Addr} {fs:List (Str×V)} (e:H a=some (.ins C dx fs)) (cl:Cls K C) (ha:PySem.W.findIn K (.ref C) "__class__" =some (some (.builtin "object.__class__")))
   (hn:PySem.W.specialIn K (.builtin "object.__class__") "__get__" =some (some (.builtin "getset_descriptor.__get__"))) (htk:PySem.W.takesIn K (.builtin "object.__class__")=some true)
   (hm:PySem.W.mroIn K C (.type "object")=some true):Jh K H (.ref a) (.ref C)
def Nq{x:V}{u t:Value}(I:Inv X pins σ H s)(rx:RelV x u)(ty:Jh X.K H x t)(e:PySem.W.kitOne X.K t c=some b)(h:∀tk,Q (.bool b) {s with toks:=tk}):
  wpAny (model X.prog X.w) A (call (.builtin "isinstance") [u,c]) Q E s:=by
 cases ty with
 |non=>cases (show u=Value.none from rx);exact yU PySem.W.kitx_none I.kIn True.intro e (λz=>nomatch z) h
 |bl y=>cases (show u=Value.bool y from rx);exact yU PySem.W.kitx_bool I.kIn True.intro e (λz=>nomatch z) h
 |int i=>obtain⟨t,q⟩:=(show∃t,u=Value.int i t from rx);cases q;exact yU PySem.W.kitx_int I.kIn True.intro e (λz=>nomatch z) h
 |str y=>obtain⟨t,q⟩:=(show∃t,u=Value.str y t from rx);cases q;exact yU PySem.W.kitx_str I.kIn True.intro e (λz=>nomatch z) h
 |flt y=>obtain⟨t,q⟩:=(show∃t,u=Value.float y t from rx);cases q;exact yU PySem.W.kitx_float I.kIn True.intro e (λz=>nomatch z) h
 | @lst a xs ea=>
  cases (show u=Value.ref a from rx);obtain⟨_,_,n,_,h1⟩:=(show lC X.prog X.w H s.heap a (.lst xs)from I.hok a _ ea);exact yU PySem.W.kitx_list I.kIn ⟨_,h1,rfl⟩ e (λz=>nomatch z) h
 | @frz a ob xs ea=>
  cases (show u=Value.ref a from rx);obtain⟨_,_,_,n,_,h1⟩:=(show lC X.prog X.w H s.heap a (.frz ob (.lst xs))from I.hok a _ ea);exact yU PySem.W.kitx_list I.kIn ⟨_,h1,rfl⟩ e (λz=>nomatch z) h
 | @tup a xs ea=>
  cases (show u=Value.ref a from rx);obtain⟨_,_,_,p⟩:=(show lC X.prog X.w H s.heap a (.tup xs)from I.hok a _ ea);obtain⟨o,h1,h2,_⟩:=p;exact yU PySem.W.kitx_tuple I.kIn ⟨o,h1,h2⟩ e (λz=>nomatch z) h
 | @dK a kvs ea=>
  cases (show u=Value.ref a from rx);obtain⟨_,_,vs,_,p⟩:=(show lC X.prog X.w H s.heap a (.dK kvs)from I.hok a _ ea);obtain⟨o,es,ep,h1,h2,_⟩:=p;exact yU PySem.W.kitx_dict I.kIn ⟨o,h1,h2.1⟩ e (λz=>nomatch z) h
 | @dT a kvs ea=>
  cases (show u=Value.ref a from rx);obtain⟨_,_,xs,_,o,es,ep,h1,h2,_⟩:=(show lC X.prog X.w H s.heap a (.dT kvs)from I.hok a _ ea);exact yU PySem.W.kitx_dict I.kIn ⟨o,h1,h2.1⟩ e (λz=>nomatch z) h
 | @ins a C dx fs ea cl ha hn htk hm=>
  cases (show u=Value.ref a from rx);obtain⟨mA,O,_⟩:=KY I.hok ea;obtain⟨od,J,_⟩:=O.look;exact yU (PySem.W.kitx_own (cl.get _) cl.hd ha hn htk hm) I.kIn J e (λz=>nomatch z) h
end
end L2
namespace L2
open PySem PySem.Spec PyProof.Rows
structure qM(k:Nat)(A:Around):Prop where
 hd:A.handled=none
 dp:A.depth+3*k+5<recursionLimit
 un:A.units+16*k+200<cLine
def qM.mono{j k:Nat}{A:Around}(r:qM k A)(h:j<=k):qM j A:=⟨r.hd,by have:=r.dp;omega,by have:=r.un;omega⟩
theorem qM.deeper{k:Nat}{A:Around}(r:qM (k+1) A)(env:Env):qM k (A.deeper env):=
 ⟨r.hd,by have:=r.dp;show A.depth+1+3*k+5<_;omega,by have:=r.un;show A.units+3+16*k+200<_;omega⟩
theorem qM.in1{k:Nat}{A:Around}(r:qM (k+1) A):qM k A.in1:=
 ⟨r.hd,by have:=r.dp;show A.depth+3*k+5<_;omega,by have:=r.un;show A.units+1+16*k+200<_;omega⟩
def TV{A:Around}{C:Addr}{us:List Value}{q:List (Str×Value)}:(A.under (.builtin "type.__call__" ⟨.ref C::us,q⟩)).depth=A.depth+1:=by
 first|rfl|simp[Around.under,Code.weight,Code.isCreation,Code.isGuard,Code.isCaller,Code.frames,Code.isFrame,guardIds]
def Ti{A:Around}{C:Addr}{us:List Value}{q:List (Str×Value)}:(A.under (.builtin "type.__call__" ⟨.ref C::us,q⟩)).units=A.units+1:=by
 first|rfl|simp[Around.under,Code.cUnits,Code.frames,Code.isFrame]
def qM.make{k:Nat}{A:Around}(r:qM (k+1) A)(C:Addr)(us:List Value)(q:List (Str×Value)):qM k (A.under (.builtin "type.__call__" ⟨.ref C::us,q⟩)):=
 ⟨r.hd,by have:=r.dp;rw[TV];omega,by have:=r.un;rw[Ti];omega⟩
theorem qM.depth{k:Nat}{A:Around}(r:qM k A):A.depth<recursionLimit:=by have:=r.dp;omega
theorem qM.units{k:Nat}{A:Around}(r:qM k A):A.units+64<cLine:=by have:=r.un;omega
def qM.units0{k:Nat}{A:Around}(r:qM k A):A.units<cLine:=by have:=r.un;omega
noncomputable def Xj:TA:=λ_ H Q=>Q [] H
noncomputable def DG(ta:TE)(tr:TA):TA:=λσ H Q=>ta σ H λx H1=>tr σ H1 λxs H2=>Q (x::xs) H2
section
variable{X:Cx}{e:Expr}{es:List Expr}{te:TE}{t:TA}{pos:Pos}
def iy:PA X [] Xj:=λ_ _ _ _ H Q I h=>Calls.spliced_nil ⟨[],H,I,.nil,h⟩
def ig(ha:PE X e te)(q:PA X es t)(hs:starEach (e::es) X.env=(false,eval e X.env)::starEach es X.env:=by rfl):PA X (e::es) (DG te t):=by
 intro pos pins s σ H Q I h;rw[hs];show wpAny _ _ (spliced ((false,eval e X.env)::backTo pos (starEach es X.env))) _ _ s;refine Calls.spliced_cons (thn (ha pins s σ H _ I h) λu s1 ⟨x,H1,I1,z,q1⟩=>?_);exact thn (q pos pins s1 σ H1 _ I1 q1) λus s2 ⟨xs,H2,I2,r2,q2⟩=>⟨x::xs,H2,I2,.cons z r2,q2⟩
noncomputable def akx(t:TA):TE:=λσ H Q=>t σ H λxs H1=>xs.length<=sizeLine/\∀p,H1 p=none->Q (.ref p) (upd H1 p (.tup xs))
noncomputable def aki(t:TA):TE:=λσ H Q=>t σ H λxs H1=>xs.length<=sizeLine/\∀p,H1 p=none->Q (.ref p) (upd H1 p (.lst xs))
def lY{x1}(h:PA X es t):PE X (.Tuple es x1 pos) (akx t):=by
 intro pins s σ H Q I hq;refine wpAny_Tuple_spliced (thn (h pos pins s σ H _ I hq) λus s1 ⟨xs,H1,I1,r,z,q⟩=>⟨by rw[<-r.length];exact z,?_⟩);have hf:H1 s1.heap.objs.size=none:=I1.hok.fresh (zj _);refine⟨.ref s1.heap.objs.size,upd H1 s1.heap.objs.size (.tup xs),I1.laid (t':=s1.toks) (λb u e=>zb _ e) (zj _) ?_,rfl,q _ hf⟩;exact⟨z,us,r,⟨_,yb _ rfl,rfl,_,rfl⟩⟩
def jX(h:PA X es t):PE X (.List es pos) (aki t):=by
 intro pins s σ H Q I hq;refine wpAny_List_spliced (thn (h pos pins s σ H _ I hq) λus s1 ⟨xs,H1,I1,r,z,q⟩=>⟨by rw[<-r.length];exact z,?_⟩);have hf:H1 s1.heap.objs.size=none:=I1.hok.fresh (zj _);refine⟨.ref s1.heap.objs.size,upd H1 s1.heap.objs.size (.lst xs),I1.laid (t':=s1.toks) (λb u e=>zb _ e) (zj _) ?_,rfl,q _ hf⟩;exact⟨z,us,0,r,yb _ rfl⟩
end
abbrev Sp:=List V->Hp->VK->XK->Prop
abbrev CXT:=List Env->Hp->Shared->XK->Value->Shared->Prop
structure Yn(P:Program)(w:World)(K:Fg_)(mg:Str->Option Value)(base:Heap)(A:Around)(outer:List Env)(s:Shared)(H:Hp):Prop where
 frames:A.frames=some outer
 mod:Mod K mg base
 bs:∀b o,base.get? b=some o->s.heap.get? b=some o/\H b=none
 bsz:base.objs.size<=s.heap.objs.size
 funs:s.heap.FunFrames base outer
 frf:∀b∈frs outer,H b=none
 hok:HOk P w H s.heap
 bare:AllBare s.gens
noncomputable def CE(outer:List Env)(P:Program)(w:World)(H:Hp)(s:Shared)(Q:VK)(u:Value)(s':Shared):Prop:=
 ∃v H',s'.os=s.os/\AllBare s'.gens/\Un (frs outer) [] H H' s.heap s'.heap/\HOk P w H' s'.heap/\RelV v u/\Q v H'
noncomputable def CR(CX:CXT)(outer:List Env)(P:Program)(w:World)(H:Hp)(s:Shared)(Q:VK)(E:XK)(r:Result)(s':Shared):Prop:=
 match r with
 |.ok (.ret u)=>CE outer P w H s Q u s'
 |.ok _=>False
 |.error e=>CX outer H s E e s'
structure jE(P:Program)(w:World)(K:Fg_)(mg:Str->Option Value)(base:Heap)(CX:CXT)(k:Nat)(f:Addr)(fd:FuncData)(ps:List Str)(sp:Sp):Prop where
 len:∀vs H Q E,sp vs H Q E->vs.length=ps.length
 run:∀(A:Around)(outer:List Env)(s:Shared)(H:Hp)(args:Args)(us:List Value)(vs:List V)(Q:VK)(E:XK),qM k A->Yn P w K mg base A outer s H->BindsTo s fd args (ps.zip us)->Vals vs us->sp vs H Q E->
  codeAny (model P w) A (.call (.ref f) args) (CR CX outer P w H s Q E) s
def Yn.make{P:Program}{w:World}{K:Fg_}{mg:Str->Option Value}{base:Heap}{A:Around}{outer:List Env}{s:Shared}{H:Hp}(e:Yn P w K mg base A outer s H)(C:Addr)(us:List Value)(q:List (Str×Value)):
  Yn P w K mg base (A.under (.builtin "type.__call__" ⟨.ref C::us,q⟩)) outer s H:=⟨by first|exact e.frames|(simpa [Around.under,Code.envs,Code.isFrame,pushEnvs] using e.frames),e.mod,e.bs,e.bsz,e.funs,e.frf,e.hok,e.bare⟩
theorem Yn.in1{P:Program}{w:World}{K:Fg_}{mg:Str->Option Value}{base:Heap}{A:Around}{outer:List Env}{s:Shared}{H:Hp}(e:Yn P w K mg base A outer s H):
  Yn P w K mg base A.in1 outer s H:=⟨e.frames,e.mod,e.bs,e.bsz,e.funs,e.frf,e.hok,e.bare⟩
section
variable{X:Cx}{pins:List (Addr×Obj)}{σ:St}{H:Hp}{s s':Shared}
def Inv.env0(I:Inv X pins σ H s):Yn X.prog X.w X.K X.mg X.base X.A X.stack s H:=
 ⟨I.ok.frames,I.ok.mod,I.bs,yw I.ok.bsz I.sz,I.stack,I.stkFree,I.hok,I.bare⟩
def Inv.after{Q:VK}{u:Value}(I:Inv X pins σ H s)(h:CE X.stack X.prog X.w H s Q u s'):EP X pins σ Q u s':=by
 obtain⟨v,H',os,bare,un,hok,r,q⟩:=h;obtain⟨hh,g,d,t,aa⟩:=s';obtain rfl:aa=s.os:=os;exact⟨v,H',I.call (h':=hh) (g':=g) (d':=d) (t':=t) (ch:=[]) un hok bare (λb z=>absurd z (by simp)),r,q⟩
end
noncomputable def YT(sp:Sp)(dvs:List V)(E:XK)(t:TA):TE:=λσ H Q=>t σ H λvs H1=>sp (vs++dvs) H1 Q E
noncomputable def aiP(C:Addr)(sp:Sp)(dvs:List V)(E:XK)(t:TA):TE:=λσ H Q=>t σ H λvs H1=>∀x dx,H1 x=none->H1 dx=none->dx≠x->
 sp (.ref x::(vs++dvs)) (upd (upd H1 dx (.own x)) x (.ins C dx [])) (λv H2=>v=.non/\Q (.ref x) H2) E
noncomputable def Binds(K:Fg_)(fd:FuncData)(ps:List Str)(ds:List Value):Prop:=
 ∀(s:Shared)(us:List Value),K.In s.heap->(us++ds).length=ps.length->BindsTo s fd ⟨us,[]⟩ (ps.zip (us++ds))
def Binds.all{K:Fg_}{fd:FuncData}{ps:List Str}(h:∀us:List Value,us.length=ps.length->bindArgs fd ⟨us,[]⟩=pure (ps.zip us)):Binds K fd ps []:=λs us _ q=>by
 rw[yX]at q⊢;exact .of_eq (h us q)
noncomputable def xr(CX:CXT)(X:Cx)(E:XK):Prop:=∀(pins:List (Addr×Obj))(σ:St)(H:Hp)(s:Shared)(e:Value)(s':Shared),Inv X pins σ H s->CX X.stack H s E e s'->X.xe e s'
section
variable{X:Cx}{CX:CXT}{k:Nat}{f C:Addr}{fd:FuncData}{ps:List Str}{sp:Sp}{dvs:List V}{ds:List Value}{E:XK}{x m:Str}{p pos apos:Pos}{e o:Expr}{es:List Expr}{ta:TE}{t:TA}
def Rc{pins:List (Addr×Obj)}{σ:St}{H:Hp}{s:Shared}{Q:VK}{us:List Value}{vs:List V}(F:jE X.prog X.w X.K X.mg X.base CX k f fd ps sp)(hr:qM k X.A)(hb:Binds X.K fd ps ds)(hd:Vals dvs ds)(hx:xr CX X E)
  (I:Inv X pins σ H s) (r:Vals vs us) (h:sp (vs++dvs) H Q E):wpAny (model X.prog X.w) X.A (call (.ref f) us) (EP X pins σ Q) X.xe s:=by
 have z:Vals (vs++dvs) (us++ds):=r.append hd;have hl:(us++ds).length=ps.length:=by rw[<-z.length];exact F.len _ _ _ _ h
 refine yyI (codeAny_mono (F.run X.A X.stack s H ⟨us,[]⟩ (us++ds) (vs++dvs) Q E hr I.env0 (hb s us I.kIn hl) z h) λr s' q=>?_)
 cases r with
 |error e=>exact hx pins σ H s e s' I q
 |ok fl=>
  cases fl with
  |ret u=>exact I.after q
  |next=>exact False.elim q
  |brk=>exact False.elim q
  |cont=>exact False.elim q
def ahK(F:jE X.prog X.w X.K X.mg X.base CX k f fd ps sp)(hr:qM k X.A)(hg:Gl X x)(hm:X.mg x=some (.ref f))(hk:PySem.W.keepIn X.K (.ref f)=true)(hb:Binds X.K fd ps ds)(hd:Vals dvs ds)(hx:xr CX X E)
  (ha:PA X (e::es) t) (z:(x==("__debug__" :Str))=false:=by decide) (he:starEach (e::es) X.env=(false,eval e X.env)::starEach es X.env:=by rfl) (hpl:(backTo pos (starEach es X.env)).any (·.1)=false:=by rfl):
  PE X (.Call (.Name x p) (e::es) [] pos) (YT sp dvs E t):=by
 intro pins s σ H Q I h;refine yT (FW I hg hm ?_ z);refine zzU (h₀:=X.base) I.ok.mod.kin hk (thn (ha pos pins s σ H _ I h) λus s1 ⟨vs,H1,I1,r,q⟩=>⟨I1.kIn,?_⟩) he hpl;exact Rc F hr hb hd hx I1 r q
structure Mk(K:Fg_)(C f:Addr):Prop where
 makes:PySem.W.makesIn K C=true
 init:PySem.W.findIn K (.ref C) "__init__" =some (some (.ref f))
 fn:PySem.W.isFn K (.ref f)=true
 kp:PySem.W.keepIn K (.ref C)=true
def Zk{pins:List (Addr×Obj)}{σ:St}{H:Hp}{s:Shared}{Q:VK}{us:List Value}{vs:List V}(M:Mk X.K C f)(F:jE X.prog X.w X.K X.mg X.base CX k f fd ps sp)(hr:qM (k+1) X.A)(hb:Binds X.K fd ps ds)(hd:Vals dvs ds)
  (hx:xr CX X E) (I:Inv X pins σ H s) (r:Vals vs us)
  (h:∀x dx,H x=none->H dx=none->dx≠x->sp (.ref x::(vs++dvs)) (upd (upd H dx (.own x)) x (.ins C dx [])) (λv H2=>v=.non/\Q (.ref x) H2) E):
  wpAny (model X.prog X.w) X.A (call (.ref C) us) (EP X pins σ Q) X.xe s:=by
 have hq:=h (s.heap.objs.size+1) s.heap.objs.size (I.hok.fresh (zzo _)) (I.hok.fresh (zj _)) (ye (yya _));have z:=Inv.made (C:=C) I;have r2:Vals (V.ref (s.heap.objs.size+1)::(vs++dvs)) (Value.ref (s.heap.objs.size+1)::(us++ds)):=.cons rfl (r.append hd)
 have hl:(Value.ref (s.heap.objs.size+1)::us++ds).length=ps.length:=by
  have e:=r2.length;rw[F.len _ _ _ _ hq]at e;exact e.symm
 refine yyI (Yz (f:=f) I.kIn M.makes M.init (beq_iff_eq.mp M.fn) (codeAny_mono (F.run _ X.stack _ _ ⟨Value.ref (s.heap.objs.size+1)::us,[]⟩ (Value.ref (s.heap.objs.size+1)::(us++ds)) _ _ E (hr.make C us [])
  (z.env0.make C us []) (hb _ (Value.ref (s.heap.objs.size+1)::us) z.kIn hl) r2 hq) λr s' q=>?_))
 cases r with
 |error e=>exact hx pins σ _ _ e s' z q
 |ok fl=>
  cases fl with
  |ret u=>
   obtain⟨v,H',I3,rv,ev,q3⟩:=z.after q;subst ev;exact⟨rv,⟨V.ref (s.heap.objs.size+1),H',I3,rfl,q3⟩⟩
  |next=>exact False.elim q
  |brk=>exact False.elim q
  |cont=>exact False.elim q
def lD(M:Mk X.K C f)(F:jE X.prog X.w X.K X.mg X.base CX k f fd ps sp)(hr:qM (k+1) X.A)(hg:Gl X x)(hm:X.mg x=some (.ref C))(hb:Binds X.K fd ps ds)(hd:Vals dvs ds)(hx:xr CX X E)
  (ha:PA X (e::es) t) (z:(x==("__debug__" :Str))=false:=by decide) (he:starEach (e::es) X.env=(false,eval e X.env)::starEach es X.env:=by rfl) (hpl:(backTo pos (starEach es X.env)).any (·.1)=false:=by rfl):
  PE X (.Call (.Name x p) (e::es) [] pos) (aiP C sp dvs E t):=by
 intro pins s σ H Q I h;refine yT (FW I hg hm ?_ z);refine zzU (h₀:=X.base) I.ok.mod.kin M.kp (thn (ha pos pins s σ H _ I h) λus s1 ⟨vs,H1,I1,r,q⟩=>⟨I1.kIn,?_⟩) he hpl;exact Zk M F hr hb hd hx I1 r q
end
noncomputable def PK(X:Cx)(kws:List Keyword)(t:TA):Prop:=
 ∀(pos:Pos)(pins:List (Addr×Obj))(s:Shared)(σ:St)(H:Hp)(Q:List V->Hp->Prop),Inv X pins σ H s->t σ H Q->wpAny (model X.prog X.w) X.A (evalAll ((backToKw pos (keywordEach kws X.env)).map (·.2))) (AP X pins σ Q) X.xe s
section
variable{X:Cx}{CX:CXT}{k:Nat}{f C:Addr}{fd:FuncData}{ps ks:List Str}{sp:Sp}{E:XK}{x m:Str}{p pos apos kpos:Pos}{e o:Expr}{es:List Expr}{kws:List Keyword}{te ta:TE}{t tk:TA}{nm:Option Str}
def agE:PK X [] Xj:=λ_ _ _ _ H Q I h=>wpAny_evalAll_nil ⟨[],H,I,.nil,h⟩
def Vo(ha:PE X e te)(q:PK X kws t):PK X (⟨nm,e,kpos⟩::kws) (DG te t):=by
 intro pos pins s σ H Q I h;show wpAny _ _ (evalAll ((do let v<-eval e X.env;standAt pos;pure v)::(backToKw pos (keywordEach kws X.env)).map (·.2))) _ _ s;refine wpAny_evalAll_cons (zd (thn (ha pins s σ H _ I h) λu s1 ⟨x,H1,I1,z,q1⟩=>zd (yyz (yc ?_))));exact thn (q pos pins s1 σ H1 _ I1 q1) λus s2 ⟨xs,H2,I2,r2,q2⟩=>⟨x::xs,H2,I2,.cons z r2,q2⟩
structure akn(K:Fg_)(fd:FuncData)(ps ks:List Str)(g:List Value->List Value->List Value)(gV:List V->List V->List V):Prop where
 to:∀(s:Shared)(us ws:List Value),K.In s.heap->(g us ws).length=ps.length->BindsTo s fd ⟨us,ks.zip ws⟩ (ps.zip (g us ws))
 rel:∀{vs:List V}{us:List Value}{zs:List V}{ws:List Value},Vals vs us->Vals zs ws->Vals (gV vs zs) (g us ws)
variable{g:List Value->List Value->List Value}{gV:List V->List V->List V}
end
structure iI(N P:List Str)(sc:Scope):Prop where
 kind:sc.kind=.function
 co:sc.isCoroutine=false
 gen:sc.isGenerator=false
 nd:N.Nodup
 pre:N.take P.length=P
 par:∀x∈P,sc.names.lookup x=some .local\/sc.names.lookup x=some .cell
 nofree:∀y∈sc.names,y.2≠.free
theorem Mh{q:Str->Option NameKind}{x:Str}:∀{binds:List (Str×Value)}{m:Str->Option Value},(∀v,(x,v)∉binds)->bindL q binds m x=m x
 |[],_,_=>rfl
 |(n,v)::r,m,h=>by
  unfold bindL;rw[Mh λw z=>h w (ya _ z)];split
  ·have:x≠n:=by rintro rfl;exact h v zm
   simp[this]
  ·rfl
theorem Nz{q:Str->Option NameKind}{x:Str}:∀{binds:List (Str×Value)}{m:Str->Option Value},(∀v,(x,v)∉binds)->bindC q binds m x=m x
 |[],_,_=>rfl
 |(n,v)::r,m,h=>by
  unfold bindC;rw[Nz λw z=>h w (ya _ z)];split
  ·rfl
  ·have:x≠n:=by rintro rfl;exact h v zm
   simp[this]
theorem Oe{q:Str->Option NameKind}{x:Str}{v:Value}:∀{P:List Str}{vs:List Value}{i:Nat}{m:Str->Option Value},P.Nodup->P[i]? =some x->vs[i]? =some v->q x=some .local->
  bindL q (P.zip vs) m x=some v
 |[],_,_,_,_,h,_,_=>by simp at h
 |_::_,[],_,_,_,_,h,_=>by simp at h
 |p::P,w::vs,0,m,nd,h1,h2,hk=>by
  simp at h1 h2;subst h1;subst h2;show bindL q ((p,w)::P.zip vs) m p=_;unfold bindL;rw[Mh λv z=>(yq.mp nd).1 (yyK z).1,zn hk];simp
 |p::P,w::vs,i+1,m,nd,h1,h2,hk=>by
  show bindL q ((p,w)::P.zip vs) m x=_;unfold bindL;exact Oe (i:=i) (yq.mp nd).2 (by simpa using h1) (by simpa using h2) hk
theorem Oo{q:Str->Option NameKind}{x:Str}{v:Value}:∀{P:List Str}{vs:List Value}{i:Nat}{m:Str->Option Value},P.Nodup->P[i]? =some x->vs[i]? =some v->q x≠some .local->
  bindC q (P.zip vs) m x=some v
 |[],_,_,_,_,h,_,_=>by simp at h
 |_::_,[],_,_,_,_,h,_=>by simp at h
 |p::P,w::vs,0,m,nd,h1,h2,hk=>by
  simp at h1 h2;subst h1;subst h2;show bindC q ((p,w)::P.zip vs) m p=_;unfold bindC;rw[Nz λv z=>(yq.mp nd).1 (yyK z).1,ze hk];simp
 |p::P,w::vs,i+1,m,nd,h1,h2,hk=>by
  show bindC q ((p,w)::P.zip vs) m x=_;unfold bindC;exact Oo (i:=i) (yq.mp nd).2 (by simpa using h1) (by simpa using h2) hk
noncomputable def start(N:List Str)(vs:List V):St:=vs.map some++List.replicate (N.length - vs.length) none
noncomputable def Ys(CX:CXT)(P:Program)(w:World)(K:Fg_)(mg:Str->Option Value)(base:Heap)(N:List Str)(qual:Str)(scope:Scope)(f:Addr)(cd:Value)(A:Around)(outer:List Env)(s:Shared)(H:Hp)(E:XK):Cx where
 prog:=P
 w:=w
 K:=K
 mg:=mg
 base:=base
 A:=A.deeper (envOfC qual scope s.heap.objs.size f cd)
 N:=N
 s₀:=s
 H₀:=H
 env:=envOfC qual scope s.heap.objs.size f cd
 outer:=outer
 stack:=envOfC qual scope s.heap.objs.size f cd::outer
 ex:=[]
 calm:=true
 fn:=λ_=>true
 pn:=[]
 xe:=λe s'=>wpAny (model P w) (A.deeper (envOfC qual scope s.heap.objs.size f cd)) (leaving (envOfC qual scope s.heap.objs.size f cd) e) (λ_ s''=>CX outer H s E e s'') (λe' s''=>CX outer H s E e' s'') s'
def RN{z:Scope}{n:Nat}{x:Str}(h:z.names.lookup x=some .cell):∃c,(cellsFrom n z.names []).lookup x=some c:=by
 have q:=PySem.W.cellsFrom_some z.names n [] (.inl h);exact zze.mp q
def WX{CX:CXT}{P:Program}{w:World}{K:Fg_}{mg:Str->Option Value}{base:Heap}{N ps:List Str}{aa:Str}{scope:Scope}{f:Addr}{cd:Value}{A:Around}{outer:List Env}{s s1:Shared}{H:Hp}{E:XK}{us:List Value}{vs:List V}
  (S:iI N ps scope) (hd:A.handled=none) (e0:Yn P w K mg base A outer s H) (hl:vs.length=ps.length) (r:Vals vs us)
  (x:InCallC s s.heap.objs.size (bindL (envOfC aa scope s.heap.objs.size f cd).kindOf (ps.zip us) λ_=>none) (cellsFrom (s.heap.objs.size+1) scope.names []) (bindC (envOfC aa scope s.heap.objs.size f cd).kindOf (ps.zip us) λ_=>none) s1):
  Inv (Ys CX P w K mg base N aa scope f cd A outer s H E) [] (start N vs) H s1:=by
 have ad:ps.length<=N.length:=by have:=congrArg List.length S.pre;rw[yD]at this;omega
 obtain⟨h1,tk,rfl,hk⟩:=x.done;have ab:∀b:Addr,b∉(Ys CX P w K mg base N aa scope f cd A outer s H E).ex:=λb z=>absurd (show b∈([]:List Addr)from z) (by simp)
 refine ⟨⟨e0.mod,S.kind,rfl,rfl,zj _,λy z c h1 h2=>?_,λy hy=>?_,λy c _ h=>?_,λ_=>hd,Around.frames_deeper e0.frames,.inr ⟨rfl,rfl⟩,λb z=>absurd z (ab b),e0.bs,e0.bsz,λb _ _=>ab b,λb z=>absurd z (ab b),e0.funs,e0.frf⟩,
  rfl,e0.bare,Un.kept hk,⟨_,x.toInCall.ns,λi y v h1 h2 h3=>?_⟩,λy c h=>⟨_,x.cell y c h⟩,e0.hok.fresh (zj _),λy c h=>?_,λp hp=>absurd (show p∈([]:List (Addr×Obj))from hp) (by simp),e0.hok.kept hk,?_⟩
 ·exact name_of_addr x.apart (zzt h1) (zzt h2)
 ·have hy:scope.names.lookup y=some .cell\/scope.names.lookup y=some .free:=hy
  rcases hy with hy|hy
  ·exact RN hy
  ·exact absurd rfl (S.nofree _ (zzt hy))
 ·exact yyF (x.above y c (zzt h))
 ·have hi:i<vs.length:=by
   unfold start at h2;by_cases hi:i<vs.length
   ·exact hi
   ·rw[yI (by simpa using hi)]at h2
    rw[List.getElem?_replicate]at h2;split at h2<;>cases h2
  have ha:vs[i]? =some v:=by
   unfold start at h2;rw[yL (by simpa using hi),zh]at h2
   cases e:vs[i]? with
   |none=>rw[e]at h2;cases h2
   |some a=>rw[e]at h2;cases h2;rfl
  obtain⟨u,hu,rv⟩:=r.get ha
  have hp:ps[i]? =some y:=by
   rw[<-S.pre,List.getElem?_take_of_lt (by omega)];exact h1
  have ac:ps.Nodup:=by rw[<-S.pre];exact S.nd.sublist (List.take_sublist _ _)
  refine⟨u,rv,?_⟩;rcases S.par y (zq hp)with k|k
  ·exact .inl ⟨k,Oe ac hp hu k⟩
  ·obtain⟨c,e⟩:=RN (n:=s.heap.objs.size+1) k
   refine .inr ⟨.inl k,c,e,?_⟩;have q:=x.cell y c e;rw[Oo ac hp hu (by show scope.names.lookup y≠_;rw[k];decide)]at q;exact q
 ·exact e0.hok.fresh (yyF (x.above y c (zzt h)))
 ·unfold start
  show _=N.length;rw[yd,za,List.length_replicate];omega
def ajs{CX:CXT}{P:Program}{w:World}{K:Fg_}{mg:Str->Option Value}{base:Heap}{k:Nat}{f:Addr}{name z:Str}{ab:Arguments}{ac:List Stmt}{scope:Scope}{dV kV ah pm aa ct oc:Value}{an od:Option Addr}
  {aj:Array (Option Value)} {N ps:List Str} {sp:Sp} (lk:K.lookup f=some ⟨oc,od,.func (PySem.W.fnOf name z ab ac scope dV kV ah pm an aa ct),aj⟩) (ai:PySem.W.codeIn K aa z=true) (S:iI N ps scope)
  (len:∀vs H Q E,sp vs H Q E->vs.length=ps.length)
  (ad:∀(A:Around)(outer:List Env)(s:Shared)(H:Hp)(vs:List V)(Q:VK)(E:XK),qM k (A.deeper (envOfC z scope s.heap.objs.size f aa))->sp vs H Q E->
   ∃t,PSs (Ys CX P w K mg base N z scope f aa A outer s H E) ac t/\t {nx:=λ_ H'=>Q .non H',rt:=Q} (start N vs) H):
  jE P w K mg base CX (k+1) f (PySem.W.fnOf name z ab ac scope dV kV ah pm an aa ct) ps sp:=by
 refine⟨len,λA outer s H args us vs Q E hr e0 hb r af=>?_⟩;have hl:=len _ _ _ _ af;have KX:K.In s.heap:=e0.mod.kin.keeps λb o e=>(e0.bs b o e).1;have ak:s.heap.NoLimit:=e0.mod.nolimit.keeps λb o e=>(e0.bs b o e).1
 have ae:∀y∈ps.zip us,scope.names.lookup y.1=some .local\/(scope.names.lookup y.1=some .cell/\((cellsFrom (s.heap.objs.size+1) scope.names []).lookup y.1).isSome=true):=fun⟨n,v⟩ hy=>by
  rcases S.par n (yyK hy).1 with q|q
  ·exact .inl q
  ·exact .inr ⟨q,PySem.W.cellsFrom_some _ _ _ (.inl q)⟩
 refine codeAny_call_function hr.depth (KX _ _ lk) rfl S.co S.gen rfl (PySem.W.codeRec_of KX ai) (hb _ _ _ _ ?_);refine wpAny_newFunctionEnv_cells S.kind ae λenv he s1 x=>?_;subst he;refine⟨ak.keeps x.toInCall.keep,codeAny_func ?_⟩;obtain⟨t,ht,hq⟩:=ad A outer s H vs Q E (hr.deeper _) af;have I:Inv (Ys CX P w K mg base N z scope f aa A outer s H E) [] (start N vs) H s1:=WX S hr.hd e0 hl r x;refine yP (ht [] s1 (start N vs) H _ I hq) (λfl s' hs=>?_) λe s' hs=>hs
 have ag:∀{σ':St}{H':Hp}{v:V}{u:Value},Inv (Ys CX P w K mg base N z scope f aa A outer s H E) [] σ' H' s'->RelV v u->Q v H'->CE outer P w H s Q u s':=
  fun{σ' H' v u} J rv q=>⟨v,H',J.os,J.bare,J.base,J.hok,rv,q⟩
 cases fl with
 |ret u=>
  obtain⟨v,σ',H',J,rv,q⟩:=hs;exact ag J rv q
 |next=>
  obtain⟨σ',H',J,q⟩:=hs;exact ag (v:=V.non) (u:=Value.none) J rfl q
 |brk=>
  obtain⟨_,_,_,q⟩:=hs;exact False.elim q
 |cont=>
  obtain⟨_,_,_,q⟩:=hs;exact False.elim q
end L2
namespace L2
open PySem PySem.Spec PyProof.Rows
section
variable{X:Cx}{x:Str}{p pos:Pos}{e:Expr}{es:List Expr}{t:TA}{id T:String}{r:List V->Hp->VK->Prop}
noncomputable def tCB(r:List V->Hp->VK->Prop)(t:TA):TE:=λσ H Q=>t σ H λvs H1=>r vs H1 Q
def jc(hc:mR X (.builtin id) r)(hg:Gl X x)(hm:X.mg x=none)(z:bootBuiltins x=some (.builtin id))(ha:PA X (e::es) t)(hn:x≠ "__name__" :=by decide) (hdb:(x==("__debug__" :Str))=false:=by decide)
  (he:starEach (e::es) X.env=(false,eval e X.env)::starEach es X.env:=by rfl) (hpl:(backTo pos (starEach es X.env)).any (·.1)=false:=by rfl):PE X (.Call (.Name x p) (e::es) [] pos) (tCB r t):=by
 intro pins s σ H Q I h;refine yT (xH I hg hm z ?_ hn hdb);exact PyProof.Rows.callWith_builtin1 (thn (ha pos pins s σ H _ I h) λus s1 ⟨vs,H1,I1,q,q1⟩=>hc pins s1 σ H1 vs us Q I1 q q1) he hpl
def lH(hc:mR X (.type T) r)(hg:Gl X x)(hm:X.mg x=none)(z:bootBuiltins x=some (.type T))(ha:PA X (e::es) t)(hn:x≠ "__name__" :=by decide) (hdb:(x==("__debug__" :Str))=false:=by decide)
  (he:starEach (e::es) X.env=(false,eval e X.env)::starEach es X.env:=by rfl) (hpl:(backTo pos (starEach es X.env)).any (·.1)=false:=by rfl):PE X (.Call (.Name x p) (e::es) [] pos) (tCB r t):=by
 intro pins s σ H Q I h;refine yT (xH I hg hm z ?_ hn hdb);exact PyProof.Rows.callWith_type1 (thn (ha pos pins s σ H _ I h) λus s1 ⟨vs,H1,I1,q,q1⟩=>hc pins s1 σ H1 vs us Q I1 q q1) he hpl
end
end L2
namespace HT
open PySem PyProof.Rows
def Yw(A:Around)(s:Shared)(a:Int)(t:Tok)(c:Int)(u:Tok):∃e,SeqAt.EqAt A s (.int a t) (.int c u) e/\(e=true↔a=c):=
 ⟨(a==c),SeqAt.EqAt.int_int a t c u,by simp⟩
section
open PySem.SeqAt
open PySem.AutoSeq1 (wpAny_loadPart')
open PySem.MeetsSeq PySem.MeetsSeq2 PySem.MeetsSeq3
end
section
variable{prog:Program}{w:World}{A:Around}{E:Value->Shared->Prop}{s:Shared}
noncomputable def sIx(n d:Nat):Option Int->Nat
 |none=>d
 |some v=>if v<0 then(v+(n:Int)).toNat else min v.toNat n
def sIx_none(n d:Nat):sIx n d none=d:=rfl
def sIx_nat(n d k:Nat):sIx n d (some (k:Int))=min k n:=by
 show(if(k:Int)<0 then((k:Int)+(n:Int)).toNat else min (k:Int).toNat n)=min k n;rw[ze (by omega),yyu]
end
end HT
namespace L2
open PySem PySem.Spec PyProof.Rows
abbrev TO:=St->Hp->(Option Int->Hp->Prop)->Prop
noncomputable def PO(X:Cx)(e:Option Expr)(t:TO):Prop:=
 ∀(pins:List (Addr×Obj)) (s:Shared) (σ:St) (H:Hp) (Q:Option Int->Hp->Prop),Inv X pins σ H s->t σ H Q->
  wpAny (model X.prog X.w) X.A (evalPart e X.env) (λu s'=>∃o H',Inv X pins σ H' s'/\IsPart u o/\Q o H') X.xe s
noncomputable def Wb:TO:=λ_ H Q=>Q none H
noncomputable def aiG(t:TE):TO:=λσ H Q=>t σ H λx H1=>∃i,x=.int i/\Q (some i) H1
def intsAre_of{ns:List Int}:∀{us:List Value},Vals (ns.map V.int) us->IntsAre us ns:=by
 induction ns with
 |nil=>intro us r;rw[zzx]at r;cases r;exact .nil
 |cons n ns ih=>
  intro us r;rw[zf]at r
  cases r with
  |cons r1 r2=>
   obtain⟨t,e⟩:=r1;subst e;exact .cons n t (ih r2)
section
variable{X:Cx}{e:Expr}{te:TE}{lo hi:Option Expr}{tl th:TO}{pos p2:Pos}
def agV:PO X none Wb:=by
 intro pins s σ H Q I h;rw[evalPart_none];exact yc ⟨none,H,I,.none,h⟩
def QT(h:PE X e te):PO X (some e) (aiG te):=by
 intro pins s σ H Q I hw;rw[evalPart_some];refine thn (h pins s σ H _ I hw) λu s1 ⟨x,H1,I1,z,q1⟩=>?_;obtain⟨i,rfl,q⟩:=q1;obtain⟨t,rfl⟩:=z;exact⟨some i,H1,I1,.int i t,q⟩
noncomputable def SlR(X:Cx)(r:V->Option Int->Option Int->Hp->VK->Prop):Prop:=
 ∀(pins:List (Addr×Obj)) (s:Shared) (σ:St) (H:Hp) (x:V) (v vl vu:Value) (lo hi:Option Int) (sl:Addr) (Q:VK),Inv X pins σ H s->RelV x v->s.heap.IsSliceOf sl vl vu .none->IsPart vl lo->IsPart vu hi->r x lo hi H Q->
  ∃T id,typeLookup (.type T) "__getitem__" =pure (some (.builtin id))/\s.TypeIs v T/\wpAny (model X.prog X.w) X.A (getItem v (.ref sl)) (EP X pins σ Q) X.xe s
noncomputable def tSl(r:V->Option Int->Option Int->Hp->VK->Prop)(te:TE)(tl th:TO):TE:=λσ H Q=>te σ H λx H1=>tl σ H1 λl H2=>th σ H2 λu H3=>r x l u H3 Q
def Rz{r:V->Option Int->Option Int->Hp->VK->Prop}(hr:SlR X r)(he:PE X e te)(hl:PO X lo tl)(hu:PO X hi th):PE X (.Subscript e (.Slice lo hi none p2) pos) (tSl r te tl th):=by
 intro pins s σ H Q I h;refine Subscript_ (thn (he pins s σ H _ I h) λv s1 ⟨x,H1,I1,r1,q1⟩=>?_);refine wpAny_Slice (thn (hl pins s1 σ H1 _ I1 q1) λvl s2 ⟨l,H2,I2,pl,q2⟩=>thn (hu pins s2 σ H2 _ I2 q2) λvu z ⟨u,H3,I3,pu,q3⟩=>?_);rw[evalPart_none];refine yc ?_;have I4:Inv X pins σ H3 {z with heap:=z.heap.push {cls:=.type "slice",data:=.fields #[vl,vu,.none]}}:=I3.kept (t':=z.toks) λb ob q=>zb _ q;obtain⟨T,id,hT,ht,hg⟩:=hr pins {z with heap:=z.heap.push {cls:=.type "slice",data:=.fields #[vl,vu,.none]}} σ H3 x v vl vu l u z.heap.objs.size Q I4 r1 (Heap.IsSliceOf.new ..) pl pu q3;show wpAny (model X.prog X.w) X.A (subscriptTail e (.Slice lo hi none p2) v (.ref z.heap.objs.size)) (EP X pins σ Q) X.xe {z with heap:=z.heap.push {cls:=.type "slice",data:=.fields #[vl,vu,.none]}};exact tail_any (ops:=[.ref z.heap.objs.size,v]) ht hT hg (by with_unfolding_all rfl)
noncomputable def Ym(xs:List V)(lo hi:Option Int):List V:=(xs.drop (HT.sIx xs.length 0 lo)).take (HT.sIx xs.length xs.length hi - HT.sIx xs.length 0 lo)
def Pz(xs:List V)(lo hi:Option Int):(Ym xs lo hi).length<=xs.length:=by
 unfold Ym;rw[yD,zzh];omega
end
end L2
namespace L2
open PySem PySem.Spec PyProof.Rows
noncomputable def ixN(n:Nat)(i:Int):Option Nat:=if 0<=i then(if i<n then some i.toNat else none)else if -(n:Int)<=i then some (i+n).toNat else none
noncomputable def atI{α:Type}(xs:List α)(i:Int):Option α:=(ixN xs.length i).bind λj=>xs[j]?
def Wd{n:Nat}{i:Int}{j:Nat}(h:ixN n i=some j):seqIndex? i n=some j/\j<n/\ -(n:Int)<=i/\i<n:=by
 unfold ixN at h;by_cases q:0<=i
 ·rw[zn q]at h
  by_cases h1:i<n
  ·rw[zn h1]at h
   have e:i.toNat=j:=zw h;exact⟨by rw[seqIndex_of q h1,e],by omega,by omega,h1⟩
  ·rw[ze h1]at h;cases h
 ·rw[ze q]at h
  by_cases h1: -(n:Int)<=i
  ·rw[zn h1]at h
   have e:(i+n).toNat=j:=zw h;exact⟨by rw[seqIndex_neg (by omega) h1,e],by omega,h1,by omega⟩
  ·rw[ze h1]at h;cases h
def Ye{α:Type}{xs:List α}{i:Int}{v:α}(h:atI xs i=some v):∃j,seqIndex? i xs.length=some j/\xs[j]? =some v/\j<xs.length/\ -(xs.length:Int)<=i/\i<xs.length:=by
 unfold atI at h
 cases e:ixN xs.length i with
 |none=>rw[e]at h;cases h
 |some j=>
  rw[e]at h;obtain⟨h1,h2,z,q⟩:=Wd e;exact⟨j,h1,h,h2,z,q⟩
def Cz{α:Type}{xs:List α}{j:Nat}{v:α}(h:xs[j]? =some v):atI xs (j:Int)=some v:=by
 have q:j<xs.length:=(zo.mp h).1
 have e:ixN xs.length (j:Int)=some j:=by
  unfold ixN;rw[zn (by omega),zn (by omega)];simp
 unfold atI;rw[e];exact h
def Yx{α:Type}(xs:List α)(v:α):atI (xs++[v]) (-1)=some v:=by
 have q:(xs++[v]).length=xs.length+1:=by simp
 have e:ixN (xs++[v]).length (-1)=some xs.length:=by
  unfold ixN;rw[q,ze (by decide),zn (by omega)];congr 1;omega
 unfold atI;rw[e];show(xs++[v])[xs.length]? =some v;simp
noncomputable def agW(b:Expr):Prop:=∀o i,subscripted b false o i=operate [o,i] (getItem o i)
noncomputable def IxR(X:Cx)(r:R2):Prop:=
 ∀(value slice:Expr) (pins:List (Addr×Obj)) (s:Shared) (σ:St) (H:Hp) (x y:V) (v u:Value) (Q:VK),Inv X pins σ H s->RelV x v->RelV y u->r x y H Q->
  subscripted slice false v u=operate [v,u] (getItem v u)->wpAny (model X.prog X.w) X.A (subscriptTail value slice v u) (EP X pins σ Q) X.xe s
noncomputable def MtR(X:Cx)(id:String)(r:V->List V->Hp->VK->Prop):Prop:=
 ∀(pins:List (Addr×Obj)) (s:Shared) (σ:St) (H:Hp) (x:V) (xs:List V) (v:Value) (us:List Value) (Q:VK),Inv X pins σ H s->RelV x v->Vals xs us->r x xs H Q->
  wpAny (model X.prog X.w) X.A (call (.builtin id) (v::us)) (EP X pins σ Q) X.xe s
section
variable{X:Cx}{a b:Expr}{ta tb:TE}{pos:Pos}
def jm{r:R2}(z:IxR X r)(ha:PE X a ta)(hb:PE X b tb)(hs:agW b):PE X (.Subscript a b pos) (tOp r ta tb):=by
 intro pins s σ H Q I h;exact Subscript_ (ajM ha hb I h λv u s2 x y H2 I2 rx ry q=>z a b pins s2 σ H2 x y v u Q I2 rx ry q (hs _ _))
noncomputable def ajO(K:Fg_):R2:=λx y H Q=>∃p xs i v,x=.ref p/\y=.int i/\SqL K H p xs/\atI xs i=some v/\Q v H
noncomputable def agH(K:Fg_):R2:=λx y H Q=>∃p xs i v,x=.ref p/\y=.int i/\SqT K H p xs/\atI xs i=some v/\Q v H
def ahx:IxR X (ajO X.K):=by
 intro value ac pins s σ H x y v u Q I rx ry h hs;obtain⟨p,xs,i,z,rfl,rfl,hq,he,q⟩:=h;cases rx;obtain⟨t,rfl⟩:=ry;obtain⟨its,r,pl,hz⟩:=I.list hq;obtain⟨j,h1,h2,h3,h4,h5⟩:=Ye he;obtain⟨w,ew,ab⟩:=r.get h2;have hl:=r.length;have hn:=MF;have aa:EP X pins σ Q w s:=⟨z,H,I,ab,q⟩;by_cases h0:0<=i
 ·have hj:i.toNat=j:=by
   rw[seqIndex_of h0 h5]at h1;exact zw h1
  exact item_listR pl.isList h0 (by omega) (by rw[hj];simpa using ew) aa hs
 ·have hj:(i+(its.toArray.size:Int)).toNat=j:=by
   rw[seqIndex_neg (by omega) h4]at h1;rw[zk,<-hl];exact zw h1
  exact subscriptTail_builtinR (x:=w) pl.isList.typeIs slot_list_getitem.lookup
   (wpAny_getItem_list_neg (Q:=λr s'=>r=w/\EP X pins σ Q r s') pl.isList (by omega) (by rw[zk]<;>omega) (by omega) (by rw[hj];simpa using ew) ⟨rfl,aa⟩) hs
def ajf:IxR X (agH X.K):=by
 intro value ac pins s σ H x y v u Q I rx ry h hs;obtain⟨p,xs,i,z,rfl,rfl,hq,he,q⟩:=h;cases rx;obtain⟨t,rfl⟩:=ry;obtain⟨its,r,pl,hz⟩:=I.tuple hq;obtain⟨j,h1,h2,h3,h4,h5⟩:=Ye he;obtain⟨w,ew,aa⟩:=r.get h2;have hl:=r.length;have hn:=MF;have ab:EP X pins σ Q w s:=⟨z,H,I,aa,q⟩
 exact subscriptTail_builtinR (x:=w) pl.typeIs slot_tuple_getitem.lookup
  (getItem_tuple (j:=j) (Q:=λr s'=>r=w/\EP X pins σ Q r s') pl (by omega) (by omega) (by rw[zk,<-hl];exact h1) (by simpa using ew) ⟨rfl,ab⟩) hs
def Tz(its:List Value)(n j:Nat)(u:Value):Obj.mapSeq (·.setIfInBounds j u) {cls:=.type "list",data:=.seq its.toArray n}={cls:=.type "list",data:=.seq (its.set j u).toArray n}:=by
 simp[Obj.mapSeq]
theorem Inv.lst{pins:List (Addr×Obj)}{σ:St}{H:Hp}{s:Shared}{p:Addr}{xs:List V}(I:Inv X pins σ H s)(h:H p=some (.lst xs)):
  ∃(its:List Value)(n:Nat),Vals xs its/\s.heap.get? p=some {cls:=.type "list",data:=.seq its.toArray n}/\xs.length<=sizeLine:=by
 obtain⟨z,its,n,r,e⟩:=I.hok p _ h;exact⟨its,n,r,e,z⟩
def Inv.lstUpd{pins:List (Addr×Obj)}{σ:St}{H:Hp}{s:Shared}{p:Addr}{xs ys:List V}{its its':List Value}{n z:Nat}{f:Obj->Obj}(I:Inv X pins σ H s)(h:H p=some (.lst xs))
  (ho:s.heap.get? p=some {cls:=.type "list",data:=.seq its.toArray n}) (hf:f {cls:=.type "list",data:=.seq its.toArray n}={cls:=.type "list",data:=.seq its'.toArray z}) (r:Vals ys its') (hz:ys.length<=sizeLine) (t:Nat):
  Inv X pins σ (upd H p (.lst ys)) {s with heap:=s.heap.update p f,toks:=t}:=by
 have e:(s.heap.update p f).get? p=some {cls:=.type "list",data:=.seq its'.toArray z}:=by
  rw[zz6 f ho (by rw[hf]<;>rfl),hf]
 refine I.write (x:=p) (e:=p) (by rw[h];trivial) (.inl rfl) (λb u hb q=>(y0 _ _ (Ne.symm hb)).trans q) ⟨_,e⟩ ?_;exact⟨hz,its',z,r,e⟩
noncomputable def akh:V->V->V->Hp->(Hp->Prop)->Prop:=λo i v H Q=>∃p xs k j,o=.ref p/\i=.int k/\H p=some (.lst xs)/\ixN xs.length k=some j/\Q (upd H p (.lst (xs.set j v)))
def set_list:akC X akh:=by
 intro pins s σ H o i v ov iv u Q I ro ri rv h;obtain⟨p,xs,k,j,rfl,rfl,hp,hj,q⟩:=h;cases ro;obtain⟨t,rfl⟩:=ri;obtain⟨its,n,r,ho,hz⟩:=I.lst hp;obtain⟨h1,h2,h3,h4⟩:=Wd hj;have z:=r.length;have hn:=MF
 have I':Inv X pins σ (upd H p (.lst (xs.set j v))) {s with heap:=s.heap.update p (Obj.mapSeq (·.setIfInBounds j u))}:=
  I.lstUpd hp ho (Tz its n j u) (r.set rv j) (by rw[List.length_set];exact hz) s.toks
 by_cases h0:0<=k
 ·have hk:k.toNat=j:=by
   rw[seqIndex_of h0 h4]at h1;exact zw h1
  exact PySem.W.ki_setAt ho h0 (by omega) (by rw[zk,<-z];exact h4) (by rw[hk];exact⟨_,I',q⟩)
 ·have hk:(k+(its.toArray.size:Int)).toNat=j:=by
   rw[seqIndex_neg (by omega) h3]at h1;rw[zk,<-z];exact zw h1
  exact PySem.W.ki_setBack ho (by omega) (by rw[zk,<-z];exact h3) (by omega) (by rw[hk];exact⟨_,I',q⟩)
def NK(lo hi:Option Int)(n:Nat):(sliceBounds lo hi none n).1=((HT.sIx n 0 lo:Nat):Int)/\(sliceBounds lo hi none n).2.1=((HT.sIx n n hi:Nat):Int)/\(sliceBounds lo hi none n).2.2=1:=by
 refine⟨?_,?_,rfl⟩
 ·cases lo with
  |none=>simp[sliceBounds,HT.sIx]
  |some i=>
   simp only[sliceBounds,HT.sIx,Option.getD_none,show(1:Int)>0 by decide,if_true];by_cases h:i<0
   ·simp only[h,if_true]<;>omega
   ·simp only[h,if_false]<;>omega
 ·cases hi with
  |none=>simp[sliceBounds,HT.sIx]
  |some i=>
   simp only[sliceBounds,HT.sIx,Option.getD_none,show(1:Int)>0 by decide,if_true];by_cases h:i<0
   ·simp only[h,if_true]<;>omega
   ·simp only[h,if_false]<;>omega
def Lj(its:List Value)(lo hi:Option Int):slicePick its.toArray lo hi none=((its.drop (HT.sIx its.length 0 lo)).take (HT.sIx its.length its.length hi - HT.sIx its.length 0 lo)).toArray:=by
 obtain⟨h1,h2,q⟩:=NK lo hi its.toArray.size;unfold slicePick;rw[h1,h2,q];simp only[sliceRange_one,pick_run,zk]<;>rfl
noncomputable def ajF(K:Fg_):V->Option Int->Option Int->Hp->VK->Prop:=λx lo hi H Q=>∃a xs,x=.ref a/\SqL K H a xs/\∀p,H p=none->Q (.ref p) (upd H p (.lst (Ym xs lo hi)))
def ahg:SlR X (ajF X.K):=by
 intro pins s σ H x v vl vu lo hi sl Q I rx hs pl pu h;obtain⟨a,xs,rfl,hx,q⟩:=h;cases rx;obtain⟨its,r,ht,hz⟩:=I.list hx;have z:=r.length;refine⟨"list",_,slot_list_getitem.lookup,ht.isList.typeIs,?_⟩;refine wpAny_getItem_list_slice ht.isList hs pl pu .none (by simp) ?_ (by rw[zk]<;>omega);rw[Lj,<-z];refine⟨.ref s.heap.objs.size,_,I.laid (t':=s.toks) (o:=.lst (Ym xs lo hi)) (λb ob q=>zb _ q) (zj _) ?_,rfl,q _ (I.hok.fresh (zj _))⟩;exact⟨yw (Pz xs lo hi) hz,_,0,(r.drop (HT.sIx xs.length 0 lo)).take (HT.sIx xs.length xs.length hi - HT.sIx xs.length 0 lo),yb _ rfl⟩
def Og:mR X (.builtin "len") (λxs H Q=>∃p ys,xs=[.ref p]/\(SqL X.K H p ys\/SqT X.K H p ys)/\Q (.int ys.length) H):=by
 intro pins s σ H xs us Q I r h;obtain⟨p,ys,rfl,hq,q⟩:=h;obtain⟨u,rfl,rx⟩:=vals1 r;cases rx;have hn:=MF;rcases hq with hq|hq
 ·obtain⟨its,r',pl,hz⟩:=I.list hq
  have z:=r'.length;exact Calls.call_len_list pl.isList (by simp only[zk]<;>omega) ⟨.int ys.length,H,I.tok _,⟨s.toks+1,by rw[zk,z]⟩,q⟩
 ·obtain⟨its,r',pl,hz⟩:=I.tuple hq
  have z:=r'.length;exact len_tuple pl (by simp only[zk]<;>omega) ⟨.int ys.length,H,I.tok _,⟨s.toks+1,by rw[zk,z]⟩,q⟩
def Ek:mR X (.builtin "len") (λxs H Q=>∃z,xs=[.str z]/\z.length<=sizeLine/\Q (.int z.length) H):=by
 intro pins s σ H xs us Q I r h;obtain⟨z,rfl,hz,q⟩:=h;obtain⟨u,rfl,t,rfl⟩:=vals1 r;have hn:=MF;exact len_str (by omega) ⟨.int z.length,H,I.tok _,⟨_,rfl⟩,q⟩
def Mm:mR X (.type "list") (λxs H Q=>∃p ys,xs=[.ref p]/\(SqL X.K H p ys\/SqT X.K H p ys)/\∀l,H l=none->Q (.ref l) (upd H l (.lst ys))):=by
 intro pins s σ H xs us Q I r h;obtain⟨p,ys,rfl,hq,q⟩:=h;obtain⟨u,rfl,rx⟩:=vals1 r;cases rx
 have aa:∀(its:List Value),Vals ys its->ys.length<=sizeLine->∀(h':Heap)(c':Nat),(∀b o',s.heap.get? b=some o'->h'.get? b=some o')->
   h'.get? s.heap.objs.size=some {cls:=.type "list",dict:=none,data:=.seq its.toArray c',slots:= #[]}->EP X pins σ Q (.ref s.heap.objs.size) {s with heap:=h'}:=λits z hz h' c' kp e=>
  ⟨.ref s.heap.objs.size,_,I.laid (t':=s.toks) kp (zj _) (show lC X.prog X.w _ h' _ (.lst ys)from⟨hz,its,c',z,e⟩),rfl,q _ (I.hok.fresh (zj _))⟩
 rcases hq with hq|hq
 ·obtain⟨its,z,pl,hz⟩:=I.list hq
  have ab:=z.length;obtain⟨o,ho,hc,n,hd⟩:=pl.isList;exact call_list_seq p (.inl rfl) ho hc hd (λh' c' kp e=>aa its z hz h' c' kp e) (by simp only[zk]<;>omega)
 ·obtain⟨its,z,pl,hz⟩:=I.tuple hq
  have ab:=z.length;obtain⟨o,ho,hc,n,hd⟩:=pl;exact call_list_seq p (.inr rfl) ho hc hd (λh' c' kp e=>aa its z hz h' c' kp e) (by simp only[zk]<;>omega)
noncomputable def tyV(K:Fg_)(T:String)(x:V)(H:Hp):Prop:=match x with
 |.str _=>T= "str"
 |.int _=>T= "int"
 | .ref p=>(T= "list" /\∃xs,SqL K H p xs)\/(T= "tuple" /\∃o,K.lookup p=some o/\o.cls=.type "tuple" /\o.dict=none)\/
   (T= "dict" /\((∃kvs,H p=some (.dK kvs))\/∃kvs,H p=some (.dT kvs)))\/(T= "set" /\∃S n,H p=some (.set S n))
 |_=>False
def agB{pins:List (Addr×Obj)}{σ:St}{H:Hp}{s:Shared}{T:String}{x:V}{v:Value}(I:Inv X pins σ H s)(r:RelV x v)(ty:tyV X.K T x H):
  s.TypeIs v T/\∀a,v=.ref a->∃ob,s.heap.get? a=some ob/\ob.dict=none:=by
 cases x with
 |str z=>
  obtain⟨t,rfl⟩:=r;cases (show T= "str" from ty);exact⟨typeIs_str s z t,λ_ e=>nomatch e⟩
 |int i=>
  obtain⟨t,rfl⟩:=r;cases (show T= "int" from ty);exact⟨typeIs_int s i t,λ_ e=>nomatch e⟩
 |ref p=>
  cases r;rcases ty with⟨rfl,xs,hq⟩|⟨rfl,o,q,hc,hd⟩|⟨rfl,q⟩|⟨rfl,S,n,q⟩
  ·obtain⟨its,_,pl,_⟩:=I.list hq
   refine⟨pl.isList.typeIs,λa e=>?_⟩;cases e;obtain⟨o,n,e,c,hd,_⟩:=pl;exact⟨o,e,hd⟩
  ·refine⟨⟨o,I.kIn p o q,hc⟩,λa e=>?_⟩
   cases e;exact⟨o,I.kIn _ o q,hd⟩
  ·have z:∃o,s.heap.get? p=some o/\o.ExactDict:=by
    rcases q with⟨kvs,q⟩|⟨kvs,q⟩
    ·obtain⟨_,_,_,_,o,_,_,e,ex,_⟩:=I.hok p _ q
     exact⟨o,e,ex⟩
    ·obtain⟨_,_,_,_,o,_,_,e,ex,_⟩:=I.hok p _ q
     exact⟨o,e,ex⟩
   obtain⟨o,e,ex⟩:=z;refine⟨⟨o,e,ex.1⟩,λa e2=>?_⟩;cases e2;exact⟨o,e,ex.2.1⟩
  ·obtain⟨o,_,_,_,e,ex,_⟩:=I.hok p _ q
   refine⟨⟨o,e,ex.1⟩,λa e2=>?_⟩;cases e2;exact⟨o,e,ex.2.1⟩
 |_=>exact False.elim ty
noncomputable def ajN(K:Fg_)(T:String)(r:V->List V->Hp->VK->Prop)(to:TE):TE:=λσ H Q=>to σ H λx H1=>tyV K T x H1/\r x [] H1 Q
noncomputable def tBM(K:Fg_)(T:String)(r:V->List V->Hp->VK->Prop)(to:TE)(t:TA):TE:=λσ H Q=>to σ H λx H1=>tyV K T x H1/\t σ H1 λxs H2=>r x xs H2 Q
variable{o e:Expr}{es:List Expr}{to:TE}{t:TA}{name:Str}{apos cpos:Pos}{T id:String}{r:V->List V->Hp->VK->Prop}
def ahX(pa:PlainAttrs T)(slot:Slot T name id)(z:typeOf (.builtin id)=pure (.type "method_descriptor")) (hm:MtR X id r) (ho:PE X o to)
  (q:attributeBase o name X.env (eval o X.env)=eval o X.env:=by rfl) (hline:(apos.endLine==cpos.line)=true:=by rfl):PE X (.Call (.Attribute o name apos) [] [] cpos) (ajN X.K T r to):=by
 intro pins s σ H Q I h;refine wpAny_Call_method0_late q hline (thn (ho pins s σ H _ I h) λv s1 ⟨x,H1,I1,r1,ty,q1⟩=>?_);obtain⟨h1,h2⟩:=agB I1 r1 ty;exact⟨T,id,pa,slot,z,h1,h2,Calls.callWith_builtin rfl (PySem.evalArgs_none (hm pins s1 σ H1 x [] v [] Q I1 r1 .nil q1))⟩
def ajS(pa:PlainAttrs T)(slot:Slot T name id)(z:typeOf (.builtin id)=pure (.type "method_descriptor")) (hm:MtR X id r) (ho:PE X o to) (ha:PA X (e::es) t)
  (q:attributeBase o name X.env (eval o X.env)=eval o X.env:=by rfl)
  (hfew:((backTo cpos (starEach (e::es) X.env)).all (λx=>!x.1) && (backToKw cpos (keywordEach [] X.env)).all (λx=>x.1.isSome)
   && decide ((e::es).length+([]:List Keyword).length+(if([]:List Keyword).isEmpty then 0 else 1)<30))=true:=by rfl)
  (hline:(apos.endLine==cpos.line)=true:=by rfl) (hs:starEach (e::es) X.env=(false,eval e X.env)::starEach es X.env:=by rfl) (hplain:(backTo cpos (starEach es X.env)).any (·.1)=false:=by rfl):
  PE X (.Call (.Attribute o name apos) (e::es) [] cpos) (tBM X.K T r to t):=by
 intro pins s σ H Q I h;refine wpAny_Call_method_late q hfew hline rfl (thn (ho pins s σ H _ I h) λv s1 ⟨x,H1,I1,r1,ty,q1⟩=>?_);obtain⟨h1,h2⟩:=agB I1 r1 ty;refine⟨T,id,pa,slot,z,h1,h2,?_⟩;have hA:=ha cpos pins s1 σ H1 _ I1 q1;rw[hs]at hA⊢;refine Calls.callWith_builtin (by show(false||(backTo cpos (starEach es X.env)).any (·.1))=false;rw[hplain]<;>rfl) (Calls.evalArgs_plain ?_);exact thn hA λus s2 ⟨vs,H2,I2,r2,q2⟩=>hm pins s2 σ H2 x vs v us Q I2 r1 r2 q2
end
end L2
namespace L2
open PySem PySem.Spec PyProof.Rows
noncomputable def MtM(X:Cx)(id:String)(r:V->List V->Hp->VK->Prop):Prop:=
 ∀(pins:List (Addr×Obj)) (s:Shared) (σ:St) (H:Hp) (x:V) (xs:List V) (v:Value) (us:List Value) (Q:VK),Inv X pins σ H s->RelV x v->Vals xs us->r x xs H Q->
  wpAny (model X.prog X.w) X.A (call (.builtin id) (v::us)) (EP X pins σ Q) X.xe s
def Vals.one{x:V}{us:List Value}(h:Vals [x] us):∃u,us=[u]/\RelV x u:=by
 cases h with|cons r q=>cases q;exact⟨_,rfl,r⟩
def Vals.two{x y:V}{us:List Value}(h:Vals [x,y] us):∃u v,us=[u,v]/\RelV x u/\RelV y v:=by
 cases h with|cons r q=>cases q with|cons r2 q2=>cases q2;exact⟨_,_,rfl,r,r2⟩
def Vals.zero:∀{us:List Value},Vals [] us->us=[]
 |_,.nil=>rfl
theorem Vals.dropLast{xs:List V}{us:List Value}(h:Vals xs us):Vals xs.dropLast us.dropLast:=by
 induction h with
 |nil=>exact .nil
 |cons r t ih=>
  cases t with
  |nil=>exact .nil
  |cons q t'=>exact .cons r ih
def TY{α:Type}(l:List α):l.eraseIdx (l.length - 1)=l.dropLast:=by
 induction l with
 |nil=>rfl
 |cons a r ih=>
  cases r with
  |nil=>rfl
  |cons b r=>
   have e:(a::b::r).length - 1=((b::r).length - 1)+1:=by
    have h1:(a::b::r).length=r.length+2:=rfl;have h2:(b::r).length=r.length+1:=rfl;omega
   rw[e,List.eraseIdx_cons_succ,ih]
   all_goals rfl
section
variable{X:Cx}{pins:List (Addr×Obj)}{σ:St}{H:Hp}{s:Shared}{l b:Addr}{xs ys zs:List V}
def Inv.lset{its its':List Value}{n:Nat}{f:Array Value->Array Value}{t':Nat}(I:Inv X pins σ H s)(z:H l=some (.lst xs))
  (e:s.heap.get? l=some {cls:=.type "list",data:=.seq its.toArray n}) (hf:f its.toArray=its'.toArray) (hv:Vals ys its') (hz:ys.length<=sizeLine):
  Inv X pins σ (upd H l (.lst ys)) {s with heap:=s.heap.update l (Obj.mapSeq f),toks:=t'}:=by
 have q:=PySem.IsL.update e f;rw[hf]at q;refine I.write (x:=l) (e:=l) (by rw[z];exact trivial) (.inl rfl) (λb' u hb hu=>(y0 s.heap (Obj.mapSeq f) (Ne.symm hb)).trans hu) ⟨_,q⟩ ?_;exact⟨hz,its',_,hv,q⟩
def Inv.lnew{its:List Value}{t':Nat}(I:Inv X pins σ H s)(hv:Vals ys its)(z:ys.length<=sizeLine):
  Inv X pins σ (upd H s.heap.objs.size (.lst ys)) {s with heap:=s.heap.push {cls:=.type "list",data:=.seq its.toArray},toks:=t'}:=
 I.laid (λ_ _ q=>zb _ q) (zj _) ⟨z,its,0,hv,yb _ rfl⟩
theorem Inv.fresh(I:Inv X pins σ H s):H s.heap.objs.size=none:=I.hok.fresh (zj _)
def Inv.lstM(I:Inv X pins σ H s)(q:H l=some (.lst xs)):xs.length<=sizeLine/\∃(its:List Value)(n:Nat),Vals xs its/\xs.length=its.length/\s.heap.get? l=some {cls:=.type "list",data:=.seq its.toArray n}:=by
 obtain⟨z,its,n,r,e⟩:=I.hok l _ q;exact⟨z,its,n,r,r.length,e⟩
def YW{n:Nat}(h:n<=sizeLine):Builtin.List.listTooLong n=false:=by
 unfold Builtin.List.listTooLong;exact ym (by omega)
end
section
variable{X:Cx}
noncomputable def Lx:V->List V->Hp->VK->Prop:=λx vs H Q=>∃l xs y,x=.ref l/\vs=[y]/\H l=some (.lst xs)/\xs.length<sizeLine/\Q .non (upd H l (.lst (xs++[y])))
def mH:MtM X "list.append" Lx:=by
 intro pins s σ H x vs v us Q I rx rv h;obtain⟨l,xs,y,rfl,rfl,hH,hz,q⟩:=h;cases rx;obtain⟨u,rfl,ru⟩:=rv.one;obtain⟨z,its,n,r,hl,e⟩:=I.lstM hH;refine yyJ F.slot_list_append ⟨_,e,rfl⟩ F.entry_list_append (F.args_list_append_2 _ _) (PySem.list_append l its.toArray n u (by rw[zk];omega)) ⟨e,?_⟩;refine⟨.non,_,I.lset (its':=its++[u]) hH e (by simp) (r.append (.cons ru .nil)) ?_,rfl,q⟩;rw[yd,zza];omega
noncomputable def ahk:V->List V->Hp->VK->Prop:=λx vs H Q=>∃l b xs zs,x=.ref l/\vs=[.ref b]/\H l=some (.lst xs)/\H b=some (.lst zs)/\xs.length+zs.length<=sizeLine/\Q .non (upd H l (.lst (xs++zs)))
def XF:MtM X "list.extend" ahk:=by
 intro pins s σ H x vs v us Q I rx rv h;obtain⟨l,b,xs,zs,rfl,rfl,hH,hB,hz,q⟩:=h;cases rx;obtain⟨u,rfl,ru⟩:=rv.one;cases ru;obtain⟨z,its,n,r,hl,e⟩:=I.lstM hH;obtain⟨z2,aa,n2,r2,ac,e2⟩:=I.lstM hB;have hsz:its.toArray.size+aa.toArray.size<=sizeLine:=by rw[zk,zk];omega
 have ab:¬(!its.toArray.isEmpty && Builtin.List.listTooLong (its.toArray.size+aa.toArray.size))=true:=by
  rw[YW hsz,yyn];exact yp
 refine yyJ F.slot_list_extend ⟨_,e,rfl⟩ F.entry_list_extend (F.args_list_extend_2 _ _)
  (AutoSeq1.list_extend_list_list_0 l its.toArray n b aa.toArray n2 ab (by rw[zk];omega) (by omega)) ⟨e,e2,?_⟩
 refine⟨.non,_,I.lset (its':=its++aa) hH e (by simp) (r.append r2) ?_,rfl,q⟩;rw[yd];omega
noncomputable def akF:V->List V->Hp->VK->Prop:=λx vs H Q=>∃l xs y,x=.ref l/\vs=[]/\H l=some (.lst xs)/\xs[xs.length - 1]? =some y/\Q y (upd H l (.lst xs.dropLast))
def aiv:MtM X "list.pop" akF:=by
 intro pins s σ H x vs v us Q I rx rv h;obtain⟨l,xs,y,rfl,rfl,hH,hy,q⟩:=h;cases rx;have aa:=rv.zero;subst aa;obtain⟨z,its,n,r,hl,e⟩:=I.lstM hH;obtain⟨u,hu,ru⟩:=r.get hy
 have hy':its.toArray[its.toArray.size - 1]? =some u:=by
  show its.toArray[its.length - 1]? =some u;rw[<-zzk,<-hl];exact hu
 refine yyJ F.slot_list_pop ⟨_,e,rfl⟩ F.entry_list_pop (F.args_list_pop_1 _) (MeetsSeq.list_pop_last l its.toArray n u hy' (by rw[zk];omega)) ⟨e,?_⟩;refine⟨y,_,I.lset (its':=its.dropLast) hH e ?_ r.dropLast ?_,ru,q⟩
 ·show its.toArray.eraseIdxIfInBounds (its.toArray.size - 1)=its.dropLast.toArray
  rw[zk,List.eraseIdxIfInBounds_toArray,TY]
 ·rw[List.length_dropLast]
  omega
noncomputable def akc:R2:=λx y H Q=>∃l b xs zs,x=.ref l/\y=.ref b/\H l=some (.lst xs)/\H b=some (.lst zs)/\xs.length+zs.length<=sizeLine/\∀p,H p=none->Q (.ref p) (upd H p (.lst (xs++zs)))
def VL:OpR X (binaryOp .Add) akc:=by
 intro pins s σ H x y v u Q I rx ry h;obtain⟨l,b,xs,zs,rfl,rfl,hH,hB,hz,q⟩:=h;cases rx;cases ry;obtain⟨z,its,n,r,hl,e⟩:=I.lstM hH;obtain⟨z2,aa,n2,r2,ab,e2⟩:=I.lstM hB;refine PySem.P.add_list e e2 ?_ (by rw[zk,zk];omega);have ea:its.toArray++aa.toArray=(its++aa).toArray:=by simp
 rw[ea];exact⟨.ref _,_,I.lnew (t':=s.toks) (r.append r2) (by rw[yd];omega),rfl,q _ I.fresh⟩
end
section
variable{prog:Program}{w:World}{A:Around}{E:Value->Shared->Prop}{s:Shared}
set_option maxRecDepth 100000 in
end
end L2
namespace Att
open PySem PySem.W PySem.Calls PyProof.Rows
def GX{P:Params}{h:Heap}:∀(ns:List Int)(vs:List Value),WellAll P h vs (ns.map WData.int)->IntsAre vs ns:=by
 intro ns
 induction ns with
 |nil=>
  intro vs w;rw[zzx]at w;cases w;exact .nil
 |cons n ns ih=>
  intro vs w;rw[zf]at w
  cases w with
  |cons a b=>
   cases a;exact .cons _ _ (ih _ b)
def WN{l:OpenLaw}{n:Nat}(hn:l.most=some n){P:Params}{h:Heap}{args:List WData}{aa:List Value}
  (z:l.row.toRowW.claim.pre args=true) (ac:WellAll P h aa args):
  ∃a vs ns,aa=[Value.ref a]/\args=[WData.list (ns.map WData.int)]/\h.get? a=some {cls:=.type "list",data:=.seq vs.toArray}/\IntsAre vs ns/\ns.length<=n:=by
 have ad:WShape.hasAll [] args [.list .int]=true:=(pre_splitW z).1;have hc:l.pre.holds [] {args:=args}=true:=(pre_splitW z).2;obtain⟨d,r,rfl,h1,h2⟩:=hasAllW_cons ad;obtain rfl:=hasAllW_nil h2;obtain⟨xs,rfl,h3⟩:=hasW_list h1;obtain⟨ns,rfl⟩:=items_int h3
 have ab:ns.length<=n:=by
  unfold OpenLaw.pre at hc
  have h4:(WTm.not (.lt (.lit (.int (n:Int))) (.len (.arg 0)))).holds [] {args:=[.list (ns.map .int)]}=true:=by
   have h4:=(holds_andW hc).1;rw[hn]at h4;exact h4
  have h5:=condW_of h4 (w_not (w_lt w_lit (w_len_list (w_arg rfl))));rw[za]at h5;refine Nat.le_of_not_lt λq=>?_;have q':(n:Int)<((ns.length:Nat):Int):=by omega
  first
   |(rw[yf q']at h5;exact absurd h5 (by decide))
   |(simp at h5;omega)
 cases ac with
 |cons w1 w2=>
  cases w2
  cases w1 with
  |list ho hall=>exact⟨_,_,ns,rfl,rfl,ho,GX ns _ hall,ab⟩
def Xw(l:OpenLaw)(args:List WData):l.row.toRowW.claim.post args (.bool true) args=true:=
 postW_of (r:=l.row.toRowW) (X:=(true==true))
  (show WShape.has [] (.bool true) .bool=true by first|rfl|decide|simp[WShape.has,WShape.arms,WShape.armsAll])
  (show(WTm.eq .res (.lit (.bool true))).value [] {args:=args,res:=some (.bool true),after:=args}=some (.bool (true==true))from w_eq_bool (w_res rfl) w_lit) rfl
def attach_call{l:OpenLaw}{n:Nat}{q:Program}{z:List Str}{XP:(Str->Option Value)->Heap->Prop}{YP:World->Heap->Prop}{d:DefRec}
  (hn:l.most=some n) (aj:d.params.defaults=[])
  (ac:∀(w:World)(s₀ s₁:Shared)(mg mb:Str->Option Value)(fa:Addr)(o:Obj)(pm cd ab:Value)(a:Addr)(vs:List Value)(ns:List Int),
   Ground q z [] XP w s₀ mg mb s₁.heap->YP w s₁.heap->
   s₁.heap.get? fa=some o->o.data=.func (docDef d.name d.params d.body d.scope pm cd ab)->s₁.heap.CodeRec cd d.name->mg d.name=some (.ref fa)->
   s₁.heap.get? a=some {cls:=.type "list",data:=.seq vs.toArray}->IntsAre vs ns->ns.length<=n->s₁.gens= #[]->
   codeAny (model l.prog w) callerA (.call (.ref fa) ⟨[.ref a],[]⟩) (λr s'=>r=.ok (.ret (.bool true))/\OldK s₁.heap s'.heap/\s'.os=s₁.os/\AllBare s'.gens) s₁):
  WalkO q z XP YP l.row.toRowW d [] (λf vs=>PySem.call f vs):=by
 intro w s₀ s₁ mg mb G Y fa o pm cd ab dV kV ho hd ag hD ah hg args al as af ak am ai an;obtain rfl:dV=.none:=Dflts.none hD aj;obtain rfl:kV=.none:=Dflts.noKw hD;obtain⟨a,vs,ns,rfl,rfl,ad,aa,ae⟩:=WN hn af ai;refine enter_call (codeAny_mono (ac w s₀ s₁ mg mb fa o pm cd ab a vs ns G Y ho (fd_plain hd) ag ah ad aa ae hg) λr s' hq=>?_);obtain⟨rfl,h2,h3,h4⟩:=hq;exact⟨.inl ⟨.bool true,.bool true,[],rfl,λ_=>rfl,.bool true,Xw l _,λ_=>⟨List.Pairwise.nil,λ_ hm=>(nomatch hm)⟩⟩,h2,h3,h4⟩
end Att
namespace L2
open PySem PySem.Spec PyProof.Rows
theorem wz:∀{vs:List Value}{ns:List Int},IntsAre vs ns->Vals (ns.map V.int) vs
 |_,_,.nil=> .nil
 |_,_,.cons n t h=> .cons ⟨t,rfl⟩ (wz h)
noncomputable def Only(H:Hp):Prop:=∀b,H b=none\/∃o xs,H b=some (.frz o (.lst xs))
def ZM{P:Program}{w:World}{K:Fg_}{mg mb:Str->Option Value}{CX:CXT}{k:Nat}{fa a:Addr}{fd:FuncData}{x:Str}{sp:Sp}{s₁:Shared}{vs:List Value}{ns:List Int}
  (KX:K.In s₁.heap) (ad:s₁.heap.Ns mainGlobals mg) (hb:s₁.heap.Ns builtinsNs mb) (ai:∀x:Str,x≠ "__name__" ->mb x=bootBuiltins x) (af:s₁.heap.NoLimit) (hg:s₁.gens= #[])
  (ha:s₁.heap.get? a=some {cls:=.type "list",data:=.seq vs.toArray}) (hi:IntsAre vs ns) (hl:ns.length<=sizeLine) (hr:qM k callerA)
  (F:∀base:Heap,K.In base->base.Ns mainGlobals mg->jE P w K mg base CX k fa fd [x] sp) (hbind:∀(s:Shared)(u:Value),BindsTo s fd ⟨[u],[]⟩ [(x,u)])
  (hsp:∀H:Hp,Only H->SqL K H a (ns.map V.int)->sp [.ref a] H (λv _=>v=.bl true) λ_ _ _=>False)
  (hCX:∀H e s',CX [] H s₁ (λ_ _ _=>False) e s'->False):
  codeAny (model P w) callerA (.call (.ref fa) ⟨[.ref a],[]⟩) (λr s'=>r=.ok (.ret (.bool true))/\OldK s₁.heap s'.heap/\s'.os=s₁.os/\AllBare s'.gens) s₁:=by
 have rv:=wz hi;have ag:=hi.length
 have ac:∀H:Hp,Only H->SqL K H a (ns.map V.int)->HOk P w H s₁.heap->(∀b,H b≠none->b=a)->(H a≠none->K.lookup a=none)->
   codeAny (model P w) callerA (.call (.ref fa) ⟨[.ref a],[]⟩) (λr s'=>r=.ok (.ret (.bool true))/\OldK s₁.heap s'.heap/\s'.os=s₁.os/\AllBare s'.gens) s₁:=by
  intro H hO hS hok hA hK;have aa:∀{b:Addr}{o:Obj},s₁.heap.get? b=some o->H b=none->(YF s₁.heap H).get? b=some o:=λe n=>Zv e n
  have aj:∀{b:Addr}{o:Obj}{es:Array DictEntry}{ep:Nat},s₁.heap.get? b=some o->o.data=.dict es ep->H b=none:=fun{b o es ep} e d=>by
   cases q:H b with
   |none=>rfl
   |some u=>
    have e':b=a:=hA b (by rw[q];simp);subst e';rw[ha]at e;cases e;have d':Data.seq vs.toArray _=Data.dict es ep:=d;cases d'
  have ab:∀{b:Addr}{m:Str->Option Value},s₁.heap.Ns b m->(YF s₁.heap H).Ns b m:=fun{b m}⟨o,es,ep,e,d,r⟩=>⟨o,es,ep,aa e (aj e d),d,r⟩
  have ae:K.In (YF s₁.heap H):=λb o e=>aa (KX b o e) (by
   cases q:H b with
   |none=>rfl
   |some u=>
    have e':b=a:=hA b (by rw[q];simp);subst e';rw[hK (by rw[q];simp)]at e;cases e)
  have hM:Mod K mg (YF s₁.heap H):=⟨ae,ab ad,⟨mb,ab hb,ai⟩,let⟨mc,h1,h2⟩:=af;⟨mc,ab h1,h2⟩⟩;have e0:Yn P w K mg (YF s₁.heap H) callerA [] s₁ H:=⟨rfl,hM,λb o e=>ahf e,yyG (Wj _ _),trivial,λb hb=>absurd (show b∈([]:List Addr)from hb) (by simp),hok,.of_eq hg⟩;refine codeAny_mono ((F _ ae (ab ad)).run callerA [] s₁ H ⟨[.ref a],[]⟩ [.ref a] [.ref a] _ _ hr e0 (hbind s₁ (.ref a)) (.cons rfl .nil) (hsp H hO hS)) λr s' h=>?_
  cases r with
  |error e=>exact(hCX H e s' h).elim
  |ok fl=>
   cases fl with
   |next=>exact False.elim h
   |brk=>exact False.elim h
   |cont=>exact False.elim h
   |ret u=>
    obtain⟨v,H',os,bare,un,ah,r',q⟩:=h;have q':v=.bl true:=q;subst q';obtain rfl:u=Value.bool true:=r';refine⟨rfl,OldK.of_keep λb o e=>?_,os,bare⟩
    cases q:H b with
    |none=>exact un.keep b o e q (by intro z;exact absurd (show b∈([]:List Addr)from z) (by simp)) (by simp)
    |some u=>
     rcases hO b with z|⟨ob,xs,z⟩
     ·rw[q]at z;cases z
     ·have z2:=un.frzs b ob _ z
      obtain⟨e1,_⟩:=hok b _ z;obtain⟨e2,_⟩:=ah b _ z2;rw[e]at e1;cases e1;exact e2
 cases hk:K.lookup a with
 |some o=>
  have e:=KX a o hk;rw[ha]at e;cases e;refine ac (λ_=>none) (λ_=> .inl rfl) (.inr ⟨_,vs.toArray,_,hk,rfl,rfl,rfl,by rw[zk,ag];exact hl,by simpa using rv⟩) (λb u z=>by have z':(none:Option HO)=some u:=z;cases z') (λb z=>absurd rfl z) λz=>absurd rfl z
 |none=>
  refine ac (λb=>if b=a then some (.frz {cls:=.type "list",data:=.seq vs.toArray} (.lst (ns.map V.int)))else none) (λb=>?_) (.inl (.inr ⟨{cls:=.type "list",data:=.seq vs.toArray},zn rfl⟩)) (λb u z=>?_) (λb z=>?_) λ_=>hk
  ·by_cases hb:b=a
   ·exact .inr ⟨_,_,zn hb⟩
   ·exact .inl (ze hb)
  ·by_cases hb:b=a
   ·have z':=(zn hb).symm.trans z
    cases z';subst hb;exact⟨ha,by rw[za];exact hl,vs,_,rv,ha⟩
   ·have z':=(ze hb).symm.trans z
    cases z'
  ·by_cases hb:b=a
   ·exact hb
   ·exact absurd (ze hb) z
end L2
namespace L2
open PySem PySem.Spec PyProof.Rows
def walk_of{l:PySem.W.OpenLaw}{n k:Nat}{q:Program}{ab:List Str}{XP:(Str->Option Value)->Heap->Prop}{YP:World->Heap->Prop}{d:DefRec}{K:Params->Fg_}{CX:World->CXT}{sp:World->Sp}{x:Str}
  (hn:l.most=some n) (ag:n<=sizeLine) (ah:d.params.defaults=[]) (hr:qM k callerA)
  (hY:∀(w:World)(h:Heap),YP w h->(K w.params).In h)
  (F:∀(w:World)(mg:Str->Option Value)(fa:Addr)(h:Heap),(K w.params).In h->h.Ns mainGlobals mg->mg d.name=some (.ref fa)->
   ∃fd:FuncData,(∀(s:Shared)(u:Value),BindsTo s fd ⟨[u],[]⟩ [(x,u)])/\
    ∀base:Heap,(K w.params).In base->base.Ns mainGlobals mg->jE l.prog w (K w.params) mg base (CX w) k fa fd [x] (sp w))
  (ad:∀(w:World)(H:Hp)(a:Addr)(ns:List Int),ns.length<=n->Only H->SqL (K w.params) H a (ns.map V.int)->sp w [.ref a] H (λv _=>v=.bl true) λ_ _ _=>False)
  (af:∀(w:World)(H:Hp)(s:Shared)(e:Value)(s':Shared),CX w [] H s (λ_ _ _=>False) e s'->False):
  PySem.W.WalkO q ab XP YP l.row.toRowW d [] (λf vs=>PySem.call f vs):=by
 refine Att.attach_call hn ah λw s₀ s₁ mg mb fa o pm cd aj a vs ns G Y ho hd ai ae ac aa z hg=>?_;have KX:=hY w _ Y;obtain⟨fd,hb,hF⟩:=F w mg fa _ KX G.T.g ae;exact ZM KX G.T.g G.T.b G.T.builtins G.T.nolimit hg ac aa (yw z ag) hr hF hb (λH hO hS=>ad w H a ns z hO hS) λH e s'=>af w H s₁ e s'
end L2
namespace L2
open PySem PySem.Spec PyProof.Rows
noncomputable def inClass(s:Stmt)(j:Nat):Stmt:=match s with
 |.ClassDef _ _ _ body _ _ _ _ _ _ _=>body.getD j (.Pass ⟨0,0,0,0⟩)
 |_=> .Pass ⟨0,0,0,0⟩
noncomputable def mZ(s:Stmt):Arguments:=match s with
 |.FunctionDef _ a _ _ _ _ _ _ _ _=>a
 |_=>{posonlyargs:=[],args:=[],vararg:=none,kwonlyargs:=[],kw_defaults:=[],kwarg:=none,defaults:=[]}
noncomputable def lM(s:Stmt):List Stmt:=match s with
 |.FunctionDef _ _ b _ _ _ _ _ _ _=>b
 |_=>[]
noncomputable def iD(s:Stmt):Scope:=match s with
 |.FunctionDef _ _ _ _ _ _ sc _ _ _=>sc
 |_=>{kind:=.function,names:=[],isGenerator:=false,isCoroutine:=false}
abbrev CX0:CXT:=λ_ _ _ _ _ _=>False
abbrev E0:XK:=λ_ _ _=>False
def jw{X:Cx}:xr CX0 X E0:=λ_ _ _ _ _ _ _ h=>h.elim
structure Fun(K:Fg_)(x qual:Str)(st:Stmt)(f:Addr)(fd:FuncData):Prop where
 ex:∃(oc:Value)(od:Option Addr)(kV doc pm:Value)(an:Option Addr)(cdv ct:Value)(osl:Array (Option Value)),
  fd=PySem.W.fnOf x qual (mZ st) (lM st) (iD st) .none kV doc pm an cdv ct/\K.lookup f=some ⟨oc,od,.func fd,osl⟩/\PySem.W.codeIn K cdv qual=true
 kp:PySem.W.keepIn K (.ref f)=true
section
variable{P:Program}{w:World}{K:Fg_}{mg:Str->Option Value}{base:Heap}
def Fun.ok{x z:Str}{st:Stmt}{f:Addr}{fd:FuncData}{N ps:List Str}{k:Nat}{sp:Sp}(F:Fun K x z st f fd)(S:iI N ps (iD st))(len:∀vs H Q E,sp vs H Q E->vs.length=ps.length)
  (ab:∀(aa:Value)(A:Around)(outer:List Env)(s:Shared)(H:Hp)(vs:List V)(Q:VK)(E:XK),qM k (A.deeper (envOfC z (iD st) s.heap.objs.size f aa))->sp vs H Q E->
   ∃t,PSs (Ys CX0 P w K mg base N z (iD st) f aa A outer s H E).nox (lM st) t/\t {nx:=λ_ H'=>Q .non H',rt:=Q} (start N vs) H):jE P w K mg base CX0 (k+1) f fd ps sp:=by
 obtain⟨oc,od,kV,ae,pm,an,aa,ct,af,rfl,lk,ac⟩:=F.ex;refine ajs lk ac S len λA outer s H vs Q E hr ad=>?_;obtain⟨t,h,q⟩:=ab aa A outer s H vs Q E hr ad;exact⟨t,h.nox,q⟩
def Fun.binds{x q:Str}{st:Stmt}{f:Addr}{fd:FuncData}{ps:List Str}(F:Fun K x q st f fd)
  (h:∀(kV z pm:Value)(an:Option Addr)(aa ct:Value)(us:List Value),us.length=ps.length->bindArgs (PySem.W.fnOf x q (mZ st) (lM st) (iD st) .none kV z pm an aa ct) ⟨us,[]⟩=pure (ps.zip us)):Binds K fd ps []:=by
 obtain⟨oc,od,kV,z,pm,an,aa,ct,ac,rfl,lk,ab⟩:=F.ex;exact .all (h kV z pm an aa ct)
def Vf{x q:Str}{st:Stmt}{f:Addr}{oc:Value}{od an:Option Addr}{ab:Array (Option Value)}{kV aa pm z ct:Value}(l:K.lookup f=some ⟨oc,od,.func (PySem.W.fnOf x q (mZ st) (lM st) (iD st) .none kV aa pm an z ct),ab⟩)
  (c:PySem.W.codeIn K z q=true) (k:PySem.W.keepIn K (.ref f)=true):Fun K x q st f (PySem.W.fnOf x q (mZ st) (lM st) (iD st) .none kV aa pm an z ct):=⟨⟨oc,od,kV,aa,pm,an,z,ct,ab,rfl,l,c⟩,k⟩
end
def nO{A:Around}{k:Nat}(q:qM k A):A.units+1<cLine:=zzc (Nat.add_le_add_left (by decide:1<=64) _) q.units
def Vl{n:Nat}(h:n<=1000):n<sizeLine:=zzc h (by decide)
section
variable{X:Cx}
def pv(i:Nat){x:Str}{pos:Pos}(q:X.N[i]? =some x:=by rfl)(hv:Vis X.env.scope x:=by walk_at "o") (hd:(x==("__debug__" :Str))=false:=by decide)
  (hcd:(x==("__classdict__" :Str))=false:=by decide):PE X (.Name x pos) (Mr i):=aiY q hv hd hcd
end
noncomputable def Same(H H':Hp):Prop:=∀b o,H b=some o->H' b=some o
def same_refl(H:Hp):Same H H:=λ_ _ h=>h
def Same.trans{H H1 H2:Hp}(a:Same H H1)(b:Same H1 H2):Same H H2:=λc o h=>b c o (a c o h)
def Same.free{H H':Hp}(e:Same H H'){l:Addr}(h:H' l=Option.none):H l=Option.none:=by
 cases q:H l with
 |none=>rfl
 |some o=>
  rw[e l o q]at h;cases h
def Same.seq{K:Fg_}{H H':Hp}{a:Addr}{xs:List V}(e:Same H H')(h:SqL K H a xs):SqL K H' a xs:=by
 rcases h with(h|⟨o,h⟩)|h
 ·exact .inl (.inl (e _ _ h))
 ·exact .inl (.inr ⟨o,e _ _ h⟩)
 ·exact .inr h
end L2
namespace L2
open PySem PySem.Spec PyProof.Rows
noncomputable def AllIn:List (Str×Addr)->List (Str×Addr)->Prop
 |[],_=>True
 |(x,c)::r,cells=>cells.lookup x=some c/\AllIn r cells
theorem AllIn.look{aa:List (Str×Addr)}:∀{cl:List (Str×Addr)},AllIn cl aa->∀{x:Str}{c:Addr},cl.lookup x=some c->aa.lookup x=some c
 |[],_,x,c,e=>by simp at e
 |(y,d)::r,h,x,c,e=>by
  rw[yyC]at e
  cases q:x==y with
  |true=>
   rw[q]at e;have z:d=c:=zw e;have z2:x=y:=beq_iff_eq.mp q;subst z z2;exact h.1
  |false=>
   rw[q]at e;exact AllIn.look h.2 e
noncomputable def FN(cells:List (Str×Addr)):List (Str×NameKind)->List (Str×Addr)->List (Str×Addr)
 |[],cs=>cs
 |(n,k)::r,cs=>FN cells r (match k with
  |.free=>match cells.lookup n with
   |some c=>(n,c)::cs
   |Option.none=>cs
  |_=>cs)
abbrev En(scope:Scope)(env:Env):List (Str×Addr):=FN env.cells scope.names []
theorem GF(z:List (Str×Addr)):∀(names:List (Str×NameKind))(cs:List (Str×Addr)),AllIn cs z->AllIn (FN z names cs) z
 |[],_,h=>h
 |(n,k)::r,cs,h=>by
  unfold FN;refine GF z r _ ?_
  cases k with
  |free=>
   cases q:z.lookup n with
   |none=>exact h
   |some c=>exact⟨q,h⟩
  |_=>exact h
def rZ(scope:Scope)(env:Env):AllIn (En scope env) env.cells:=GF _ _ _ trivial
noncomputable def CapOk(X:Cx)(sc:Scope)(cl:List (Str×Addr)):List Str->List (Option Nat)->Prop
 |[],[]=>True
 |_::N,Option.none::r=>CapOk X sc cl N r
 |x::N,some j::r=>X.N[j]? =some x/\(X.env.kindOf x=some .cell\/X.env.kindOf x=some .free)/\(sc.names.lookup x=some .cell\/sc.names.lookup x=some .free)/\(∃c,cl.lookup x=some c)/\CapOk X sc cl N r
 |_,_=>False
noncomputable def pI(σ:St)(cap:List (Option Nat)):St:=cap.map λo=>match o with
 |Option.none=>Option.none
 |some j=>match σ[j]? with
  |some v=>v
  |Option.none=>Option.none
def CapOk.nil{X:Cx}{q:Scope}{cl:List (Str×Addr)}:CapOk X q cl [] []:=trivial
def CapOk.own{X:Cx}{q:Scope}{cl:List (Str×Addr)}{x:Str}{N:List Str}{r:List (Option Nat)}(h:CapOk X q cl N r):CapOk X q cl (x::N) (Option.none::r):=h
def CapOk.take{X:Cx}{q:Scope}{cl:List (Str×Addr)}{x:Str}{N:List Str}{j:Nat}{r:List (Option Nat)}(h1:X.N[j]? =some x)(h2:X.env.kindOf x=some .cell\/X.env.kindOf x=some .free)
  (h3:q.names.lookup x=some .cell\/q.names.lookup x=some .free) (z:(cl.lookup x).isSome=true) (h:CapOk X q cl N r):CapOk X q cl (x::N) (some j::r):=⟨h1,h2,h3,zze.mp z,h⟩
theorem CapOk.len{X:Cx}{q:Scope}{cl:List (Str×Addr)}:∀{N:List Str}{cap:List (Option Nat)},CapOk X q cl N cap->cap.length=N.length
 |[],[],_=>rfl
 |_::N,Option.none::r,h=>congrArg (·+1) (CapOk.len (N:=N) (cap:=r) h)
 |_::N,some _::r,h=>congrArg (·+1) (CapOk.len (N:=N) (cap:=r) h.2.2.2.2)
 |[],_::_,h=>h.elim
 |_::_,[],h=>h.elim
theorem CapOk.get{X:Cx}{sc:Scope}{cl:List (Str×Addr)}{σ:St}:∀{N:List Str}{cap:List (Option Nat)}{i:Nat}{x:Str}{v:V},CapOk X sc cl N cap->N[i]? =some x->(pI σ cap)[i]? =some (some v)->
  ∃j:Nat,X.N[j]? =some x/\σ[j]? =some (some v)/\(X.env.kindOf x=some .cell\/X.env.kindOf x=some .free)/\(sc.names.lookup x=some .cell\/sc.names.lookup x=some .free)/\∃c,cl.lookup x=some c
 |[],[],i,x,v,_,e,_=>by simp at e
 |y::N,Option.none::r,0,x,v,h,e1,e2=>by
  have z:(some (Option.none:Option V))=some (some v):=e2;cases z
 |y::N,Option.none::r,i+1,x,v,h,e1,e2=>CapOk.get (N:=N) (cap:=r) (i:=i) h (by simpa using e1) (by simpa [pI] using e2)
 |y::N,some j::r,0,x,v,h,e1,e2=>by
  have z:y=x:=by simpa using e1
  subst z;obtain⟨h1,h2,h3,h4,_⟩:=h;refine⟨j,h1,?_,h2,h3,h4⟩;have z2:some (match σ[j]? with|some v=>v|Option.none=>Option.none)=some (some v):=e2
  cases q:σ[j]? with
  |none=>rw[q]at z2;cases z2
  |some o=>rw[q]at z2;exact z2
 |y::N,some j::r,i+1,x,v,h,e1,e2=>CapOk.get (N:=N) (cap:=r) (i:=i) h.2.2.2.2 (by simpa using e1) (by simpa [pI] using e2)
 |[],_::_,_,_,_,h,_,_=>h.elim
 |_::_,[],_,_,_,h,_,_=>h.elim
noncomputable def cxC(X:Cx)(N':List Str)(scope:Scope)(s:Shared)(H:Hp)(fp:List Addr)(xe:Value->Shared->Prop):Cx:=
 {X with N:=N',s₀:=s,H₀:=H,env:=compEnvC scope (En scope X.env) s.heap.objs.size X.env,outer:=X.stack,ex:=fp,fn:=λ_=>false,pn:=[],xe:=xe}
noncomputable def PTs(X:Cx)(ifs:List Expr)(t:TT):Prop:=
 ∀(pins:List (Addr×Obj)) (s:Shared) (σ:St) (H:Hp) (Q:Bool->Hp->Prop),Inv X pins σ H s->t σ H Q->
  wpAny (model X.prog X.w) X.A (forIn ifs true λc r=>if r=true then do let ok<-isTrue c X.env (eval c X.env);pure (ForInStep.yield ok)else pure (ForInStep.yield r)) (TP X pins σ Q) X.xe s
noncomputable def JF:TT:=λ_ H Q=>Q true H
def jA{X:Cx}:PTs X [] JF:=λ_ _ _ H _ I h=>wpAny_tests_nil ⟨H,I,h⟩
def Ah{X:Cx}{c:Expr}{t:TT}(h:PT X c t):PTs X [c] t:=λpins s σ H Q I q=>wpAny_tests_one (h pins s σ H Q I q)
noncomputable def ahH(cap:List (Option Nat))(wi:TI)(g:TG)(tt:TT)(te:TE):TE:=λσ H Q=>wi σ H λJ H1=>∀D,H1 D=Option.none->
 ∃W:Nat->Nat->List V->St->Hp->Prop,(∃m,W 0 m [] (pI σ cap) (upd H1 D (.lst [])))/\∀i m acc σ1 H2,W i m acc σ1 H2->H2 D=some (.lst acc)->
  (J.stop i H2/\Q (.ref D) H2)\/(J.go i H2/\∀x H3,J.yld i H2 x H3->g x σ1 H3 λσ4 H4=>tt σ4 H4 λb H5=>
   if b=true then te σ4 H5 λv H6=>∃acc',H6 D=some (.lst acc')/\acc'.length<sizeLine/\∃m',m'<m/\W (i+1) m' (acc'++[v]) σ4 (upd H6 D (.lst (acc'++[v])))
   else∃m',m'<m/\∃acc',H5 D=some (.lst acc')/\W (i+1) m' acc' σ4 H5)
section
variable{X:Cx}{elt tg iter:Expr}{ifs:List Expr}{scope:Scope}{pos:Pos}{cap:List (Option Nat)}{N':List Str}{wi:TI}{g:TG}{tt:TT}{te:TE}
structure Xo(X:Cx)(iter:Expr)(scope:Scope)(N':List Str)(cap:List (Option Nat)):Prop where
 clos:closureFor scope X.env=pure (En scope X.env)
 cap:CapOk X (relabel scope X.env) (En scope X.env) N' cap
 kind:scope.kind=.function
 nocell:∀y∈scope.names,y.2≠.cell
 names:∀y∈scope.names,y.2=.local->scope.names.lookup y.1=some .local
 has:(scope.names.all λy=>y.2 !=.free||((En scope X.env).lookup y.1).isSome)=true
 fold:∀x,foldedSetIterable iter X.env x=pure x
theorem Vs{f:Str×NameKind->Str×NameKind}(h1:∀y,(f y).1=y.1)(h2:∀y,y.2≠NameKind.cell->((f y).2=NameKind.cell\/(f y).2=NameKind.free)->y.2=NameKind.free){cl:List (Str×Addr)}:
  ∀{names:List (Str×NameKind)}{x:Str},(∀y∈names,y.2≠NameKind.cell)->(names.all λy=>y.2 !=NameKind.free||(cl.lookup y.1).isSome)=true->((names.map f).lookup x=some NameKind.cell\/(names.map f).lookup x=some NameKind.free)->∃c,cl.lookup x=some c
 |[],x,_,_,h=>by rcases h with h|h<;>simp at h
 |y::r,x,hc,ha,h=>by
  rw[List.all_cons,yyb]at ha;rw[zf]at h;have e0:f y=(y.1,(f y).2):=by rw[<-h1 y]
  rw[e0,yyC]at h
  cases q:x==y.1 with
  |true=>
   rw[q]at h;have e:x=y.1:=beq_iff_eq.mp q
   have hf:y.2=NameKind.free:=h2 y (hc y zm) (by
    rcases h with h|h
    ·exact .inl (zw h)
    ·exact .inr (zw h))
   have h3:(cl.lookup y.1).isSome=true:=by
    have:=ha.1;rw[hf]at this
    simpa using this
   rw[e];exact zze.mp h3
  |false=>
   rw[q]at h;exact Vs h1 h2 (λz hz=>hc z (ya _ hz)) ha.2 h
def aiB{env:Env}{scope:Scope}{cl:List (Str×Addr)}{x:Str}(hc:∀y∈scope.names,y.2≠NameKind.cell)(ha:(scope.names.all λy=>y.2 !=NameKind.free||(cl.lookup y.1).isSome)=true)
  (h:(relabel scope env).names.lookup x=some NameKind.cell\/(relabel scope env).names.lookup x=some NameKind.free):∃c,cl.lookup x=some c:=by
 refine Vs (f:=fun(n,k)=>if(k==NameKind.free && env.scope.kind==.function && env.kindOf n==some .cell)then(n,NameKind.cell)else(n,k)) (λy=>?_) (λy hy q=>?_) hc ha h
 ·obtain⟨n,k⟩:=y
  dsimp only;split<;>rfl
 ·obtain⟨n,k⟩:=y
  dsimp only at q⊢hy;by_cases z:(k==NameKind.free && env.scope.kind==.function && env.kindOf n==some .cell)=true
  ·simp only[yyb]at z
   exact beq_iff_eq.mp z.1.1
  ·rw[ze z]at q
   rcases q with q|q
   ·exact absurd q hy
   ·exact q
def Od{P:Program}{w:World}{A:Around}{R:Result->Shared->Prop}{s:Shared}{it acc:Value}{env:Env}(I:Nat->Shared->Prop)
  (z:∀n s,I n s->wpAny (model P w) A (pyNext it) (λr s₁=>match r with
   |none=>R (.ok .next) s₁
   | some v=>wpAny (model P w) A (letOwnedTupleGo tg it v) (λ_ q=>wpAny (model P w) A (assign tg env v) (λ_ s₂=>
     wpAny (model P w) A (forIn ifs true λc r=>if r=true then do let ok<-isTrue c env (eval c env);pure (ForInStep.yield ok)else pure (ForInStep.yield r)) (λok s₃=>
      if ok=true then wpAny (model P w) A (eval elt env) (λx s₄=>
       wpAny (model P w) A (call (.builtin "list.append") [acc,x]) (λ_ s₅=>∃m,m<n/\I m s₅) (notedBy (model P w) A env λe s'=>R (.error e) s') s₄) (notedBy (model P w) A env λe s'=>R (.error e) s') s₃
      else∃m,m<n/\I m s₃) (notedBy (model P w) A env λe s'=>R (.error e) s') s₂) (notedBy (model P w) A env λe s'=>R (.error e) s') q) (notedBy (model P w) A env λe s'=>R (.error e) s') s₁)
    (notedBy (model P w) A env λe s'=>R (.error e) s') s)
  (n:Nat) (h:I n s):
  codeAny (model P w) A (.compLoop (.ListComp elt [⟨tg,iter,ifs,0⟩] scope pos) 0 it acc env) R s:=by
 refine codeAny_loop rfl I (λn s hI=>?_) n h;show wpAny _ A ((compTurn (.ListComp elt [⟨tg,iter,ifs,0⟩] scope pos) 0 it acc env).onRaise (λx=>do noteFrame x env;theTreesLotGoes x)) _ _ s;refine wpAny_noted ?_;rw[compTurn_list];refine zd (yyz (zd (yP (z n s hI) (λr s₁ h₁=>?_) λ_ _ h'=>h')))
 cases r with
 |none=>exact yc h₁
 |some v=>
  refine zd (yP h₁ (λ_ q h₁=>?_) λ_ _ h'=>h');refine zd (yP h₁ (λ_ s₂ h₂=>zd (yP h₂ (λok s₃ h₃=>?_) λ_ _ h'=>h')) λ_ _ h'=>h')
  cases ok with
  |false=>exact yc ⟨rfl,h₃⟩
  |true=>
   exact zd (zd (yP h₃ (λx s₄ h₄=>zd (yP h₄ (λ_ s₅ h₅=>yc (yc ⟨rfl,h₅⟩)) λ_ _ h'=>h')) λ_ _ h'=>h'))
def Pa{pins:List (Addr×Obj)}{σ:St}{H2:Hp}{s2:Shared}{Q:VK}{it:Addr}{fp:List Addr}{tn:Nat->Heap->Prop}{J:It}{R:Value->Addr->Result->Shared->Prop}{E:Value->Shared->Prop}
  (hc:X.calm=true) (C:Xo X iter scope N' cap)
  (hg:∀s H fp xe,PG (cxC X N' scope s H fp xe) tg g) (ht:∀s H fp xe,PTs (cxC X N' scope s H fp xe) ifs tt) (he:∀s H fp xe,PE (cxC X N' scope s H fp xe) elt te)
  (I2:Inv X pins σ H2 s2) (T:Turn X.prog X.w X.K tg J fp it tn) (ag:tn 0 s2.heap) (f2:∀b∈fp,QC X pins H2 b)
  (hR:∀D Cl H' s',Inv X pins σ H' s'->(∃m,s'.heap.Ns Cl m)->H' Cl=Option.none->Cl≠X.env.locals->X.s₀.heap.objs.size<=Cl->(∀x c,X.env.cells.lookup x=some c->c≠Cl)->(∀p∈X.pn++pins,p.1≠Cl)->Q (.ref D) H'->R (.ref D) Cl (.ok .next) s')
  (hw:∀D,H2 D=Option.none->∃W:Nat->Nat->List V->St->Hp->Prop,(∃m,W 0 m [] (pI σ cap) (upd H2 D (.lst [])))/\∀i m acc σ1 H2,W i m acc σ1 H2->H2 D=some (.lst acc)->
   (J.stop i H2/\Q (.ref D) H2)\/(J.go i H2/\∀x H3,J.yld i H2 x H3->g x σ1 H3 λσ4 H4=>tt σ4 H4 λb H5=>
    if b=true then te σ4 H5 λv H6=>∃aa,H6 D=some (.lst aa)/\aa.length<sizeLine/\∃m',m'<m/\W (i+1) m' (aa++[v]) σ4 (upd H6 D (.lst (aa++[v])))
    else∃m',m'<m/\∃aa,H5 D=some (.lst aa)/\W (i+1) m' aa σ4 H5)):
  wpAny (model X.prog X.w) X.A (newList []) (λacc s₃=>wpAny (model X.prog X.w) X.A (newFunctionEnv scope X.env.globals (En scope X.env) [] X.env.qual none .none (some X.env)) (λal s₄=>
   codeAny (model X.prog X.w) X.A (.compStart (.ListComp elt [⟨tg,iter,ifs,0⟩] scope pos) 0 (.ref it) acc {al with scope:=relabel scope X.env}) (R acc al.locals) s₄) E s₃) E s2:=by
 refine wpAny_newObj_type (wpAny_newFunctionEnv C.nocell (by intro y hy;simp at hy) (λh₁ ak ai=>?_) C.kind);obtain⟨W,⟨m0,w0⟩,aj⟩:=hw s2.heap.objs.size I2.fresh;have I3:Inv X pins σ (upd H2 s2.heap.objs.size (.lst [])) {s2 with heap:=s2.heap.push {cls:=.type "list",data:=.seq ([]:List Value).toArray}}:=I2.lnew (t':=s2.toks) .nil (yj _);generalize ao:({s2 with heap:=s2.heap.push {cls:=.type "list",data:=.seq ([]:List Value).toArray}}:Shared)=s3 at I3 ak ai⊢;generalize hD:s2.heap.objs.size=D at I3 w0 aj⊢;have bf:H2 D=Option.none:=by rw[<-hD];exact I2.fresh
 have ar:s3.os=s2.os:=by rw[<-ao]
 have ap:Un (frs X.stack) fp H2 (upd H2 D (.lst [])) s2.heap s3.heap:=by
  rw[<-ao,<-hD];exact Un.laid (λb u q=>zb _ q) (zj _) I2.fresh
 have ab:∀b o,s3.heap.get? b=some o->h₁.get? b=some o:=λb o e=>(ai.2 b (ye (zt e))).trans (zb _ e);have ad:∀b o,s2.heap.get? b=some o->s3.heap.get? b=some o:=λb o e=>by rw[<-ao];exact zb _ e
 have hR':∀(r:Result)(s':Shared),R (.ref D) s3.heap.objs.size r s'->R (.ref D) s3.heap.objs.size r s':=λ_ _ h=>h
 have f3:∀b∈fp,QC X pins (upd H2 D (.lst [])) b:=λb hb=>by
  obtain⟨q0,q1⟩:=f2 b hb;refine⟨?_,q1⟩;obtain⟨o,e,_⟩:=T.obj _ _ ag b hb;rw[iJ (by rw[<-hD];exact ye (zt e))];exact q0
 let XC:Cx:=cxC X N' scope s3 (upd H2 D (.lst [])) fp (notedBy (model X.prog X.w) X.A (compEnvC scope (En scope X.env) s3.heap.objs.size X.env) λe s'=>R (.ref D) s3.heap.objs.size (.error e) s')
 have ok:XC.Ok:=by
  refine⟨I3.ok.mod,C.kind,I3.ok.glob,I3.ok.blt,zj _,λx y c e1 e2=>I3.ok.inj x y c ((rZ scope X.env).look e1) ((rZ scope X.env).look e2),λx hx=>aiB C.nocell C.has hx,λx c hf=>(nomatch hf),λ_=>I3.ok.hd hc,I3.ok.frames,.inl rfl,λb hb=>?_,I3.bs,yw I3.ok.bsz I3.sz,λb o e hb=>?_,λb hb hf=>?_,I3.stack,I3.stkFree⟩
  ·obtain⟨q0,q1,q2,q3,q4,q5⟩:=f3 b hb
   refine⟨?_,λx c e=>q4 x c ((rZ scope X.env).look e)⟩;obtain⟨o,e,_⟩:=T.obj _ _ ag b hb;exact ye (zt (ad _ _ e))
  ·obtain⟨q0,q1,q2,q3,q4,q5⟩:=f3 b hb
   rcases q3 with q3|q3
   ·exact I3.ok.noex b o e q3
   ·exact absurd (yi (zt e) (yw I3.ok.bsz q3)) (yM _)
  ·obtain⟨q0,q1,q2,q3,q4,q5⟩:=f3 b hb
   rcases zu.mp (I3.stkSub b hf)with z|z
   ·exact q1 z
   ·exact q2 z
 have I4:Inv XC [] (pI σ cap) (upd H2 D (.lst [])) {s3 with heap:=h₁,toks:=s3.toks+([]:List (Str×Value)).length}:=by
  refine⟨ok,rfl,I3.bare,Un.kept ab,⟨_,ak,λi x v e1 e2 e3=>?_⟩,λx c e=>?_,I3.hok.fresh (zj _),λx c e=>I3.freeC x c ((rZ scope X.env).look e),λp hp=>absurd (show p∈([]:List (Addr×Obj))from hp) (by simp),I3.hok.kept ab,by rw[show(pI σ cap).length=cap.length from by simp[pI]];exact C.cap.len⟩
  ·obtain⟨j,g1,g2,g3,g4,c,g5⟩:=C.cap.get e1 e2
   obtain⟨m,_,hl⟩:=I3.loc
   obtain ⟨u,r,l⟩:=hl j x v g1 g2 (by
    rcases g3 with z|z
    ·exact .inr (.inl z)
    ·exact .inr (.inr z))
   refine⟨u,r,.inr ⟨g4,c,g5,?_⟩⟩;rcases l with⟨k,_⟩|⟨_,c',e,z⟩
   ·rcases g3 with q|q
    ·rw[k]at q;cases q
    ·rw[k]at q;cases q
   ·have e':=(rZ scope X.env).look g5
    rw[e]at e';cases e';obtain⟨o,ho,hd⟩:=z;exact⟨o,ab _ _ ho,hd⟩
  ·obtain⟨v,o,ho,hd⟩:=I3.cell x c ((rZ scope X.env).look e)
   exact⟨v,o,ab _ _ ho,hd⟩
 have au:tn 0 h₁:=T.keep _ _ _ ag λb _ o e=>ab b o (ad b o e)
 have am:∀{ac:List (Addr×Obj)}{H':Hp},(∀b∈fp,H' b=Option.none)->(∀p∈ac,p.1∉fp)->∀b∈fp,QC XC ac H' b:=fun{ac H'} hn hp b hb=>by
  obtain⟨q1,q2⟩:=ok.exf b hb;exact⟨hn b hb,q1,ok.exfs b hb,.inl hb,q2,λp be z=>hp p (by simpa [XC,cxC] using be) (by rw[z];exact hb)⟩
 have bg:D∉fp:=λhb=>by
  obtain⟨o,e,_⟩:=T.obj _ _ ag D hb;rw[<-hD]at e;exact absurd (zt e) (yM _)
 have out:∀{σ':St}{H':Hp}{s':Shared},Inv XC [] σ' H' s'->Inv X pins σ H' s':=fun{σ' H' s'} J'=>
  I2.call' (ch:=fp) (J'.os.trans ar) (ap.trans J'.base) J'.hok J'.bare λb hb=>by
   obtain⟨q0,q1,q2,q3,q4,q5⟩:=f2 b hb;exact⟨q3,q1,q4,q5⟩
 have ah:∀s₄:Shared,s₄={s3 with heap:=h₁,toks:=s3.toks+([]:List (Str×Value)).length}->
   codeAny (model X.prog X.w) X.A (.compLoop (.ListComp elt [⟨tg,iter,ifs,0⟩] scope pos) 0 (.ref it) (.ref D) (compEnvC scope (En scope X.env) s3.heap.objs.size X.env)) (R (.ref D) s3.heap.objs.size) s₄:=by
  rintro s₄ rfl
  refine Od (λn s'=>∃i acc σ' H',Inv XC [] σ' H' s'/\tn i s'.heap/\(∀b∈fp,H' b=Option.none)/\H' D=some (.lst acc)/\W i n acc σ' H') ?_ m0
   ⟨0,[],pI σ cap,upd H2 D (.lst []),I4,au,λb hb=>(f3 b hb).1,iC,w0⟩
  rintro n s5 ⟨i,acc,σ5,H5,I5,aw,as,hA,w5⟩;rcases aj i n acc σ5 H5 w5 hA with⟨stop,q⟩|⟨go,aq⟩
  ·refine thn (T.done XC rfl rfl rfl hc i [] s5 σ5 H5 _ I5 (am as (by simp)) aw stop) λr s6 ⟨hr,I6⟩=>?_
   subst hr;obtain⟨m,hn,_⟩:=I6.loc
   exact hR D s3.heap.objs.size H5 s6 (out I6) ⟨m,hn⟩ I6.free (zzg I3.lt) I3.sz (λx c e z=>by
    obtain⟨v,o,ho,_⟩:=I3.cell x c e;rw[z]at ho;exact absurd (zt ho) (yM _)) (λp hp z=>by
    have e:=(I3.pin p hp).1;rw[z]at e;exact absurd (zt e) (yM _)) q
  ·refine thn (T.item XC rfl rfl rfl hc i [] s5 σ5 H5 _ I5 (am as (by simp)) aw go) λr s6 ⟨u,hr,h6⟩=>?_
   subst hr;refine thn h6 λ_ s7 ⟨x,H7,I7,r7,y7,an,ax⟩=>?_;have I7':=I7.pinned (am ax (by simp)) (T.obj _ _ an)
   have ae:∀{σ8:St}{H8:Hp}{s8:Shared},Inv XC ([]++MT fp s7.heap) σ8 H8 s8->(∃aa,H8 D=some (.lst aa)/\∃m',m'<n/\W (i+1) m' aa σ8 H8)->
     ∃m,m<n/\∃i acc σ' H',Inv XC [] σ' H' s8/\tn i s8.heap/\(∀b∈fp,H' b=Option.none)/\H' D=some (.lst acc)/\W i m acc σ' H':=fun{σ8 H8 s8} I8⟨aa,af,m',hm,w8⟩=>by
    refine⟨m',hm,i+1,aa,σ8,H8,I8.unpinned,T.keep _ _ _ an λb hb o e=>(I8.pin (b,o) (yh _ (yh _ (wN hb e)))).1,λb hb=>?_,af,w8⟩;obtain⟨o,e,d⟩:=T.obj _ _ an b hb;exact(I8.pin (b,o) (yh _ (yh _ (wN hb e)))).2.1
   refine thn (hg s3 _ fp _ _ s7 σ5 H7 x u _ I7' r7 (aq x H7 y7)) λ_ s8 ⟨σ8,H8,I8,q8⟩=>?_;refine thn (ht s3 _ fp _ _ s8 σ8 H8 _ I8 q8) λb s9 ⟨H9,I9,q9⟩=>?_
   cases b with
   |false=>
    rw[ze yp]at q9⊢;obtain⟨m',hm,aa,af,w9⟩:=q9;exact ae I9 ⟨aa,af,m',hm,w9⟩
   |true=>
    rw[zn rfl]at q9⊢;refine thn (he s3 _ fp _ _ s9 σ8 H9 _ I9 q9) λv ay ⟨y,av,bb,bd,aa,af,hz,m',hm,bc⟩=>?_;refine thn (mH (X:=XC) _ ay σ8 av (.ref D) [y] (.ref D) [v] (λ_ Hz=>Hz=upd av D (.lst (aa++[y]))) bb rfl (.cons bd .nil) ⟨D,aa,y,rfl,rfl,af,hz,rfl⟩) λ_ bi ⟨_,bh,ba,_,az⟩=>?_;subst az;exact ae ba ⟨aa++[y],iC,m',hm,bc⟩
 exact codeAny_compStart_list (ah _ rfl) (T.self _ 0 _ _ _ au (ah _ rfl))
def jB(hc:X.calm=true)(C:Xo X iter scope N' cap)(hi:PI X tg iter wi)
  (hg:∀s H fp xe,PG (cxC X N' scope s H fp xe) tg g) (ht:∀s H fp xe,PTs (cxC X N' scope s H fp xe) ifs tt) (he:∀s H fp xe,PE (cxC X N' scope s H fp xe) elt te):
  PE X (.ListComp elt [⟨tg,iter,ifs,0⟩] scope pos) (ahH cap wi g tt te):=by
 intro pins s σ H Q I h;rw[eval_ListComp];refine wpAny_comprehension_free (use:=none) rfl C.fold C.clos C.kind C.names (thn (hi pins s σ H _ I h) λv s1 h1=>thn h1 λab s2 h2=>?_);obtain⟨it,fp,tn,J,H2,e,I2,T,aa,f2,hw⟩:=h2;subst e;refine Pa (R:=λacc Cl=>compPost (model X.prog X.w) X.A X.xe none (EP X pins σ Q) acc Cl) hc C hg ht he I2 T aa f2 ?_ hw;intro D Cl H' s' I' ⟨m,hn⟩ hf h1 h2 h3 h4 q;exact⟨m,hn,λh' z=>⟨.ref D,H',I'.turned (t':=s'.toks) (λb o hb e=>(z.2 b hb).trans e) hf h1 (.inr h2) h3 h4,rfl,q⟩⟩
def mV{i:Nat}{y:Str}{py aa:Pos}(hN:X.N.Nodup)(ah:X.N[i]? =some y)(hy:X.env.scope.names.lookup y=some .local)
  (hc:X.calm=true) (C:Xo X iter scope N' cap) (hi:PI X tg iter wi)
  (hg:∀s H fp xe,PG (cxC X N' scope s H fp xe) tg g) (ht:∀s H fp xe,PTs (cxC X N' scope s H fp xe) ifs tt) (he:∀s H fp xe,PE (cxC X N' scope s H fp xe) elt te)
  (ab:swapsWith (.ListComp elt [⟨tg,iter,ifs,0⟩] scope pos) (some (.Name y py)) aa.line X.env=pure true:=by rfl):
  PS X (.Assign [.Name y py] (.ListComp elt [⟨tg,iter,ifs,0⟩] scope pos) aa) (ajC (ahH cap wi g tt te) (Uu i)):=by
 intro pins s σ H D I h;rw[exec_Assign_Name_used _ _ _ _ ab];refine zd (yyz (zd ?_));show wpAny _ X.A (do let _<-comprehension (.ListComp elt [⟨tg,iter,ifs,0⟩] scope pos) scope X.env _ (newList []) false (eval iter X.env) (some (assign (.Name y py) X.env))) _ _ s
 refine zd (yP (wpAny_comprehension_free (use:=some (assign (.Name y py) X.env)) (Q:=λ_ s'=>SP X pins D .next s') rfl C.fold C.clos C.kind C.names (thn (hi pins s σ H _ I h) λv s1 h1=>thn h1 λai s2 h2=>?_))
  (λ_ s' hq=>yc (yc hq)) λ_ _ e=>e)
 obtain⟨it,fp,tn,J,H2,e,I2,T,ac,f2,hw⟩:=h2;subst e;refine Pa (Q:=λx H1=>Uu i x σ H1 D.nx) (R:=λacc Cl=>compPost (model X.prog X.w) X.A X.xe (some (assign (.Name y py) X.env)) (λ_ s'=>SP X pins D .next s') acc Cl) hc C hg ht he I2 T ac f2 ?_ hw;intro Da Cl H' s' I' ⟨m,hn⟩ hf h1 h2 h3 h4 q;show wpAny _ _ (assign (.Name y py) X.env (.ref Da)) _ _ s';refine wpAny_assign_Name (Nx I' hN ah (.inl hy) (v:=.ref Da) rfl (λag I'' ⟨a,ad,ha⟩=>?_) (.inr hy))
 have ae:Cl≠a:=by
  rcases ha with z|z
  ·rw[z];exact h1
  ·exact Ne.symm (h3 y a z)
 exact⟨m,hn.sameBut ad ae,λh' af=>⟨_,H',I''.turned (t':=ag.toks) (λb o hb e=>(af.2 b hb).trans e) hf h1 (.inr h2) h3 h4,q⟩⟩
end
end L2
namespace L2
open PySem PySem.Spec PyProof.Rows
section
variable{X:Cx}{a b c:Expr}{ta tb tc:TE}{pos:Pos}
noncomputable def agS(i j:Int):Prop:=i.natAbs<2^2000/\j.natAbs<2^2000
def agS.ok{i j:Int}(h:agS i j):IntMulOk i j:=
 IntMulOk.of_bits (yw (intBits_le h.1) (by decide)) (yw (intBits_le h.2) (by decide))
noncomputable def Lz(_ j:Int):Prop:=0<j/\j.natAbs<2^2000
def mK:OpR X (binaryOp .FloorDiv) (rI Lz λi j=> .int (i/j)):=opI λi j _ _ _ _ _ z q=>by
 have h1:(0:Int)<j:=z.1;have h0:j.natAbs≠0:=by omega
 have h2:j.natAbs.log2<2000:=(Nat.log2_lt h0).mpr z.2;exact floordiv_int (by omega) (by rw[Int.fdiv_eq_ediv_of_nonneg i (by omega)];exact q) (.inl (PyProof.noPylong_of_log2 (by omega)))
def Xn(hc:X.calm=true):mR X (.builtin "sum") (λxs H Q=>∃(a:Addr)(ns:List Int),xs=[.ref a]/\SqL X.K H a (ns.map V.int)/\Q (.int ns.sum) H):=by
 intro pins s σ H xs us Q I r h;obtain⟨a,ns,rfl,hq,q⟩:=h;obtain⟨u,rfl,r1⟩:=vals1 r;cases r1;obtain⟨its,rv,pl,hz⟩:=I.list hq;have hi:IntsAre its ns:=intsAre_of rv;obtain⟨xs,e⟩:=hi.allInts.items;have z:=pl.isList;rw[e]at z;refine sum_intListG (I.ok.hd hc) z λh' tk t' hk=>?_;have e1:its=(intItems xs).toList:=by rw[<-e]
 have e2:xs.toList.map (·.1)=ns:=by rw[<-nums_intItems,<-e1,hi.numsOf]
 have es:preSum (numAt xs) xs.size=ns.sum:=by rw[preSum_eq,yr (by simp),e2]
 rw[es];exact⟨.int ns.sum,H,I.kept hk,⟨_,rfl⟩,q⟩
def Kl{pins:List (Addr×Obj)}{σ:St}{H:Hp}{s:Shared}{l:Addr}{bs:List Bool}(I:Inv X pins σ H s)(hq:SqL X.K H l (bs.map V.bl)):
  ∃its:List Value,its.length=bs.length/\s.heap.IsList l its.toArray/\l≠s.heap.objs.size/\∀(i:Nat)(v:Value),its.toArray[i]? =some v->v=.bool (bs.getD i false):=by
 obtain⟨its,q,pl,hz⟩:=I.list hq;refine⟨its,by rw[<-q.length,za],pl.isList,?_,λi v e=>?_⟩
 ·obtain⟨o,n,e,_⟩:=pl
  exact ye (zt e)
 ·have e':its[i]? =some v:=by simpa using e
  have hi:i<its.length:=(zo.mp e').1;have hb:i<bs.length:=by have:=q.length;rw[za]at this;omega
  obtain⟨u,z,ru⟩:=q.get (i:=i) (x:=.bl bs[i]) (by simp[hb]);rw[e']at z;cases z;have:v=Value.bool bs[i]:=ru;rw[this];simp[List.getD,hb]
def range_any(bs:List Bool):(List.range bs.length).any (λi=>bs.getD i false)=bs.any id:=by
 rw[zzA];simp only[yY,y4,id];constructor
 ·rintro⟨i,hi,e⟩
  refine⟨bs[i],zzi hi,?_⟩
  simpa [List.getD,hi] using e
 ·rintro⟨x,q,e⟩
  obtain⟨i,hi,rfl⟩:=List.mem_iff_getElem.mp q;exact⟨i,hi,by simpa [List.getD,hi] using e⟩
def range_all(bs:List Bool):(List.range bs.length).all (λi=>bs.getD i false)=bs.all id:=by
 rw[zzA];simp only[List.all_eq_true,y4,id];constructor
 ·intro h x q
  obtain⟨i,hi,rfl⟩:=List.mem_iff_getElem.mp q
  simpa [List.getD,hi] using h i hi
 ·intro h i hi
  have:=h bs[i] (zzi hi)
  simpa [List.getD,hi] using this
def XH(hc:X.calm=true):mR X (.builtin "any") (λxs H Q=>∃(a:Addr)(bs:List Bool),xs=[.ref a]/\SqL X.K H a (bs.map V.bl)/\Q (.bl (bs.any id)) H):=by
 intro pins s σ H xs us Q I r h;obtain⟨a,bs,rfl,hq,q⟩:=h;obtain⟨u,rfl,r1⟩:=vals1 r;cases r1;obtain⟨its,aa,hl,ab,ac⟩:=Kl I hq;refine call_any_walk (zzr hl ?_);refine⟨s.heap.objs.size,_,_,_,_,_,λi=>bs.getD i false,rfl,Walks.list (A:=X.A.in1) (I.ok.hd hc) s.heap.objs.size a ab its.toArray,⟨⟨_,yb _ rfl,rfl,rfl⟩,hl.at λo e=>zb _ e⟩,λi v s' Q' E' e hQ=>?_,λh' tk hk=>?_⟩
 ·rw[ac i v e]
  exact y6 hQ
 ·have e:(List.range its.toArray.size).any (λi=>bs.getD i false)=bs.any id:=by rw[zk,aa];exact range_any bs
  rw[e];refine⟨.bl (bs.any id),H,I.kept λb o e=>hk b o ?_ (zb _ e),rfl,q⟩;intro z;have z':b=s.heap.objs.size:=by simpa using z
  rw[z']at e;exact absurd (zt e) (yM _)
def Vk(hc:X.calm=true):mR X (.builtin "all") (λxs H Q=>∃(a:Addr)(bs:List Bool),xs=[.ref a]/\SqL X.K H a (bs.map V.bl)/\Q (.bl (bs.all id)) H):=by
 intro pins s σ H xs us Q I r h;obtain⟨a,bs,rfl,hq,q⟩:=h;obtain⟨u,rfl,r1⟩:=vals1 r;cases r1;obtain⟨its,aa,hl,ab,ac⟩:=Kl I hq;refine call_all_walk (zzr hl ?_);refine⟨s.heap.objs.size,_,_,_,_,_,λi=>bs.getD i false,rfl,Walks.list (A:=X.A.in1) (I.ok.hd hc) s.heap.objs.size a ab its.toArray,⟨⟨_,yb _ rfl,rfl,rfl⟩,hl.at λo e=>zb _ e⟩,λi v s' Q' E' e hQ=>?_,λh' tk hk=>?_⟩
 ·rw[ac i v e]
  exact y6 hQ
 ·have e:(List.range its.toArray.size).all (λi=>bs.getD i false)=bs.all id:=by rw[zk,aa];exact range_all bs
  rw[e];refine⟨.bl (bs.all id),H,I.kept λb o e=>hk b o ?_ (zb _ e),rfl,q⟩;intro z;have z':b=s.heap.objs.size:=by simpa using z
  rw[z']at e;exact absurd (zt e) (yM _)
end
end L2
namespace L2
open PySem PySem.Spec PyProof.Rows
section
variable{X:Cx}{a b c:Expr}{ta tb tc:TE}{pos:Pos}
noncomputable def xg(i j:Int):Prop:=ajW i j\/agS i j
def kZ:OpR X (binaryOp .Mult) (rI xg λi j=> .int (i*j)):=opI λ_ _ _ _ _ _ _ z q=>mul_int q (z.elim (λh=>h.ok) λh=>h.ok)
def MJ{i j:Int}(h1: -(2^64)<i)(h2:i<2^64):xg i j:=.inl (.inl ⟨h1,h2⟩)
def uG{i j:Int}(h1: -(2^64)<j)(h2:j<2^64):xg i j:=.inl (.inr ⟨h1,h2⟩)
def xg.big{i j:Int}(h1:i.natAbs<2^2000)(h2:j.natAbs<2^2000):xg i j:=.inr ⟨h1,h2⟩
def Nu:mR X (.builtin "isinstance") (λxs H Q=>∃x n t k,xs=[x,.ty n]/\Jh X.K H x t/\PySem.W.kitOne X.K t (.type n)=some k/\Q (.bl k) H):=by
 intro pins s σ H xs us Q I r h;obtain⟨x,n,t,k,rfl,ty,e,q⟩:=h;obtain⟨u,w',rfl,rx,z⟩:=vals2 r;cases z;exact Nq I rx ty e λtk=>⟨.bl k,H,I.tok _,rfl,q⟩
def Ng:mR X (.builtin "isinstance") (λxs H Q=>∃x C t k,xs=[x,.ref C]/\Jh X.K H x t/\PySem.W.kitOne X.K t (.ref C)=some k/\Q (.bl k) H):=by
 intro pins s σ H xs us Q I r h;obtain⟨x,C,t,k,rfl,ty,e,q⟩:=h;obtain⟨u,w',rfl,rx,z⟩:=vals2 r;cases z;exact Nq I rx ty e λtk=>⟨.bl k,H,I.tok _,rfl,q⟩
def ahC{x:Str}(T:String)(q:Gl X x)(hm:X.mg x=none)(z:bootBuiltins x=some (.type T))(hn:x≠ "__name__" :=by decide) (hd:(x==("__debug__" :Str))=false:=by decide):PE X (.Name x pos) (tC (.ty T)):=ahD q hm z rfl hn hd
end
section
variable{D:Ends}{σ:St}{H:Hp}{t u:TS}{te ta tb tc:TE}{tt tu:TT}{Q:VK}{QB:Bool->Hp->Prop}{QA:List V->Hp->Prop}{QG:St->Hp->Prop}{v x y:V}{vs:List V}{i j:Nat}{g:TG}{gs:TGs}{A:TA}{K:Fg_}
def ap_seq:Xb t u D σ H=t {D with nx:=u D} σ H:=rfl
def ap_next:Om D σ H=D.nx σ H:=rfl
def ap_asg:ajC te g D σ H=te σ H λx H1=>g x σ H1 D.nx:=rfl
def ap_name:Uu i v σ H QG=QG (σ.set i (some v)) H:=rfl
def ap_var:Mr i σ H Q=∃v,σ[i]? =some (some v)/\Q v H:=rfl
def ap_c:tC v σ H Q=Q v H:=rfl
def ap_op{r:R2}:tOp r ta tb σ H Q=ta σ H λx H1=>tb σ H1 λy H2=>r x y H2 Q:=rfl
def ap_un{r:V->Hp->VK->Prop}:tUn r ta σ H Q=ta σ H λx H1=>r x H1 Q:=rfl
def ap_rI{C:Int->Int->Prop}{f:Int->Int->V}:rI C f x y H Q=∃i j,x=.int i/\y=.int j/\C i j/\Q (f i j) H:=rfl
def ap_rI0{f:Int->Int->V}:rI0 f x y H Q=∃i j,x=.int i/\y=.int j/\Q (f i j) H:=rfl
def ap_rU{f:Int->V}:rU f x H Q=∃i,x=.int i/\Q (f i) H:=rfl
def ap_rEq:rEq x y H Q=(ahm x y=true/\Q (.bl (decide (x=y))) H):=rfl
def ap_rNe:rNe x y H Q=(ahm x y=true/\Q (.bl (!decide (x=y))) H):=rfl
def ap_ret:akz te D σ H=te σ H D.rt:=rfl
def ap_retN:aie D σ H=D.rt .non H:=rfl
def ap_drop:aiC te D σ H=te σ H λ_ H1=>D.nx σ H1:=rfl
def ap_if:Ve tt t u D σ H=tt σ H λb H1=>if b=true then t D σ H1 else u D σ H1:=rfl
def ap_test:Bv te σ H QB=te σ H λx H'=>∃k,x=.bl k/\QB k H':=rfl
def ap_tB:tB te σ H QB=te σ H λx H1=>∃c,x=.bl c/\QB c H1:=rfl
def ap_and:aks tt tu σ H QB=tt σ H λc H1=>if c=true then tu σ H1 QB else QB false H1:=rfl
def ap_or:tOr tt tu σ H QB=tt σ H λc H1=>if c=true then QB true H1 else tu σ H1 QB:=rfl
def ap_not:aku tt σ H QB=tt σ H λc H1=>QB (!c) H1:=rfl
def ap_andV:ajb ta tb σ H Q=ta σ H λx H1=>∃c,x=.bl c/\if c=true then tb σ H1 Q else Q (.bl false) H1:=rfl
def ap_notV:aiK ta σ H Q=ta σ H λx H1=>∃c,x=.bl c/\Q (.bl (!c)) H1:=rfl
def ap_ifE:tIf tt ta tb σ H Q=tt σ H λc H1=>if c=true then ta σ H1 Q else tb σ H1 Q:=rfl
def ap_call{sp:Sp}{dvs:List V}{E:XK}:YT sp dvs E A σ H Q=A σ H λvs H1=>sp (vs++dvs) H1 Q E:=rfl
def ap_nil:Xj σ H QA=QA [] H:=rfl
def ap_cons:DG ta A σ H QA=ta σ H λx H1=>A σ H1 λxs H2=>QA (x::xs) H2:=rfl
def ap_cb{r:List V->Hp->VK->Prop}:tCB r A σ H Q=A σ H λvs H1=>r vs H1 Q:=rfl
def ap_lst:aki A σ H Q=A σ H λxs H1=>xs.length<=sizeLine/\∀p,H1 p=none->Q (.ref p) (upd H1 p (.lst xs)):=rfl
def ap_tup:akx A σ H Q=A σ H λxs H1=>xs.length<=sizeLine/\∀p,H1 p=none->Q (.ref p) (upd H1 p (.tup xs)):=rfl
def ap_chain{r r':R2}:agv r r' ta tb tc σ H Q=ta σ H λx H1=>tb σ H1 λy H2=>r x y H2 λz q=>∃k,z=.bl k/\(if k=true then tc σ q λw' H4=>r' y w' H4 Q else Q (.bl false) q):=rfl
def ap_sl{r:V->Option Int->Option Int->Hp->VK->Prop}{tl th:TO}:tSl r te tl th σ H Q=te σ H λx H1=>tl σ H1 λl H2=>th σ H2 λu q=>r x l u q Q:=rfl
def ap_noPart{QO:Option Int->Hp->Prop}:Wb σ H QO=QO none H:=rfl
def ap_part{QO:Option Int->Hp->Prop}:aiG te σ H QO=te σ H λx H1=>∃i,x=.int i/\QO (some i) H1:=rfl
def ap_gNil:akr vs σ H QG=(vs=[]/\QG σ H):=rfl
def ap_gCons{u:TGs}:ajn g u vs σ H QG=∃v r,vs=v::r/\g v σ H λq H'=>u r q H' QG:=rfl
def ap_gTup{n:Nat}:akb K n gs v σ H QG=∃a xs,v=.ref a/\SqT K H a xs/\xs.length=n/\gs xs σ H QG:=rfl
def ap_bm{T:String}{r:V->List V->Hp->VK->Prop}:tBM K T r te A σ H Q=te σ H λx H1=>tyV K T x H1/\A σ H1 λxs H2=>r x xs H2 Q:=rfl
def ap_bm0{T:String}{r:V->List V->Hp->VK->Prop}:ajN K T r te σ H Q=te σ H λx H1=>tyV K T x H1/\r x [] H1 Q:=rfl
def ap_ixL{x y:V}:ajO K x y H Q=∃p xs i v,x=.ref p/\y=.int i/\SqL K H p xs/\atI xs i=some v/\Q v H:=rfl
def ap_slL{lo hi:Option Int}:ajF K x lo hi H Q=∃a xs,x=.ref a/\SqL K H a xs/\∀p,H p=none->Q (.ref p) (upd H p (.lst (Ym xs lo hi))):=rfl
def scal_int(i j:Int):ahm (.int i) (.int j)=true:=rfl
def scal_str(i j:Str):ahm (.str i) (.str j)=true:=rfl
def scal_bl(i j:Bool):ahm (.bl i) (.bl j)=true:=rfl
def start_eq(N:List Str)(vs:List V):start N vs=vs.map some++List.replicate (N.length - vs.length) none:=rfl
end
end L2
namespace L2
open PySem PySem.Spec PyProof.Rows
def Ia{α:Type}(l:List α):l.filter (λ_=>true)=l:=by simp
theorem Same.upd{H H':Hp}{a:Addr}{o:HO}(h:Same H H')(hn:H a=Option.none):Same H (upd H' a o):=λb u e=>by
 rw[iJ (jz e hn)];exact h b u e
def iG{H:Hp}{a:Addr}{o:HO}(hn:H a=Option.none):Same H (L2.upd H a o):=Same.upd (same_refl H) hn
section
variable{K:Fg_}{a D:Addr}{xs:List V}{g:TG}{tt:TT}{te:TE}{σ0:St}{H1:Hp}{Q:VK}
def BP{xs:List V}(J:It)(Sσ:St->Prop)(p:V->Bool)(F:V->V)(hD:H1 D=Option.none)(h0:Sσ σ0)(hz:xs.length<=sizeLine)
  (ae:∀(i:Nat) x H,xs[i]? =some x->Same H1 H->J.go i H/\∀y H',J.yld i H y H'->y=x/\H'=H) (ad:∀H,Same H1 H->J.stop xs.length H)
  (hs:∀x∈xs,∀(σ:St)(H:Hp)(R1:St->VK)(R2:St->Hp->Prop),Sσ σ->Same H1 H->(p x=true->∀z H6,Sσ z->Same H H6->R1 z (F x) H6)->(p x=false->∀z H6,Sσ z->Same H H6->R2 z H6)->
   g x σ H λz H4=>tt z H4 λb H5=>if b=true then te z H5 (R1 z)else R2 z H5)
  (k:∀H',Same H1 H'->H' D=some (.lst ((xs.filter p).map F))->Q (.ref D) H'):
  ∃W:Nat->Nat->List V->St->Hp->Prop,(∃m,W 0 m [] σ0 (upd H1 D (.lst [])))/\∀i m acc σ1 H2,W i m acc σ1 H2->H2 D=some (.lst acc)->
   (J.stop i H2/\Q (.ref D) H2)\/(J.go i H2/\∀x H3,J.yld i H2 x H3->g x σ1 H3 λz H4=>tt z H4 λb H5=>
    if b=true then te z H5 λv H6=>∃q,H6 D=some (.lst q)/\q.length<sizeLine/\∃m',m'<m/\W (i+1) m' (q++[v]) z (upd H6 D (.lst (q++[v])))
    else∃m',m'<m/\∃q,H5 D=some (.lst q)/\W (i+1) m' q z H5):=by
 refine⟨λi m acc σ H=>m=xs.length - i/\i<=xs.length/\Sσ σ/\Same H1 H/\acc=((xs.take i).filter p).map F,⟨xs.length,rfl,yj _,h0,iG hD,by simp⟩,?_⟩;rintro i m acc σ H ⟨rfl,hi,hσ,sm,rfl⟩ hA;by_cases ab:i<xs.length
 ·have hx:xs[i]? =some xs[i]:=by simp[ab]
  obtain⟨go,yl⟩:=ae i xs[i] H hx sm;refine .inr ⟨go,λy H' hy=>?_⟩;obtain⟨rfl,rfl⟩:=yl y H' hy;have aa:xs.take (i+1)=xs.take i++[xs[i]]:=by rw[yk,hx];rfl
  have af:(((xs.take i).filter p).map F).length<=i:=by
   rw[za];exact yw (yV _ _) (by rw[yD];exact Nat.min_le_left _ _)
  refine hs xs[i] (zzi ab) σ H' _ _ hσ sm (λhp z H6 ac s6=>?_) (λhp z H6 ac s6=>?_)
  ·refine⟨_,s6 _ _ hA,by omega,xs.length - (i+1),by omega,rfl,ab,ac,(sm.trans s6).upd hD,?_⟩
   rw[aa,yS,zp];simp[hp]
  ·refine⟨xs.length - (i+1),by omega,_,s6 _ _ hA,rfl,ab,ac,sm.trans s6,?_⟩
   rw[aa,yS,zp];simp[hp]
 ·have e:i=xs.length:=by omega
  subst e;refine .inl ⟨ad H sm,k H sm ?_⟩;rw[hA,yJ]
def Wq(Sσ:St->Prop)(p:V->Bool)(F:V->V)(hS:SqL K H1 a xs)(hD:H1 D=Option.none)(h0:Sσ σ0)(hz:xs.length<=sizeLine)
  (hs:∀x∈xs,∀(σ:St)(H:Hp)(R1:St->VK)(R2:St->Hp->Prop),Sσ σ->Same H1 H->(p x=true->∀z H6,Sσ z->Same H H6->R1 z (F x) H6)->(p x=false->∀z H6,Sσ z->Same H H6->R2 z H6)->
   g x σ H λz H4=>tt z H4 λb H5=>if b=true then te z H5 (R1 z)else R2 z H5)
  (k:∀H',Same H1 H'->H' D=some (.lst ((xs.filter p).map F))->Q (.ref D) H'):
  ∃W:Nat->Nat->List V->St->Hp->Prop,(∃m,W 0 m [] σ0 (upd H1 D (.lst [])))/\∀i m acc σ1 H2,W i m acc σ1 H2->H2 D=some (.lst acc)->
   ((Itl K a).stop i H2/\Q (.ref D) H2)\/((Itl K a).go i H2/\∀x H3,(Itl K a).yld i H2 x H3->g x σ1 H3 λz H4=>tt z H4 λb H5=>
    if b=true then te z H5 λv H6=>∃q,H6 D=some (.lst q)/\q.length<sizeLine/\∃m',m'<m/\W (i+1) m' (q++[v]) z (upd H6 D (.lst (q++[v])))
    else∃m',m'<m/\∃q,H5 D=some (.lst q)/\W (i+1) m' q z H5):=
 BP (Itl K a) Sσ p F hD h0 hz (λi x H hx sm=>⟨⟨xs,x,sm.seq hS,hx⟩,λy H' hy=>⟨zw ((hy.2 xs (sm.seq hS)).symm.trans hx),hy.1⟩⟩) (λH sm=>⟨xs,sm.seq hS,zj _⟩) hs k
def Ub{lo:Int}{n:Nat}(Sσ:St->Prop)(p:V->Bool)(F:V->V)(hD:H1 D=Option.none)(h0:Sσ σ0)(hz:n<=sizeLine)
  (hs:∀i:Nat,i<n->∀(σ:St)(H:Hp)(R1:St->VK)(R2:St->Hp->Prop),Sσ σ->Same H1 H->(p (.int (lo+i))=true->∀z H6,Sσ z->Same H H6->R1 z (F (.int (lo+i))) H6)->(p (.int (lo+i))=false->∀z H6,Sσ z->Same H H6->R2 z H6)->
   g (.int (lo+i)) σ H λz H4=>tt z H4 λb H5=>if b=true then te z H5 (R1 z)else R2 z H5)
  (k:∀H',Same H1 H'->H' D=some (.lst ((((List.range n).map fun(i:Nat)=>V.int (lo+i)).filter p).map F))->Q (.ref D) H'):
  ∃W:Nat->Nat->List V->St->Hp->Prop,(∃m,W 0 m [] σ0 (upd H1 D (.lst [])))/\∀i m acc σ1 H2,W i m acc σ1 H2->H2 D=some (.lst acc)->
   ((Itr lo n).stop i H2/\Q (.ref D) H2)\/((Itr lo n).go i H2/\∀x H3,(Itr lo n).yld i H2 x H3->g x σ1 H3 λz H4=>tt z H4 λb H5=>
    if b=true then te z H5 λv H6=>∃q,H6 D=some (.lst q)/\q.length<sizeLine/\∃m',m'<m/\W (i+1) m' (q++[v]) z (upd H6 D (.lst (q++[v])))
    else∃m',m'<m/\∃q,H5 D=some (.lst q)/\W (i+1) m' q z H5):=by
 refine BP (xs:=(List.range n).map fun(i:Nat)=>V.int (lo+i)) (Itr lo n) Sσ p F hD h0 (by simpa using hz) (λi x H hx sm=>?_) (λH sm=>?_) (λx hx σ H R1 R2 h1 h2 h3 h4=>?_) k
 ·have hi:i<n:=by simpa using (zo.mp hx).1
  have e:x=.int (lo+i):=by
   rw[zh,List.getElem?_range hi]at hx;exact(zw hx).symm
  exact⟨hi,λy H' hy=>⟨hy.2.trans e.symm,hy.1⟩⟩
 ·show n<=_
  simp
 ·obtain⟨i,hi,rfl⟩:=zi.mp hx
  exact hs i (y4.mp hi) σ H R1 R2 h1 h2 h3 h4
end
end L2
namespace L2
open PySem PySem.Spec PyProof.Rows
inductive DV where
 |non|bl (b:Bool)|int (i:Int)|str (x:Str)|lst (xs:List DV)|tup (xs:List DV)
mutual
inductive JP(K:Fg_)(H:Hp):V->DV->Prop
 |non:JP K H .non .non
 |bl (b:Bool):JP K H (.bl b) (.bl b)
 |int (i:Int):JP K H (.int i) (.int i)
 |str (x:Str):JP K H (.str x) (.str x)
 |lst {a:Addr} {vs:List V} {ds:List DV} (h:SqL K H a vs) (hs:qD K H vs ds):JP K H (.ref a) (.lst ds)
 |tup {a:Addr} {vs:List V} {ds:List DV} (h:SqT K H a vs) (hs:qD K H vs ds):JP K H (.ref a) (.tup ds)
inductive qD(K:Fg_)(H:Hp):List V->List DV->Prop
 |nil:qD K H [] []
 |cons {v:V} {d:DV} {vs:List V} {ds:List DV} (h:JP K H v d) (hs:qD K H vs ds):qD K H (v::vs) (d::ds)
end
mutual
noncomputable def lZ:DV->DV->Bool
 |.non,.non=>true
 |.bl a,.bl b=>a==b
 |.int a,.int b=>a==b
 |.bl a,.int b=>(if a then 1 else 0)==b
 |.int a,.bl b=>a==(if b then 1 else 0)
 |.str a,.str b=>a==b
 |.lst xs,.lst ys=>BJ xs ys
 |.tup xs,.tup ys=>BJ xs ys
 |_,_=>false
noncomputable def BJ:List DV->List DV->Bool
 |[],[]=>true
 |x::xs,y::ys=>lZ x y && BJ xs ys
 |_,_=>false
end
mutual
noncomputable def Jg:DV->Nat
 |.lst xs=>Ab xs+1
 |.tup xs=>Ab xs+1
 |_=>0
noncomputable def Ab:List DV->Nat
 |[]=>0
 |x::xs=>max (Jg x) (Ab xs)
end
theorem qD.length{K:Fg_}{H:Hp}:∀{vs:List V}{ds:List DV},qD K H vs ds->vs.length=ds.length
 |_,_,.nil=>rfl
 |_,_,.cons _ hs=>congrArg (·+1) (qD.length hs)
theorem qD.get{K:Fg_}{H:Hp}:∀{vs:List V}{ds:List DV}{j:Nat}{v:V}{d:DV},qD K H vs ds->vs[j]? =some v->ds[j]? =some d->JP K H v d
 |_,_,_,_,_,.nil,h,_=>by simp at h
 |_,_,0,_,_,.cons h _,e1,e2=>by simp at e1 e2;subst e1 e2;exact h
 |_,_,j+1,_,_,.cons _ hs,e1,e2=>qD.get (j:=j) hs (by simpa using e1) (by simpa using e2)
theorem Mz:∀{ds:List DV}{j:Nat}{d:DV},ds[j]? =some d->Jg d<=Ab ds
 |[],_,_,h=>by simp at h
 |x::xs,0,d,h=>by simp at h;subst h;unfold Ab;exact Nat.le_max_left _ _
 |x::xs,j+1,d,h=>by unfold Ab;exact yw (Mz (j:=j) (by simpa using h)) (Nat.le_max_right _ _)
theorem wI:∀(xs ys:List DV),xs.length=ys.length->BJ xs ys=(List.range xs.length).all λj=>lZ (xs.getD j .non) (ys.getD j .non)
 |[],[],_=>rfl
 |x::xs,y::ys,h=>by
  unfold BJ;rw[wI xs ys (by simpa using h),yo,List.range_succ_eq_map,List.all_cons,List.all_map];rfl
 |[],_::_,h=>by simp at h
 |_::_,[],h=>by simp at h
theorem vp:∀(xs ys:List DV),xs.length≠ys.length->BJ xs ys=false
 |[],[],h=>absurd rfl h
 |x::xs,y::ys,h=>by
  unfold BJ;rw[vp xs ys (by simpa using h),yyn]
 |[],_::_,_=>by unfold BJ;rfl
 |_::_,[],_=>by unfold BJ;rfl
def Za(xs ys:List DV):lZ (.lst xs) (.lst ys)=BJ xs ys:=by unfold lZ;rfl
def Zm(xs ys:List DV):lZ (.tup xs) (.tup ys)=BJ xs ys:=by unfold lZ;rfl
mutual
theorem Nh:∀d:DV,lZ d d=true
 |.non=>by unfold lZ;rfl
 |.bl a=>by unfold lZ;simp
 |.int a=>by unfold lZ;simp
 |.str a=>by unfold lZ;simp
 |.lst xs=>by unfold lZ;exact sV xs
 |.tup xs=>by unfold lZ;exact sV xs
theorem sV:∀ds:List DV,BJ ds ds=true
 |[]=>by unfold BJ;rfl
 |x::xs=>by unfold BJ;rw[Nh x,sV xs];rfl
end
section
variable{X:Cx}{pins:List (Addr×Obj)}{σ:St}{H:Hp}{s:Shared}
def Inv.noboth(I:Inv X pins σ H s){a:Addr}{xs ys:List V}(h:SqL X.K H a xs)(h':SqT X.K H a ys):False:=by
 obtain⟨its,r,⟨o,n,e,c,_⟩,_⟩:=I.list h;obtain⟨its',r',⟨o',q,z,_⟩,_⟩:=I.tuple h';rw[e]at q;cases q;rw[c]at z;exact absurd z (by decide)
mutual
theorem JP.inj(I:Inv X pins σ H s):∀{v:V}{d d':DV},JP X.K H v d->JP X.K H v d'->d=d'
 |_,_,_,.non,.non=>rfl
 |_,_,_,.bl _,.bl _=>rfl
 |_,_,_,.int _,.int _=>rfl
 |_,_,_,.str _,.str _=>rfl
 |_,_,_,.lst h hs,.lst h' hs'=>by
  have e:=I.list_inj h h';subst e;rw[qD.inj I hs hs']
 |_,_,_,.tup h hs,.tup h' hs'=>by
  have e:=I.tuple_inj h h';subst e;rw[qD.inj I hs hs']
 |_,_,_,.lst h _,.tup h' _=>(I.noboth h h').elim
 |_,_,_,.tup h _,.lst h' _=>(I.noboth h' h).elim
theorem qD.inj(I:Inv X pins σ H s):∀{vs:List V}{ds ds':List DV},qD X.K H vs ds->qD X.K H vs ds'->ds=ds'
 |_,_,_,.nil,.nil=>rfl
 |_,_,_,.cons h hs,.cons h' hs'=>by rw[JP.inj I h h',qD.inj I hs hs']
end
def in1_units(A:Around):A.in1.units=A.units+1:=rfl
def sI(I:Inv X pins σ H s){A:Around}{d1 d2:DV}{v1 v2:V}{u1 z:Value}(hd:Jg d1<=0)(aa:A.units<cLine)(h1:JP X.K H v1 d1)(h2:JP X.K H v2 d2)(r1:RelV v1 u1)(q:RelV v2 z):SeqAt.EqAt A s u1 z (lZ d1 d2):=by
 cases h1 with
 |lst h hs=>unfold Jg at hd;omega
 |tup h hs=>unfold Jg at hd;omega
 |non=>
  cases (show u1=Value.none from r1)
  cases h2 with
  |non=>cases (show z=Value.none from q);unfold lZ;exact SeqAt.EqAt.same _
  |bl b=>cases (show z=Value.bool b from q);unfold lZ;exact SeqAt.EqAt.none_bool b
  |int i=>obtain⟨t,e⟩:=(show∃t,z=Value.int i t from q);subst e;unfold lZ;exact SeqAt.EqAt.none_int i t
  |str x=>obtain⟨t,e⟩:=(show∃t,z=Value.str x t from q);subst e;unfold lZ;exact SeqAt.EqAt.none_str x t
  |lst h hs=>obtain⟨its,_,p,_⟩:=I.list h;cases q;unfold lZ;exact SeqAt.EqAt.none_list p.isList aa
  |tup h hs=>obtain⟨its,_,p,_⟩:=I.tuple h;cases q;unfold lZ;exact SeqAt.EqAt.none_tuple p aa
 |bl a=>
  cases (show u1=Value.bool a from r1)
  cases h2 with
  |non=>cases (show z=Value.none from q);unfold lZ;exact SeqAt.EqAt.bool_none a
  |bl b=>cases (show z=Value.bool b from q);unfold lZ;exact SeqAt.EqAt.bool_bool a b
  |int i=>obtain⟨t,e⟩:=(show∃t,z=Value.int i t from q);subst e;unfold lZ;exact SeqAt.EqAt.bool_int a i t
  |str x=>obtain⟨t,e⟩:=(show∃t,z=Value.str x t from q);subst e;unfold lZ;exact SeqAt.EqAt.bool_str a x t
  |lst h hs=>obtain⟨its,_,p,_⟩:=I.list h;cases q;unfold lZ;exact SeqAt.EqAt.bool_list a p.isList aa
  |tup h hs=>obtain⟨its,_,p,_⟩:=I.tuple h;cases q;unfold lZ;exact SeqAt.EqAt.bool_tuple a p aa
 |int a=>
  obtain⟨t1,e1⟩:=(show∃t,u1=Value.int a t from r1);subst e1
  cases h2 with
  |non=>cases (show z=Value.none from q);unfold lZ;exact SeqAt.EqAt.int_none a t1
  |bl b=>cases (show z=Value.bool b from q);unfold lZ;exact SeqAt.EqAt.int_bool a t1 b
  |int i=>obtain⟨t,e⟩:=(show∃t,z=Value.int i t from q);subst e;unfold lZ;exact SeqAt.EqAt.int_int a t1 i t
  |str x=>obtain⟨t,e⟩:=(show∃t,z=Value.str x t from q);subst e;unfold lZ;exact SeqAt.EqAt.int_str a t1 x t
  |lst h hs=>obtain⟨its,_,p,_⟩:=I.list h;cases q;unfold lZ;exact SeqAt.EqAt.int_list a t1 p.isList aa
  |tup h hs=>obtain⟨its,_,p,_⟩:=I.tuple h;cases q;unfold lZ;exact SeqAt.EqAt.int_tuple a t1 p aa
 |str a=>
  obtain⟨t1,e1⟩:=(show∃t,u1=Value.str a t from r1);subst e1
  cases h2 with
  |non=>cases (show z=Value.none from q);unfold lZ;exact SeqAt.EqAt.str_none a t1
  |bl b=>cases (show z=Value.bool b from q);unfold lZ;exact SeqAt.EqAt.str_bool a t1 b
  |int i=>obtain⟨t,e⟩:=(show∃t,z=Value.int i t from q);subst e;unfold lZ;exact SeqAt.EqAt.str_int a t1 i t
  |str x=>obtain⟨t,e⟩:=(show∃t,z=Value.str x t from q);subst e;unfold lZ;exact SeqAt.EqAt.str_str a t1 x t
  |lst h hs=>obtain⟨its,_,p,_⟩:=I.list h;cases q;unfold lZ;exact SeqAt.EqAt.str_list a t1 p.isList aa
  |tup h hs=>obtain⟨its,_,p,_⟩:=I.tuple h;cases q;unfold lZ;exact SeqAt.EqAt.str_tuple a t1 p aa
def wU{A:Around}{ad ac:List V}{aa ab:List DV}{z q:List Value}(r1:Vals ad z)(r2:Vals ac q)(h1:qD X.K H ad aa)(h2:qD X.K H ac ab)
  (ih:∀(d1 d2:DV)(v1 v2:V)(u1 u2:Value),Jg d1<=Ab aa->JP X.K H v1 d1->JP X.K H v2 d2->RelV v1 u1->RelV v2 u2->SeqAt.EqAt A s u1 u2 (lZ d1 d2)):
  ∀(j:Nat)(a:j<z.toArray.size)(b:j<q.toArray.size),SeqAt.EqAt A s z.toArray[j] q.toArray[j] (lZ (aa.getD j .non) (ab.getD j .non)):=by
 intro j a b;have l1:=r1.length;have l2:=r2.length;have m1:=h1.length;have m2:=h2.length;simp only[zk]at a b;have a1:j<ad.length:=by omega
 have a2:j<ac.length:=by omega
 have b1:j<aa.length:=by omega
 have b2:j<ab.length:=by omega
 obtain⟨w1,e1,q1⟩:=r1.get (i:=j) (x:=ad[j]) (by simp[a1]);obtain⟨w2,e2,q2⟩:=r2.get (i:=j) (x:=ac[j]) (by simp[a2]);have z1:z.toArray[j]=w1:=by simpa [a] using e1
 have z2:q.toArray[j]=w2:=by simpa [b] using e2
 have y1:aa.getD j .non=aa[j]:=by simp[List.getD,b1]
 have y2:ab.getD j .non=ab[j]:=by simp[List.getD,b2]
 rw[z1,z2,y1,y2];exact ih _ _ _ _ _ _ (Mz (j:=j) (by simp[b1])) (h1.get (j:=j) (by simp[a1]) (by simp[b1])) (h2.get (j:=j) (by simp[a2]) (by simp[b2])) q1 q2
def agr(I:Inv X pins σ H s):∀(n:Nat)(A:Around)(d1 d2:DV)(v1 v2:V)(u1 q:Value),Jg d1<=n->A.units+n<cLine->JP X.K H v1 d1->JP X.K H v2 d2->RelV v1 u1->RelV v2 q->SeqAt.EqAt A s u1 q (lZ d1 d2):=by
 intro n
 induction n with
 |zero=>exact λA d1 d2 v1 v2 u1 q hd hu h1 h2 r1 z=>sI I hd (by omega) h1 h2 r1 z
 |succ n ih=>
  intro A d1 d2 v1 v2 u1 q hd hu h1 h2 r1 z;have hu':A.units<cLine:=by omega
  have ad:A.in1.units+n<cLine:=by rw[in1_units];omega
  cases h1 with
  |non=>exact sI I (by unfold Jg;omega) hu' .non h2 r1 z
  |bl a=>exact sI I (by unfold Jg;omega) hu' (.bl a) h2 r1 z
  |int a=>exact sI I (by unfold Jg;omega) hu' (.int a) h2 r1 z
  |str a=>exact sI I (by unfold Jg;omega) hu' (.str a) h2 r1 z
  | @lst a vs ds h hs=>
   obtain⟨its,rv,p,_⟩:=I.list h;cases (show u1=Value.ref a from r1);have hd':Ab ds<=n:=by unfold Jg at hd;omega
   cases h2 with
   |non=>cases (show q=Value.none from z);unfold lZ;exact SeqAt.EqAt.list_none p.isList hu'
   |bl b=>cases (show q=Value.bool b from z);unfold lZ;exact SeqAt.EqAt.list_bool b p.isList hu'
   |int i=>obtain⟨t,e⟩:=(show∃t,q=Value.int i t from z);subst e;unfold lZ;exact SeqAt.EqAt.list_int i t p.isList hu'
   |str x=>obtain⟨t,e⟩:=(show∃t,q=Value.str x t from z);subst e;unfold lZ;exact SeqAt.EqAt.list_str x t p.isList hu'
   | @lst a2 vs2 ds2 h' hs'=>
    obtain⟨aa,ab,p2,_⟩:=I.list h';cases (show q=Value.ref a2 from z);unfold lZ;by_cases ac:a=a2
    ·subst ac
     have e:=I.list_inj h h';subst e;rw[qD.inj I hs hs',sV];exact SeqAt.EqAt.same _
    ·have l1:=rv.length
     have l2:=ab.length;have m1:=hs.length;have m2:=hs'.length;by_cases hz:ds.length=ds2.length
     ·rw[wI _ _ hz]
      have:=SeqAt.EqAt.of_refs ac (SeqAt.RcAt.lists (A:=A) (e:=λj=>lZ (ds.getD j .non) (ds2.getD j .non)) p.isList p2.isList (by simp only[zk];omega) hu'
       (wU rv ab hs hs' λd1 d2 v1 v2 u1 q ae g1 g2 q1 q2=>ih A.in1 d1 d2 v1 v2 u1 q (by omega) ad g1 g2 q1 q2))
      rw[zk,show its.length=ds.length by omega]at this;exact this
     ·rw[vp _ _ hz]
      exact SeqAt.EqAt.of_refs ac (SeqAt.RcAt.lists_lengths p.isList p2.isList (by simp only[zk,bne_iff_ne];omega) hu')
   | @tup a2 vs2 ds2 h' hs'=>
    obtain⟨aa,ab,p2,_⟩:=I.tuple h';cases (show q=Value.ref a2 from z);unfold lZ;exact SeqAt.EqAt.list_tuple p.isList p2 hu'
  | @tup a vs ds h hs=>
   obtain⟨its,rv,p,_⟩:=I.tuple h;cases (show u1=Value.ref a from r1);have hd':Ab ds<=n:=by unfold Jg at hd;omega
   cases h2 with
   |non=>cases (show q=Value.none from z);unfold lZ;exact SeqAt.EqAt.tuple_none p hu'
   |bl b=>cases (show q=Value.bool b from z);unfold lZ;exact SeqAt.EqAt.tuple_bool b p hu'
   |int i=>obtain⟨t,e⟩:=(show∃t,q=Value.int i t from z);subst e;unfold lZ;exact SeqAt.EqAt.tuple_int i t p hu'
   |str x=>obtain⟨t,e⟩:=(show∃t,q=Value.str x t from z);subst e;unfold lZ;exact SeqAt.EqAt.tuple_str x t p hu'
   | @lst a2 vs2 ds2 h' hs'=>
    obtain⟨aa,ab,p2,_⟩:=I.list h';cases (show q=Value.ref a2 from z);unfold lZ;exact SeqAt.EqAt.tuple_list p p2.isList hu'
   | @tup a2 vs2 ds2 h' hs'=>
    obtain⟨aa,ab,p2,_⟩:=I.tuple h';cases (show q=Value.ref a2 from z);unfold lZ;by_cases ac:a=a2
    ·subst ac
     have e:=I.tuple_inj h h';subst e;rw[qD.inj I hs hs',sV];exact SeqAt.EqAt.same _
    ·have l1:=rv.length
     have l2:=ab.length;have m1:=hs.length;have m2:=hs'.length
     have:=SeqAt.EqAt.of_refs ac (SeqAt.RcAt.tuples (A:=A) (e:=λj=>lZ (ds.getD j .non) (ds2.getD j .non)) p p2 hu'
       (wU rv ab hs hs' λd1 d2 v1 v2 u1 q ae g1 g2 q1 q2=>ih A.in1 d1 d2 v1 v2 u1 q (by omega) ad g1 g2 q1 q2))
     simp only[zk]at this;by_cases hz:ds.length=ds2.length
     ·rw[wI _ _ hz]
      rw[show its.length=ds.length by omega,show aa.length=ds.length by omega,Nat.min_self,beq_self_eq_true,Bool.and_true]at this;exact this
     ·rw[vp _ _ hz]
      rw[show(its.length==aa.length)=false from beq_eq_false_iff_ne.mpr (by omega),yyn]at this;exact this
noncomputable def ajU(K:Fg_):R2:=λx y H Q=>∃d1 d2,JP K H x d1/\JP K H y d2/\1<=Jg d1/\Jg d1<=20/\Q (.bl (!lZ d1 d2)) H
def aji{k:Nat}(hr:qM k X.A):OpR X (compareOp .NotEq) (ajU X.K):=by
 intro pins s σ H x y v u Q I rx ry h;obtain⟨d1,d2,h1,h2,ad,hd,q⟩:=h;have hr':=hr.units;have hu':X.A.units<cLine:=by omega
 have ae:X.A.in1.units+20<cLine:=by rw[in1_units];omega
 have aa:∀b,SeqAt.RcNeAt X.A s v u b->b=(!lZ d1 d2)->wpAny (model X.prog X.w) X.A (compareOp .NotEq v u) (EP X pins σ Q) X.xe s:=λb hb e=>by
  subst e;exact hb X.prog X.w X.xe _ ⟨.bl _,H,I,rfl,q⟩
 cases h1 with
 |non=>unfold Jg at ad;omega
 |bl a=>unfold Jg at ad;omega
 |int a=>unfold Jg at ad;omega
 |str a=>unfold Jg at ad;omega
 | @lst a vs ds h hs=>
  obtain⟨its,rv,p,_⟩:=I.list h;cases (show v=Value.ref a from rx);have hd':Ab ds<=20:=by unfold Jg at hd;omega
  cases h2 with
  |non=>cases (show u=Value.none from ry);exact aa _ (SeqAt.RcNeAt.list_none p.isList hu') (by unfold lZ;rfl)
  |bl b=>cases (show u=Value.bool b from ry);exact aa _ (SeqAt.RcNeAt.list_bool b p.isList hu') (by unfold lZ;rfl)
  |int i=>obtain⟨t,e⟩:=(show∃t,u=Value.int i t from ry);subst e;exact aa _ (SeqAt.RcNeAt.list_int i t p.isList hu') (by unfold lZ;rfl)
  |str z=>obtain⟨t,e⟩:=(show∃t,u=Value.str z t from ry);subst e;exact aa _ (SeqAt.RcNeAt.list_str z t p.isList hu') (by unfold lZ;rfl)
  | @tup a2 vs2 ds2 h' hs'=>
   obtain⟨ab,ac,p2,_⟩:=I.tuple h';cases (show u=Value.ref a2 from ry);exact aa _ (SeqAt.RcNeAt.list_tuple p.isList p2 hu') (by unfold lZ;rfl)
  | @lst a2 vs2 ds2 h' hs'=>
   obtain⟨ab,ac,p2,_⟩:=I.list h';cases (show u=Value.ref a2 from ry);have l1:=rv.length;have l2:=ac.length;have m1:=hs.length;have m2:=hs'.length;by_cases hz:ds.length=ds2.length
   ·refine aa _ (SeqAt.RcNeAt.lists (A:=X.A) (e:=λj=>lZ (ds.getD j .non) (ds2.getD j .non)) p.isList p2.isList (by simp only[zk];omega) hu'
     (wU rv ac hs hs' λd1 d2 v1 v2 u1 u2 af g1 g2 q1 q2=>agr I 20 X.A.in1 d1 d2 v1 v2 u1 u2 (by omega) ae g1 g2 q1 q2)) ?_
    rw[Za,wI _ _ hz,zk,show its.length=ds.length by omega]
   ·refine aa _ (SeqAt.RcNeAt.lists_lengths p.isList p2.isList (by simp only[zk,bne_iff_ne];omega) hu') ?_
    unfold lZ;rw[vp _ _ hz]
    all_goals rfl
 | @tup a vs ds h hs=>
  obtain⟨its,rv,p,_⟩:=I.tuple h;cases (show v=Value.ref a from rx);have hd':Ab ds<=20:=by unfold Jg at hd;omega
  cases h2 with
  |non=>cases (show u=Value.none from ry);exact aa _ (SeqAt.RcNeAt.tuple_none p hu') (by unfold lZ;rfl)
  |bl b=>cases (show u=Value.bool b from ry);exact aa _ (SeqAt.RcNeAt.tuple_bool b p hu') (by unfold lZ;rfl)
  |int i=>obtain⟨t,e⟩:=(show∃t,u=Value.int i t from ry);subst e;exact aa _ (SeqAt.RcNeAt.tuple_int i t p hu') (by unfold lZ;rfl)
  |str z=>obtain⟨t,e⟩:=(show∃t,u=Value.str z t from ry);subst e;exact aa _ (SeqAt.RcNeAt.tuple_str z t p hu') (by unfold lZ;rfl)
  | @lst a2 vs2 ds2 h' hs'=>
   obtain⟨ab,ac,p2,_⟩:=I.list h';cases (show u=Value.ref a2 from ry);exact aa _ (SeqAt.RcNeAt.tuple_list p p2.isList hu') (by unfold lZ;rfl)
  | @tup a2 vs2 ds2 h' hs'=>
   obtain⟨ab,ac,p2,_⟩:=I.tuple h';cases (show u=Value.ref a2 from ry);have l1:=rv.length;have l2:=ac.length;have m1:=hs.length;have m2:=hs'.length
   refine aa _ (SeqAt.RcNeAt.tuples (A:=X.A) (e:=λj=>lZ (ds.getD j .non) (ds2.getD j .non)) p p2 hu'
     (wU rv ac hs hs' λd1 d2 v1 v2 u1 u2 af g1 g2 q1 q2=>agr I 20 X.A.in1 d1 d2 v1 v2 u1 u2 (by omega) ae g1 g2 q1 q2)) ?_
   rw[Zm];simp only[zk];by_cases hz:ds.length=ds2.length
   ·rw[wI _ _ hz,show its.length=ds.length by omega,show ab.length=ds.length by omega,Nat.min_self,beq_self_eq_true,Bool.and_true]
   ·rw[vp _ _ hz,show(its.length==ab.length)=false from beq_eq_false_iff_ne.mpr (by omega),yyn]
theorem DN(K:Fg_)(H:Hp):∀ns:List Int,qD K H (ns.map V.int) (ns.map DV.int)
 |[]=> .nil
 |n::r=> .cons (.int n) (DN K H r)
theorem Kg:∀xs:List Int,Ab (xs.map DV.int)=0
 |[]=>by simp[Ab]
 |x::xs=>by simp[Ab,Jg,Kg xs]
end
end L2
namespace L2
open PySem PySem.Spec PyProof.Rows
section
variable{X:Cx}{K:Fg_}{a b o e:Expr}{ta tb to te:TE}{pos:Pos}{tg:Expr}
def kW(q:X.K=K:=by rfl):IxR X (ajO K):=q▸ahx
def iW(q:X.K=K:=by rfl):IxR X (agH K):=q▸ajf
def Su(q:X.K=K:=by rfl):SlR X (ajF K):=q▸ahg
def QW{k:Nat}(q:qM k X.A)(z:X.K=K:=by rfl):OpR X (compareOp .NotEq) (ajU K):=z▸aji q
noncomputable def ajJ(K:Fg_):List V->Hp->VK->Prop:=λxs H Q=>∃p ys,xs=[.ref p]/\(SqL K H p ys\/SqT K H p ys)/\Q (.int ys.length) H
def mG(q:X.K=K:=by rfl):mR X (.builtin "len") (ajJ K):=q▸Og
noncomputable def ajE(K:Fg_):List V->Hp->VK->Prop:=λxs H Q=>∃(a:Addr)(ns:List Int),xs=[.ref a]/\SqL K H a (ns.map V.int)/\Q (.int ns.sum) H
def lX(z:X.calm=true)(q:X.K=K:=by rfl):mR X (.builtin "sum") (ajE K):=q▸Xn z
noncomputable def ajQ(K:Fg_):List V->Hp->VK->Prop:=λxs H Q=>∃(a:Addr)(bs:List Bool),xs=[.ref a]/\SqL K H a (bs.map V.bl)/\Q (.bl (bs.any id)) H
def Mp(z:X.calm=true)(q:X.K=K:=by rfl):mR X (.builtin "any") (ajQ K):=q▸XH z
noncomputable def ajI(K:Fg_):List V->Hp->VK->Prop:=λxs H Q=>∃(a:Addr)(bs:List Bool),xs=[.ref a]/\SqL K H a (bs.map V.bl)/\Q (.bl (bs.all id)) H
def XX(z:X.calm=true)(q:X.K=K:=by rfl):mR X (.builtin "all") (ajI K):=q▸Vk z
noncomputable def Gu(K:Fg_):List V->Hp->VK->Prop:=λxs H Q=>∃p ys,xs=[.ref p]/\(SqL K H p ys\/SqT K H p ys)/\∀l,H l=none->Q (.ref l) (upd H l (.lst ys))
def pN(q:X.K=K:=by rfl):mR X (.type "list") (Gu K):=q▸Mm
noncomputable def akl(K:Fg_):List V->Hp->VK->Prop:=λxs H Q=>∃x n t k,xs=[x,.ty n]/\Jh K H x t/\PySem.W.kitOne K t (.type n)=some k/\Q (.bl k) H
def Gk(q:X.K=K:=by rfl):mR X (.builtin "isinstance") (akl K):=q▸Nu
noncomputable def ahT(K:Fg_):List V->Hp->VK->Prop:=λxs H Q=>∃x C t k,xs=[x,.ref C]/\Jh K H x t/\PySem.W.kitOne K t (.ref C)=some k/\Q (.bl k) H
def rY(q:X.K=K:=by rfl):mR X (.builtin "isinstance") (ahT K):=q▸Ng
noncomputable def ako:List V->Hp->VK->Prop:=λxs H Q=>∃i j,xs=[.int i,.int j]/\Q (.int (if j<i then j else i)) H
def Vq(q:X.calm=true):mR X (.builtin "min") ako:=Ww q
def lN(q:PE X o to)(z:X.K=K:=by rfl):PI X tg o (Wf K to):=z▸ahs q
def nu{es:List Expr}{k:Nat}{t:TGs}{n:Nat}(q:X.calm=true)(h:PGs X es t)(hn:(assignEach es X.env).length=n:=by rfl)(hst:(assignEach es X.env).findIdx? (·.1)=none:=by rfl)(hK:X.K=K:=by rfl):PG X (.Tuple es k pos) (akb K n t):=hK▸aiw q h hn hst
def ahb{f:Str}(q:PE X e ta)(hb:attributeBase e f X.env (eval e X.env)=eval e X.env)(z:X.K=K:=by rfl):PE X (.Attribute e f pos) (aiF K ta f):=z▸aiO q hb
def vD{T:String}{name:Str}{id:String}{r:V->List V->Hp->VK->Prop}{es:List Expr}{t:TA}{apos cpos:Pos}(pa:PlainAttrs T)(slot:Slot T name id)(z:typeOf (.builtin id)=pure (.type "method_descriptor")) (hm:MtR X id r) (ho:PE X o to) (ha:PA X (e::es) t)
  (q:attributeBase o name X.env (eval o X.env)=eval o X.env:=by rfl)
  (hfew:((backTo cpos (starEach (e::es) X.env)).all (λx=>!x.1) && (backToKw cpos (keywordEach [] X.env)).all (λx=>x.1.isSome)
   && decide ((e::es).length+([]:List Keyword).length+(if([]:List Keyword).isEmpty then 0 else 1)<30))=true:=by rfl)
  (hline:(apos.endLine==cpos.line)=true:=by rfl) (hs:starEach (e::es) X.env=(false,eval e X.env)::starEach es X.env:=by rfl) (hplain:(backTo cpos (starEach es X.env)).any (·.1)=false:=by rfl) (hK:X.K=K:=by rfl):
  PE X (.Call (.Attribute o name apos) (e::es) [] cpos) (tBM K T r to t):=hK▸ajS pa slot z hm ho ha q hfew hline hs hplain
def HY{T:String}{name:Str}{id:String}{r:V->List V->Hp->VK->Prop}{apos cpos:Pos}(pa:PlainAttrs T)(slot:Slot T name id)(z:typeOf (.builtin id)=pure (.type "method_descriptor")) (hm:MtR X id r) (ho:PE X o to)
  (q:attributeBase o name X.env (eval o X.env)=eval o X.env:=by rfl) (hline:(apos.endLine==cpos.line)=true:=by rfl) (hK:X.K=K:=by rfl):PE X (.Call (.Attribute o name apos) [] [] cpos) (ajN K T r to):=hK▸ahX pa slot z hm ho q hline
end
section
variable{K:Fg_}{H:Hp}{Q:VK}{p:Addr}{x y:V}
def ap_noIf{σ:St}{QB:Bool->Hp->Prop}:JF σ H QB=QB true H:=rfl
def ap_rLen:ajJ K [.ref p] H Q=∃ys,(SqL K H p ys\/SqT K H p ys)/\Q (.int (ys.length:Int)) H:=by simp[ajJ]
def ap_rSum:ajE K [.ref p] H Q=∃ns:List Int,SqL K H p (ns.map V.int)/\Q (.int ns.sum) H:=by simp[ajE]
def ap_rAny:ajQ K [.ref p] H Q=∃bs:List Bool,SqL K H p (bs.map V.bl)/\Q (.bl (bs.any id)) H:=by simp[ajQ]
def ap_rAll:ajI K [.ref p] H Q=∃bs:List Bool,SqL K H p (bs.map V.bl)/\Q (.bl (bs.all id)) H:=by simp[ajI]
def ap_rListOf:Gu K [.ref p] H Q=∃ys,(SqL K H p ys\/SqT K H p ys)/\∀l,H l=none->Q (.ref l) (upd H l (.lst ys)):=by simp[Gu]
def ap_rIsT{n:String}:akl K [x,.ty n] H Q=∃t k,Jh K H x t/\PySem.W.kitOne K t (.type n)=some k/\Q (.bl k) H:=propext ⟨fun⟨z,q,t,k,e,h⟩=>by
  injection e with e1 e2
  injection e2 with e2 _
  injection e2 with e2
  subst e1 e2;exact⟨t,k,h⟩,fun⟨t,k,h⟩=>⟨x,n,t,k,rfl,h⟩⟩
def ap_append:Lx (.ref p) [y] H Q=∃xs,H p=some (.lst xs)/\xs.length<sizeLine/\Q .non (upd H p (.lst (xs++[y]))):=by simp[Lx]
def ap_rCat{l b:Addr}:akc (.ref l) (.ref b) H Q=∃xs zs,H l=some (.lst xs)/\H b=some (.lst zs)/\xs.length+zs.length<=sizeLine/\∀p,H p=none->Q (.ref p) (upd H p (.lst (xs++zs))):=by simp[akc]
def ap_rMin{i j:Int}:ako [.int i,.int j] H Q=Q (.int (if j<i then j else i)) H:=propext ⟨fun⟨z,q,e,h⟩=>by cases e;exact h,λh=>⟨i,j,rfl,h⟩⟩
end
end L2
namespace L2
open PySem PySem.Spec PyProof.Rows
section
variable{K:Fg_}{a:Addr}{xs:List V}{g:TG}{tb:TS}{D:Ends}{σ:St}{H:Hp}{wi:TI}{cap:List (Option Nat)}{tt:TT}{te tl:TE}{Q:VK}{ta:TA}{R:It->Hp->Prop}
noncomputable def Jf(J:It)(g:TG)(tb:TS)(D:Ends)(σ:St)(H1:Hp):Prop:=∃W:Nat->Nat->St->Hp->Prop,(∃m,W 0 m σ H1)/\∀i m σ H,W i m σ H->
 (J.stop i H/\D.nx σ H)\/(J.go i H/\∃N:St->Hp->Prop,(∀σ' H',N σ' H'->∃m',m'<m/\W (i+1) m' σ' H')/\∀x H',J.yld i H x H'->g x σ H' λσ2 H2=>tb {D with nx:=N,ct:=N,bk:=D.nx} σ2 H2)
def ap_for:ajA wi g tb D σ H=wi σ H λJ H1=>Jf J g tb D σ H1:=rfl
def wJ(q:Nat->St->Hp->Prop)(h0:q 0 σ H)(z:∀i σ H,i<=xs.length->q i σ H->SqL K H a xs)
  (hs:∀i x σ H,xs[i]? =some x->q i σ H->g x σ H λσ2 H2=>tb {D with nx:=q (i+1),ct:=q (i+1),bk:=D.nx} σ2 H2) (hd:∀σ H,q xs.length σ H->D.nx σ H):Jf (Itl K a) g tb D σ H:=YM q h0 z hs hd
def Jf.range{lo:Int}{n:Nat}(q:Nat->St->Hp->Prop)(z:q 0 σ H)
  (hs:∀i σ H,i<n->q i σ H->g (.int (lo+i)) σ H λσ2 H2=>tb {D with nx:=q (i+1),ct:=q (i+1),bk:=D.nx} σ2 H2) (hd:∀σ H,q n σ H->D.nx σ H):Jf (Itr lo n) g tb D σ H:=Xf q z hs hd
def ap_iList:Wf K tl σ H R=tl σ H λx H1=>∃a,x=.ref a/\(∃xs,SqL K H1 a xs)/\R (Itl K a) H1:=rfl
def ap_iRng1:ajl ta σ H R=ta σ H λvs H1=>∃j:Int,vs=[.int j]/\ -(2^62)<=j/\j<2^62/\R (Itr 0 j.toNat) H1:=rfl
noncomputable def jZ(cap:List (Option Nat))(J:It)(g:TG)(tt:TT)(te:TE)(σ:St)(H1:Hp)(Q:VK):Prop:=∀D,H1 D=Option.none->
 ∃W:Nat->Nat->List V->St->Hp->Prop,(∃m,W 0 m [] (pI σ cap) (upd H1 D (.lst [])))/\∀i m acc σ1 H2,W i m acc σ1 H2->H2 D=some (.lst acc)->
  (J.stop i H2/\Q (.ref D) H2)\/(J.go i H2/\∀x H3,J.yld i H2 x H3->g x σ1 H3 λσ4 H4=>tt σ4 H4 λb H5=>
   if b=true then te σ4 H5 λv H6=>∃acc',H6 D=some (.lst acc')/\acc'.length<sizeLine/\∃m',m'<m/\W (i+1) m' (acc'++[v]) σ4 (upd H6 D (.lst (acc'++[v])))
   else∃m',m'<m/\∃acc',H5 D=some (.lst acc')/\W (i+1) m' acc' σ4 H5)
def ap_comp:ahH cap wi g tt te σ H Q=wi σ H λJ H1=>jZ cap J g tt te σ H1 Q:=rfl
def jZ.list(Sσ:St->Prop)(p:V->Bool)(F:V->V)(hS:SqL K H a xs)(h0:Sσ (pI σ cap))(hz:xs.length<=sizeLine)
  (hs:∀x∈xs,∀(σ:St)(z:Hp)(R1:St->VK)(R2:St->Hp->Prop),Sσ σ->Same H z->(p x=true->∀q H6,Sσ q->Same z H6->R1 q (F x) H6)->(p x=false->∀q H6,Sσ q->Same z H6->R2 q H6)->
   g x σ z λq H4=>tt q H4 λb z=>if b=true then te q z (R1 q)else R2 q z)
  (k:∀D H',H D=Option.none->Same H H'->H' D=some (.lst ((xs.filter p).map F))->Q (.ref D) H'):jZ cap (Itl K a) g tt te σ H Q:=
 λD hD=>Wq Sσ p F hS hD h0 hz hs λH' s e=>k D H' hD s e
theorem jZ.range{lo:Int}{n:Nat}(Sσ:St->Prop)(p:V->Bool)(F:V->V)(h0:Sσ (pI σ cap))(hz:n<=sizeLine)
  (hs:∀i:Nat,i<n->∀(σ:St)(z:Hp)(R1:St->VK)(R2:St->Hp->Prop),Sσ σ->Same H z->(p (.int (lo+i))=true->∀q H6,Sσ q->Same z H6->R1 q (F (.int (lo+i))) H6)->(p (.int (lo+i))=false->∀q H6,Sσ q->Same z H6->R2 q H6)->
   g (.int (lo+i)) σ z λq H4=>tt q H4 λb z=>if b=true then te q z (R1 q)else R2 q z)
  (k:∀D H',H D=Option.none->Same H H'->H' D=some (.lst ((((List.range n).map fun(i:Nat)=>V.int (lo+i)).filter p).map F))->Q (.ref D) H'):jZ cap (Itr lo n) g tt te σ H Q:=
 λD hD=>Ub Sσ p F hD h0 hz hs λH' s e=>k D H' hD s e
end
end L2
namespace L2
open PySem PySem.Spec PyProof.Rows
structure LeE(D D':Ends):Prop where
 nx:∀σ H,D.nx σ H->D'.nx σ H
 rt:∀v H,D.rt v H->D'.rt v H
 bk:∀σ H,D.bk σ H->D'.bk σ H
 ct:∀σ H,D.ct σ H->D'.ct σ H
end L2
namespace L2
open PySem PySem.Spec PyProof.Rows
section
variable{X:Cx}{pins:List (Addr×Obj)}{σ:St}{H:Hp}{s:Shared}{h':Heap}
def Inv.turnedN{t':Nat}{fp:List Addr}(I:Inv X pins σ H s)(hf:∀b∈fp,QC X pins H b)(k:∀b o,b∉fp->s.heap.get? b=some o->h'.get? b=some o):Inv X pins σ H {s with heap:=h',toks:=t'}:=by
 have aa:∀b u,H b=some u->b∉fp:=λb u e z=>by rw[(hf b z).1]at e;cases e
 refine I.step (g':=s.gens) (d':=s.drawn) (ch:=fp) (λb hb=>⟨(hf b hb).2.2.2.1,(hf b hb).2.1,(hf b hb).2.2.2.2.1,(hf b hb).2.2.2.2.2⟩) (λb o _ _ hc e _=>k b o hc e) (λb o _ _ hc e _=>⟨o.slots,k b o hc e⟩) (λ_ _ _ _ n=>n)
  (λb o hc e=>⟨o,k b o hc e⟩) (λ_ _ e=>e) (λ_ _ _ e=>e) (λb ps e=>⟨#[],by rw[e];simp⟩) (λm hm=>?_) (λb u e=>?_) I.bare
 ·obtain⟨o,es,ep,ho,r⟩:=hm
  exact⟨o,es,ep,k _ o (λz=>(hf _ z).2.1 rfl) ho,r⟩
 ·refine(I.hok b u e).stay (λc v hc q=>k c v ?_ q) (λ_ q=>q) λ_ _ q=>q
  rcases hc with z|z
  ·rw[z];exact aa b u e
  ·exact aa c _ z
def Inv.turnedT{t':Nat}{fp:List Addr}{T:Addr}{o:HO}(I:Inv X pins σ H s)(hf:∀b∈fp,QC X pins H b)(hT:s.heap.objs.size<=T)(k:∀b o,b∉fp->s.heap.get? b=some o->h'.get? b=some o)
  (ab:lC X.prog X.w (upd H T o) h' T o):Inv X pins σ (upd H T o) {s with heap:=h',toks:=t'}:=by
 have aa:∀b u,H b=some u->b∉fp:=λb u e z=>by rw[(hf b z).1]at e;cases e
 have hn:H T=none:=I.hok.fresh hT
 refine I.step (g':=s.gens) (d':=s.drawn) (ch:=fp) (λb hb=>⟨(hf b hb).2.2.2.1,(hf b hb).2.1,(hf b hb).2.2.2.2.1,(hf b hb).2.2.2.2.2⟩) (λb o _ _ hc e _=>k b o hc e) (λb o _ _ hc e _=>⟨o.slots,k b o hc e⟩)
  (λb o _ e n=>by rw[iJ (ye (yi (zt e) hT))];exact n)
  (λb o hc e=>⟨o,k b o hc e⟩) (λb xs e=>by rw[iJ (jz e hn)];exact e) (λb o xs e=>by rw[iJ (jz e hn)];exact e) (λb ps e=>⟨#[],by rw[iJ (jz e hn),e];simp⟩) (λm hm=>?_) (λb u e=>?_) I.bare
 ·obtain⟨o,es,ep,ho,r⟩:=hm
  exact⟨o,es,ep,k _ o (λz=>(hf _ z).2.1 rfl) ho,r⟩
 ·by_cases hb:b=T
  ·subst hb;rw[iC]at e;cases e;exact ab
  ·rw[iJ hb]at e
   refine(I.hok b u e).stay (λc v hc q=>k c v ?_ q) (λc q=>by rw[iJ (jz q hn)];exact q) λc xs q=>by rw[iJ (jz q hn)];exact q
   rcases hc with z|z
   ·rw[z];exact aa b u e
   ·exact aa c _ z
end
def pq{h:Heap}{a b:Addr}{z ob:Obj}{ca q:Value}(ha:h.get? a=some z)(hb:h.get? b=some ob)(ea:z.cls=ca)(eb:ob.cls=q)(hc:ca≠q):a≠b:=by
 intro e;subst e;rw[ha]at hb;cases hb;exact hc (ea.symm.trans eb)
noncomputable def Itz(K:Fg_)(a b:Addr):It:=
 ⟨λi H=>∃xs ys x y,SqL K H a xs/\SqL K H b ys/\xs[i]? =some x/\ys[i]? =some y,
   λi H v H'=>∃p x y,H p=none/\v=.ref p/\H'=upd H p (.tup [x,y])/\(∀xs,SqL K H a xs->xs[i]? =some x)/\∀ys,SqL K H b ys->ys[i]? =some y,
   λi H=>∃xs ys,SqL K H a xs/\SqL K H b ys/\(xs.length<=i\/ys.length<=i)⟩
def Gn{h:Heap}{z TI TO i1 i2 a b:Addr}{f0 u v:Value}{xs ys:Array Value}{j1 j2:Nat}(ac:TI≠TO)(ab:i1≠i2)(hz:IsZip h z TI TO f0)(aa:IsPair h TI (.ref i1) (.ref i2))(q:IsPair h TO u v)
  (h1:h.IsListIter i1 a j1) (h2:h.IsListIter i2 b j2) (p1:h.IsList a xs) (p2:h.IsList b ys):ZipApart z TI TO i1 i2 a b:=by
 obtain⟨o1,e1,c1,_⟩:=h1;obtain⟨o2,e2,c2,_⟩:=h2;obtain⟨l1,f1,d1,_⟩:=p1;obtain⟨l2,f2,d2,_⟩:=p2
 exact ⟨pq aa hz rfl rfl (by simp),pq q hz rfl rfl (by simp),pq e1 hz c1 rfl (by simp),pq e2 hz c2 rfl (by simp),ac,pq aa e1 rfl c1 (by simp),pq aa e2 rfl c2 (by simp),pq q e1 rfl c1 (by simp),pq q e2 rfl c2 (by simp),ab,
  pq f1 hz d1 rfl (by simp),pq f1 q d1 rfl (by simp),pq f1 e1 d1 c1 (by simp),pq f1 e2 d1 c2 (by simp),pq f2 hz d2 rfl (by simp),pq f2 q d2 rfl (by simp),pq f2 e1 d2 c1 (by simp),pq f2 e2 d2 c2 (by simp)⟩
def Zj{P:Program}{w:World}{K:Fg_}{elts:List Expr}{x1:Nat}{pos:Pos}(a b z TI TO i1 i2:Addr)(aj:TI≠TO)(ai:i1≠i2):
  Turn P w K (.Tuple elts x1 pos) (Itz K a b) [z,TI,TO,i1,i2] z (λi h=>IsZip h z TI TO .none/\IsPair h TI (.ref i1) (.ref i2)/\(∃u v,IsPair h TO u v)/\h.IsListIter i1 a i/\h.IsListIter i2 b i) where
 mem:=by simp
 obj:=λi h st c hb=>by
  obtain⟨hz,aa,⟨u,v,ab⟩,⟨o1,e1,c1,d1⟩,⟨o2,e2,c2,d2⟩⟩:=st;simp only[zu,zl,or_false]at hb;rcases hb with rfl|rfl|rfl|rfl|rfl
  ·exact⟨_,hz,λv z=>by cases z⟩
  ·exact⟨_,aa,λv z=>by cases z⟩
  ·exact⟨_,ab,λv z=>by cases z⟩
  ·exact⟨_,e1,λv z=>by rw[d1]at z;cases z⟩
  ·exact⟨_,e2,λv z=>by rw[d2]at z;cases z⟩
 keep:=λi h h' st k=>by
  obtain⟨hz,aa,⟨u,v,ab⟩,h1,h2⟩:=st;exact⟨k _ (by simp) _ hz,k _ (by simp) _ aa,⟨u,v,k _ (by simp) _ ab⟩,h1.at λo e=>k _ (by simp) o e,h2.at λo e=>k _ (by simp) o e⟩
 item:=by
  intro X hP hw hK hc i pins s σ H E I hf st hg;subst hP hw hK;obtain⟨xs,ys,x,y,ac,ad,hx,hy⟩:=hg;obtain⟨ah,af,p1,_⟩:=I.list ac;obtain⟨ag,ae,p2,_⟩:=I.list ad;obtain⟨u1,ao,an⟩:=af.get hx;obtain⟨u2,am,ap⟩:=ae.get hy;obtain⟨hz,aa,⟨ua,ub,ab⟩,h1,h2⟩:=st;have D:=Gn aj ai hz aa ab h1 h2 p1.isList p2.isList;refine wpAny_pyNext_zip_item D hz aa ab h1 h2 p1.isList p2.isList (x:=u1) (y:=u2) (by simpa using ao) (by simpa using am) λh' a1 a2 a3 a4 a5 a6 a7=>?_;refine⟨_,rfl,wpAny_letOwnedTupleGo_zip (s:={s with heap:=h'}) a1 λal b1 b2=>?_⟩;have nz:s.heap.objs.size≠z:=zzg (zt hz)
  have k:∀c o,c∉[z,TI,TO,i1,i2]->s.heap.get? c=some o->al.get? c=some o:=λc o hc e=>by
   simp only[zu,zl,or_false,not_or]at hc;exact(b2.2 c hc.1).trans (a7 c o hc.1 hc.2.2.1 hc.2.2.2.1 hc.2.2.2.2 e)
  have ak:al.get? s.heap.objs.size=some {cls:=.type "tuple",data:=.seq #[u1,u2]}:=(b2.2 _ nz).trans a5
  refine ⟨.ref s.heap.objs.size,upd H s.heap.objs.size (.tup [x,y]),I.turnedT (t':=s.toks) hf (zj _) k ⟨by rw[zv];simp,[u1,u2],.cons an (.cons ap .nil),_,ak,rfl,_,rfl⟩,rfl,
   ⟨_,x,y,I.hok.fresh (zj _),rfl,rfl,λar q=>by rw[I.list_inj q ac];exact hx,λaq q=>by rw[I.list_inj q ad];exact hy⟩,?_,λc hb=>?_⟩
  ·exact⟨b1,(b2.2 _ D.TIz).trans (a7 _ _ D.TIz D.TITO D.TIi1 D.TIi2 aa),⟨_,_,(b2.2 _ D.TOz).trans a2⟩,a3.at λo e=>(b2.2 _ D.i1z).trans e,a4.at λo e=>(b2.2 _ D.i2z).trans e⟩
  ·obtain ⟨o,e⟩:∃o,s.heap.get? c=some o:=by
    simp only[zu,zl,or_false]at hb;rcases hb with rfl|rfl|rfl|rfl|rfl
    ·exact⟨_,hz⟩
    ·exact⟨_,aa⟩
    ·exact⟨_,ab⟩
    ·obtain⟨o,e,_⟩:=h1;exact⟨o,e⟩
    ·obtain⟨o,e,_⟩:=h2;exact⟨o,e⟩
   rw[iJ (ye (zt e))];exact(hf c hb).1
 done:=by
  intro X hP hw hK hc i pins s σ H E I hf st hg;subst hP hw hK;obtain⟨xs,ys,ac,ad,hx⟩:=hg;obtain⟨ah,af,p1,_⟩:=I.list ac;obtain⟨ag,ae,p2,_⟩:=I.list ad;obtain⟨hz,aa,⟨ua,ub,ab⟩,h1,h2⟩:=st;have D:=Gn aj ai hz aa ab h1 h2 p1.isList p2.isList;have l1:=af.length;have l2:=ae.length;refine wpAny_pyNext_zip_end (I.ok.hd hc) D hz aa ab h1 h2 p1.isList p2.isList (hx.elim (λh=> .inl (by simp;omega)) λh=> .inr (by simp;omega)) λh' k=>⟨rfl,I.turnedN (t':=s.toks) hf λc o hc e=>?_⟩;simp only[zu,zl,or_false,not_or]at hc;exact k c o hc.1 hc.2.2.1 hc.2.2.2.1 hc.2.2.2.2 e
 self:=λ_ _ _ _ _ st h=>wpAny_pyIter_zip st.1 h
noncomputable def Ite(K:Fg_)(a:Addr):It:=
 ⟨λi H=>∃xs x,SqL K H a xs/\xs[i]? =some x,
   λi H v H'=>∃p x,H p=none/\v=.ref p/\H'=upd H p (.tup [.int i,x])/\∀xs,SqL K H a xs->xs[i]? =some x,
   λi H=>∃xs,SqL K H a xs/\xs.length<=i⟩
def Xg{P:Program}{w:World}{K:Fg_}{elts:List Expr}{x1:Nat}{pos:Pos}(a e it:Addr)(ag:e≠it):
  Turn P w K (.Tuple elts x1 pos) (Ite K a) [e,it] e (λi h=>(∃aa,IsEnum h e it i aa)/\h.IsListIter it a i) where
 mem:=by simp
 obj:=λi h st c hb=>by
  obtain⟨⟨aa,he⟩,⟨o1,e1,c1,d1⟩⟩:=st;simp only[zu,zl,or_false]at hb;rcases hb with rfl|rfl
  ·exact⟨_,he,λv z=>by cases z⟩
  ·exact⟨_,e1,λv z=>by rw[d1]at z;cases z⟩
 keep:=λi h h' st k=>by
  obtain⟨⟨aa,he⟩,h1⟩:=st;exact⟨⟨aa,k _ (by simp) _ he⟩,h1.at λo e=>k _ (by simp) o e⟩
 item:=by
  intro X hP hw hK hc i pins s σ H E I hf st hg;subst hP hw hK;obtain⟨xs,x,ab,hx⟩:=hg;obtain⟨ad,ac,p1,_⟩:=I.list ab;obtain⟨u1,ai,ah⟩:=ac.get hx;obtain⟨⟨aa,he⟩,h1⟩:=st;refine wpAny_pyNext_enum_item he h1 p1.isList (x:=u1) (by simpa using ai) ag λh' a1 a2 a3 a4 a5=>?_;refine⟨_,rfl,wpAny_letOwnedTupleGo_enum (s:={s with heap:=h',toks:=s.toks+1}) a1 λaf b1 b2=>?_⟩;have ne:s.heap.objs.size≠e:=zzg (zt he)
  have k:∀c o,c∉[e,it]->s.heap.get? c=some o->af.get? c=some o:=λc o hc q=>by
   simp only[zu,zl,or_false,not_or]at hc;exact(b2.2 c hc.1).trans (a5 c o hc.1 hc.2 q)
  have ae:af.get? s.heap.objs.size=some {cls:=.type "tuple",data:=.seq #[.int i s.toks,u1]}:=(b2.2 _ ne).trans a3
  refine ⟨.ref s.heap.objs.size,upd H s.heap.objs.size (.tup [.int i,x]),I.turnedT (t':=s.toks+1) hf (zj _) k ⟨by rw[zv];simp,[.int i s.toks,u1],.cons ⟨_,rfl⟩ (.cons ah .nil),_,ae,rfl,_,rfl⟩,rfl,
   ⟨_,x,I.hok.fresh (zj _),rfl,rfl,λaj q=>by rw[I.list_inj q ab];exact hx⟩,⟨⟨u1,by simpa using b1⟩,a2.at λo q=>(b2.2 _ (Ne.symm ag)).trans q⟩,λc hb=>?_⟩
  obtain ⟨o,q⟩:∃o,s.heap.get? c=some o:=by
   simp only[zu,zl,or_false]at hb;rcases hb with rfl|rfl
   ·exact⟨_,he⟩
   ·obtain⟨o,q,_⟩:=h1;exact⟨o,q⟩
  rw[iJ (ye (zt q))];exact(hf c hb).1
 done:=by
  intro X hP hw hK hc i pins s σ H E I hf st hg;subst hP hw hK;obtain⟨xs,ab,hx⟩:=hg;obtain⟨ad,ac,p1,_⟩:=I.list ab;obtain⟨⟨aa,he⟩,h1⟩:=st;have l1:=ac.length;refine wpAny_pyNext_enum_end (I.ok.hd hc) he h1 p1.isList (by simp;omega) λh' k=>⟨rfl,I.turnedN (t':=s.toks) hf λc o hc q=>?_⟩;simp only[zu,zl,or_false,not_or]at hc;exact k c o hc.2 q
 self:=λ_ _ _ _ _ st h=>by
  obtain⟨⟨aa,he⟩,_⟩:=st;exact wpAny_pyIter_enum he h
section
variable{X:Cx}{K:Fg_}{ta:TA}{elts:List Expr}{x1:Nat}{tpos:Pos}
noncomputable def akk(K:Fg_)(ta:TA):TI:=λσ H R=>ta σ H λvs H1=>∃a b,vs=[.ref a,.ref b]/\(∃xs,SqL K H1 a xs)/\(∃ys,SqL K H1 b ys)/\R (Itz K a b) H1
noncomputable def aiQ(K:Fg_)(ta:TA):TI:=λσ H R=>ta σ H λvs H1=>∃a,vs=[.ref a]/\(∃xs,SqL K H1 a xs)/\R (Ite K a) H1
def JR{a b:Expr}{p pos:Pos}(hg:Gl X "zip") (hm:X.mg "zip" =none) (ha:PA X [a,b] ta) (hs:starEach [a,b] X.env=[(false,eval a X.env),(false,eval b X.env)]:=by rfl) (hs2:starEach [b] X.env=[(false,eval b X.env)]:=by rfl) (hK:X.K=K:=by rfl):
  PI X (.Tuple elts x1 tpos) (.Call (.Name "zip" p) [a,b] [] pos) (akk K ta):=by
 subst hK;intro pins s σ H R I h;refine Call_ (xH I hg hm (by decide+kernel) (PyProof.Rows.callWith_type1 (T:= "zip") (thn (ha pos pins s σ H _ I h) λus z ⟨vs,H1,I1,r1,q1⟩=>?_) (by rw[hs,hs2]) (by rw[hs2];rfl)));obtain⟨l1,l2,e,⟨xs,hx⟩,⟨ys,hy⟩,q⟩:=q1;subst e;obtain⟨u,v,rfl,ru,rv⟩:=vals2 r1;cases ru;cases rv;obtain⟨ac,_,p1,_⟩:=I1.list hx;obtain⟨ab,_,p2,_⟩:=I1.list hy;refine call_zip_2 p1.isList p2.isList λh' g1 g2 g3 g4 g5 g6 k=>?_;have I2:Inv X pins σ H1 {z with heap:=h'}:=I1.kept (t':=z.toks) k;refine wpAny_pyIter_zip (s:={z with heap:=h'}) g1 ⟨_,[z.heap.objs.size+4,z.heap.objs.size+2,z.heap.objs.size+3,z.heap.objs.size,z.heap.objs.size+1],_,_,H1,rfl,I2,Zj l1 l2 _ _ _ _ _ (show((z.heap.objs.size:Nat)+2≠z.heap.objs.size+3) by omega) (show((z.heap.objs.size:Nat)≠z.heap.objs.size+1) by omega),⟨g1,g2,⟨_,_,g3⟩,g4,g5⟩,λc hc=>?_,q⟩
 have hc':z.heap.objs.size<=c:=by
  simp only[zu,zl,or_false]at hc
  have aa:∃k:Nat,c=z.heap.objs.size+k:=by
   rcases hc with rfl|rfl|rfl|rfl|rfl
   ·exact⟨4,rfl⟩
   ·exact⟨2,rfl⟩
   ·exact⟨3,rfl⟩
   ·exact⟨0,rfl⟩
   ·exact⟨1,rfl⟩
  obtain⟨k,rfl⟩:=aa;exact zzu _ k
 exact I1.fpOk hc' (I1.hok.fresh hc')
def ahr{a:Expr}{p pos:Pos}(hg:Gl X "enumerate") (hm:X.mg "enumerate" =none) (ha:PA X [a] ta) (hs:starEach [a] X.env=[(false,eval a X.env)]:=by rfl) (hK:X.K=K:=by rfl):
  PI X (.Tuple elts x1 tpos) (.Call (.Name "enumerate" p) [a] [] pos) (aiQ K ta):=by
 subst hK;intro pins s σ H R I h;refine Call_ (xH I hg hm (by decide+kernel) (PyProof.Rows.callWith_type1 (T:= "enumerate") (thn (ha pos pins s σ H _ I h) λus z ⟨vs,H1,I1,r1,q1⟩=>?_) (by rw[hs];rfl) rfl));obtain⟨l1,e,⟨xs,hx⟩,q⟩:=q1;subst e;obtain⟨u,rfl,ru⟩:=vals1 r1;cases ru;obtain⟨ab,_,p1,_⟩:=I1.list hx;refine call_enumerate_list p1.isList λh' g1 g2 g3 k=>?_;have I2:Inv X pins σ H1 {z with heap:=h'}:=I1.kept (t':=z.toks) k;refine wpAny_pyIter_enum (s:={z with heap:=h'}) g1 ⟨_,[z.heap.objs.size+1,z.heap.objs.size],_,_,H1,rfl,I2,Xg l1 _ _ (show((z.heap.objs.size:Nat)+1≠z.heap.objs.size) by omega),⟨⟨_,g1⟩,g2⟩,λc hc=>?_,q⟩
 have hc':z.heap.objs.size<=c:=by
  simp only[zu,zl,or_false]at hc
  have aa:∃k:Nat,c=z.heap.objs.size+k:=by
   rcases hc with rfl|rfl
   ·exact⟨1,rfl⟩
   ·exact⟨0,rfl⟩
  obtain⟨k,rfl⟩:=aa;exact zzu _ k
 exact I1.fpOk hc' (I1.hok.fresh hc')
variable{σ:St}{H:Hp}{R:It->Hp->Prop}{g:TG}{tb:TS}{D:Ends}{a b:Addr}{xs ys:List V}
def ap_iZip:akk K ta σ H R=ta σ H λvs H1=>∃a b,vs=[.ref a,.ref b]/\(∃xs,SqL K H1 a xs)/\(∃ys,SqL K H1 b ys)/\R (Itz K a b) H1:=rfl
def ap_iEnum:aiQ K ta σ H R=ta σ H λvs H1=>∃a,vs=[.ref a]/\(∃xs,SqL K H1 a xs)/\R (Ite K a) H1:=rfl
def Jf.zip(q:Nat->St->Hp->Prop)(aa:xs.length=ys.length)(h0:q 0 σ H)(hl:∀i σ H,i<=xs.length->q i σ H->SqL K H a xs/\SqL K H b ys)
  (hs:∀i x y σ H p,xs[i]? =some x->ys[i]? =some y->q i σ H->H p=none->g (.ref p) σ (upd H p (.tup [x,y])) λσ2 H2=>tb {D with nx:=q (i+1),ct:=q (i+1),bk:=D.nx} σ2 H2) (hd:∀σ H,q xs.length σ H->D.nx σ H):Jf (Itz K a b) g tb D σ H:=by
 refine⟨λi m σ H=>m=xs.length - i/\i<=xs.length/\q i σ H,⟨xs.length,by simp,yj _,h0⟩,?_⟩;rintro i m σ H ⟨rfl,hi,p⟩;obtain⟨q1,q2⟩:=hl i σ H hi p;by_cases z:i<xs.length
 ·refine .inr ⟨⟨xs,ys,xs[i],ys[i],q1,q2,by simp[z],by simp[aa▸z]⟩,q (i+1),λσ' H' p'=>⟨xs.length - (i+1),by omega,rfl,z,p'⟩,λv H' y=>?_⟩
  obtain⟨pp,x,y,hp,rfl,rfl,e1,e2⟩:=y;exact hs i x y σ _ pp (e1 xs q1) (e2 ys q2) p hp
 ·have e:i=xs.length:=by omega
  subst e;exact .inl ⟨⟨xs,ys,q1,q2,.inl (zj _)⟩,hd σ H p⟩
end
end L2
namespace L2
open PySem PySem.Spec PyProof.Rows
noncomputable def DK(h h':Heap):Prop:=∀b o,h.get? b=some o->∃o',h'.get? b=some o'/\o'.dict=o.dict
theorem DK.trans{h h1 h2:Heap}(a:DK h h1)(b:DK h1 h2):DK h h2:=λc o e=>by
 obtain⟨o1,z,d1⟩:=a c o e;obtain⟨o2,q,d2⟩:=b c o1 z;exact⟨o2,q,d2.trans d1⟩
structure KD{α:Type}(t:Sem α):Prop where
 out:∀(M:Model)(Γ:PySem.Ctx)(P:α->Pos->Shared->Prop)(E:Value->Pos->Shared->Prop)(p:Pos)(s:Shared),Sem.wp M Γ t P E p s->Sem.wp M Γ t (λa p' s'=>P a p' s'/\DK s.heap s'.heap) E p s
end L2
namespace L2
open PySem PySem.Spec PyProof.Rows
structure akL(K:Fg_)(C:Addr):Prop where
 ex:PySem.W.excIn K C [.type "ValueError",.type "Exception",.type "BaseException",.type "object"] "ValueError.__new__" =true
end L2
namespace L2
open PySem PySem.Spec PyProof.Rows
section
variable{prog:Program}{w:World}{A:Around}{E:Value->Shared->Prop}{h:Heap}{g:Array GenState}{d:Drawn}{t:Nat}{os:OsState}{a:Addr}{o:Obj}
 {nm q:Str} {C N:Addr} {bs bm:List Value} {hdct:Bool} {sn:List Str} {sub:List Value} {ab:Bool} {col:Option Bool} {dd:Option Addr} {k0 k1 k2 k3 k5:Option Value} {newId:String} {K:Fg_}
structure akN(K:Fg_)(C:Addr):Prop where
 cl:PySem.W.findIn K (.ref C) "__class__" =some (some (.builtin "object.__class__"))
 ga:PySem.W.findIn K (.ref C) "__getattribute__" =some (some (.builtin "BaseException.__getattribute__"))
 gh:PySem.W.findIn K (.ref C) "__getattr__" =some none
end
end L2
namespace L2
open PySem PySem.Spec PyProof.Rows
abbrev TX:=St->Hp->VK->XK->Prop
end L2
namespace L2
open PySem PySem.Spec PyProof.Rows
section
variable{κ:Type} [DecidableEq κ]
noncomputable def nY(kvs:List (κ×V))(k:κ):Option V:=(kvs.find? λkv=>decide (kv.1=k)).map (·.2)
noncomputable def putK(kvs:List (κ×V))(k:κ)(v:V):List (κ×V):=
 if(kvs.any λkv=>decide (kv.1=k))=true then kvs.map (λkv=>if kv.1=k then(kv.1,v)else kv)else kvs++[(k,v)]
noncomputable def QL(kvs:List (κ×V))(k:κ):List (κ×V):=kvs.filter λkv=>decide (kv.1≠k)
def kj{p:κ×V}{r:List (κ×V)}{k:κ}(e:p.1=k):nY (p::r) k=some p.2:=by simp[nY,zzB,e]
def kE{p:κ×V}{r:List (κ×V)}{k:κ}(e:¬p.1=k):nY (p::r) k=nY r k:=by simp[nY,zzB,e]
theorem oA(k:κ):∀kvs:List (κ×V),(kvs.any λq=>decide (q.1=k))=(nY kvs k).isSome
 |[]=>rfl
 |p::r=>by
  rw[List.any_cons];by_cases e:p.1=k
  ·simp only[kj e,yf e,Bool.true_or,Option.isSome_some]
  ·rw[kE e,ym e,Bool.false_or];exact oA k r
theorem Rk(k j:κ)(y:V):∀kvs:List (κ×V),nY (kvs.map λq=>if q.1=k then(q.1,y)else q) j=(nY kvs j).map λx=>if j=k then y else x
 |[]=>rfl
 |p::r=>by
  have ih:=Rk k j y r;rw[zf];by_cases h:p.1=k
  ·rw[zn h]
   by_cases e:p.1=j
   ·rw[kj (p:=(p.1,y)) e,kj e,yyf,zn (e.symm.trans h)]
   ·rw[kE (p:=(p.1,y)) e,kE e,ih]
  ·rw[ze h]
   by_cases e:p.1=j
   ·rw[kj (p:=p) e,kj e,yyf,ze (λz=>h (e.trans z))]
   ·rw[kE (p:=p) e,kE e,ih]
theorem Pj(k j:κ)(y:V):∀kvs:List (κ×V),nY kvs k=none->nY (kvs++[(k,y)]) j=if j=k then some y else nY kvs j
 |[],_=>by
  by_cases e:k=j
  ·rw[zn e.symm];exact kj (p:=(k,y)) e
  ·rw[ze (λz=>e z.symm)];exact kE (p:=(k,y)) e
 |p::r,hn=>by
  rw[zzN];have q:¬p.1=k:=λz=>by rw[kj z]at hn;cases hn
  rw[kE q]at hn;have ih:=Pj k j y r hn;by_cases e:p.1=j
  ·rw[kj e,kj e,ze (λz=>q (e.trans z))]
  ·rw[kE e,kE e,ih]
def Yu(kvs:List (κ×V))(k j:κ)(y:V):nY (putK kvs k y) j=if j=k then some y else nY kvs j:=by
 unfold putK;by_cases a:(kvs.any λkv=>decide (kv.1=k))=true
 ·rw[zn a,Rk]
  rw[oA]at a;by_cases e:j=k
  ·obtain⟨x,z⟩:=zze.mp a
   rw[zn e,e,z,yyf,zn rfl]
  ·rw[ze e]
   cases nY kvs j with
   |none=>rfl
   |some x=>rw[yyf,ze e]
 ·rw[ze a]
  refine Pj k j y kvs ?_;rw[oA]at a
  cases q:nY kvs k with
  |none=>rfl
  |some x=>rw[q]at a;exact(a rfl).elim
def ud(kvs:List (κ×V))(k:κ)(v:V):(putK kvs k v).length<=kvs.length+1:=by
 unfold putK;split
 ·rw[za];omega
 ·rw[yd,yo,zzC];omega
def ZP{kvs:List (κ×V)}{k:κ}(v:V)(h:nY kvs k=none):putK kvs k v=kvs++[(k,v)]:=by
 unfold putK;rw[oA,h];exact ze (by decide)
def Jy.isSome_eq{o:Option V}{u:Option Value}(r:Jy o u):o.isSome=u.isSome:=by
 cases o with
 |none=>cases u with
  |none=>rfl
  |some _=>exact(show False from r).elim
 |some _=>cases u with
  |none=>exact(show False from r).elim
  |some _=>rfl
theorem Jy.getD{o:Option V}{u:Option Value}{d:V}{d':Value}(r:Jy o u)(rd:RelV d d'):RelV (o.getD d) (u.getD d'):=by
 cases o with
 |none=>cases u with
  |none=>exact rd
  |some _=>exact(show False from r).elim
 |some _=>cases u with
  |none=>exact(show False from r).elim
  |some _=>exact r
def KV.val{kvs:List (κ×V)}{vs:List (κ×Value)}(r:KV kvs vs)(k:κ):Jy (nY kvs k) (valueAt vs k):=by
 unfold KV at r
 induction r with
 |nil=>exact True.intro
 | @cons p q ps qs h t ih=>
  obtain⟨h1,h2⟩:=h;by_cases e:p.1=k
  ·have e':q.1=k:=h1.symm.trans e
   have b:valueAt (q::qs) k=some q.2:=by simp[valueAt,zzB,e']
   rw[kj e,b];exact h2
  ·have e':¬q.1=k:=λz=>e (h1.trans z)
   have b:valueAt (q::qs) k=valueAt qs k:=by simp[valueAt,zzB,e']
   rw[kE e,b];exact ih
theorem KV.any{kvs:List (κ×V)}{vs:List (κ×Value)}(r:KV kvs vs)(k:κ):(kvs.any λq=>decide (q.1=k))=vs.any λq=>decide (q.1=k):=by
 unfold KV at r
 induction r with
 |nil=>rfl
 |cons h t ih=>rw[List.any_cons,List.any_cons,ih,h.1]
def KV.repl{kvs:List (κ×V)}{vs:List (κ×Value)}(r:KV kvs vs)(k:κ){y:V}{u:Value}(ry:RelV y u):
  KV (kvs.map λkv=>if kv.1=k then(kv.1,y)else kv) (vs.map λkv=>if kv.1=k then(kv.1,u)else kv):=by
 unfold KV at r⊢
 induction r with
 |nil=>exact .nil
 | @cons p q ps qs h t ih=>
  rw[zf,zf];refine .cons ?_ ih;obtain⟨h1,h2⟩:=h;by_cases e:p.1=k
  ·rw[zn e,zn (h1.symm.trans e)];exact⟨h1,ry⟩
  ·rw[ze e,ze (λz=>e (h1.trans z))];exact⟨h1,h2⟩
def KV.put{kvs:List (κ×V)}{vs:List (κ×Value)}(r:KV kvs vs)(k:κ){y:V}{u:Value}(q:RelV y u):KV (putK kvs k y) (stored vs k u):=by
 unfold putK stored;rw[r.any k];by_cases e:(vs.any λz=>decide (z.1=k))=true
 ·rw[zn e,zn e];exact r.repl k q
 ·rw[ze e,ze e];exact Paired.snoc r ⟨rfl,q⟩
def KV.drop{kvs:List (κ×V)}{vs:List (κ×Value)}(r:KV kvs vs)(k:κ):KV (QL kvs k) (without vs k):=by
 unfold KV at r⊢;unfold QL without
 induction r with
 |nil=>exact .nil
 | @cons p q ps qs h t ih=>
  obtain⟨h1,h2⟩:=h;rw[yE,yE];by_cases e:p.1=k
  ·have a:¬decide (p.1≠k)=true:=by simp[e]
   have b:¬decide (q.1≠k)=true:=by simp[h1.symm.trans e]
   rw[ze a,ze b];exact ih
  ·have e':¬q.1=k:=λz=>e (h1.trans z)
   have a:decide (p.1≠k)=true:=by simp[e]
   have b:decide (q.1≠k)=true:=by simp[e']
   rw[zn a,zn b];exact .cons ⟨h1,h2⟩ ih
theorem KV.length{kvs:List (κ×V)}{vs:List (κ×Value)}(r:KV kvs vs):kvs.length=vs.length:=yG r
def YK(kvs:List (κ×V))(k:κ):(QL kvs k).length<=kvs.length:=yV _ _
end
def Kv{P:Program}{w:World}{k:Key}{u:Value}(r:RelV (kV k) u):(jy P w).is k u=true:=by
 cases k with
 |inl i=>obtain⟨t,e⟩:=(show∃t,u=Value.int i t from r);subst e;exact Pu P w i t
 |inr x=>obtain⟨t,e⟩:=(show∃t,u=Value.str x t from r);subst e;exact QJ P w x t
theorem NZ{P:Program}{w:World}:∀{ks:List Key}{us:List Value},Vals (ks.map kV) us->ItemsAre (jy P w) ks us
 |[],_,r=>by rw[zzx]at r;cases r;exact .nil
 |k::ks,_,r=>by
  rw[zf]at r
  cases r with
  |cons h t=>exact .cons (Kv h) (NZ t)
abbrev KT(H:Hp):List (List Key×V)->List (List Key×Addr×Value)->Prop:=Paired λp q=>p.1=q.1/\H q.2.1=some (.tup (p.1.map kV))/\RelV p.2 q.2.2
def KT.val{H:Hp}{kvs:List (List Key×V)}{xs:List (List Key×Addr×Value)}(r:KT H kvs xs)(k:List Key):Jy (nY kvs k) ((atKey xs k).map (·.2)):=by
 induction r with
 |nil=>exact True.intro
 | @cons p q ps qs h t ih=>
  obtain⟨h1,_,h2⟩:=h;by_cases e:p.1=k
  ·have e':q.1=k:=h1.symm.trans e
   have b:atKey (q::qs) k=some q.2:=by simp[atKey,zzB,e']
   rw[kj e,b];exact h2
  ·have e':¬q.1=k:=λz=>e (h1.trans z)
   have b:atKey (q::qs) k=atKey qs k:=by simp[atKey,zzB,e']
   rw[kE e,b];exact ih
def KT.repl{H:Hp}{kvs:List (List Key×V)}{xs:List (List Key×Addr×Value)}(r:KT H kvs xs)(k:List Key){y:V}{u:Value}(ry:RelV y u):
  KT H (kvs.map λkv=>if kv.1=k then(kv.1,y)else kv) (xs.map (putAt k u)):=by
 induction r with
 |nil=>exact .nil
 | @cons p q ps qs h t ih=>
  rw[zf,zf];refine .cons ?_ ih;obtain⟨h1,h2,h3⟩:=h;unfold putAt;by_cases e:p.1=k
  ·rw[zn e,zn (h1.symm.trans e)];exact⟨h1,h2,ry⟩
  ·rw[ze e,ze (λz=>e (h1.trans z))];exact⟨h1,h2,h3⟩
def KT.put{H:Hp}{kvs:List (List Key×V)}{xs:List (List Key×Addr×Value)}(r:KT H kvs xs)(k:List Key){b:Addr}{y:V}{u:Value}(hb:H b=some (.tup (k.map kV)))(z:RelV y u):
  KT H (putK kvs k y) (storedH xs k b u):=by
 have e:(kvs.any λkv=>decide (kv.1=k))=(atKey xs k).isSome:=by
  rw[oA,(r.val k).isSome_eq,Option.isSome_map]
 unfold putK storedH;rw[e];by_cases q:(atKey xs k).isSome=true
 ·rw[zn q,zn q];exact r.repl k z
 ·rw[ze q,ze q];exact Paired.snoc r ⟨rfl,hb,z⟩
def KT.keeps{H H':Hp}{kvs:List (List Key×V)}{xs:List (List Key×Addr×Value)}(r:KT H kvs xs)(q:∀b ys,H b=some (.tup ys)->H' b=some (.tup ys)):KT H' kvs xs:=
 Paired.mapP r λ_ _ z=>⟨z.1,q _ _ z.2.1,z.2.2⟩
section
variable{P:Program}{w:World}{H:Hp}{h:Heap}{a:Addr}
def aiS{u:HO}(ok:HOk P w H h)(e:Rd H a u):lC P w H h a u:=e.ok ok
def KJ{kvs:List (Key×V)}(ok:HOk P w H h)(e:Rd H a (.dK kvs)):kvs.length<=sizeLine/\(a==sysModules)=false/\∃vs,KV kvs vs/\h.DictOf (jy P w) a vs:=
 show lC P w H h a (.dK kvs)from aiS ok e
def Us{kvs:List (Key×V)}(ok:HOk P w H h)(e:H a=some (.dK kvs)):kvs.length<=sizeLine/\(a==sysModules)=false/\∃vs,KV kvs vs/\h.DictOf (jy P w) a vs:=KJ ok (.inl e)
def Oi{ks:List Key}(ok:HOk P w H h)(e:H a=some (.tup (ks.map kV))):(tupleKind (jy P w)).is h ks a:=by
 obtain⟨_,its,r,o,h1,h2,n,q⟩:=(show lC P w H h a (.tup (ks.map kV))from ok a _ e);exact⟨o,its.toArray,n,h1,h2,q,by simpa using NZ r⟩
def Uw{kvs:List (List Key×V)}(ok:HOk P w H h)(e:Rd H a (.dT kvs)):kvs.length<=sizeLine/\(a==sysModules)=false/\
  ∃xs,KT H kvs xs/\h.DictOfH (tupleKind (jy P w)) a xs:=by
 obtain⟨z,y,xs,r,o,es,ep,h1,h2,h3,h4,h5⟩:=(show lC P w H h a (.dT kvs)from aiS ok e);refine⟨z,y,xs,r,o,es,ep,h1,h2,h3,h4,λx hx=>?_,h5⟩
 have aa:∀{l:List (List Key×V)}{m:List (List Key×Addr×Value)},KT H l m->∀x∈m,(tupleKind (jy P w)).is h x.1 x.2.1:=by
  intro l m q
  induction q with
  |nil=>intro x hx;exact nomatch hx
  | @cons p q ps qs hq t ih=>
   intro x hx;rcases zu.mp hx with e|hx
   ·subst e
    exact Oi ok (by rw[<-hq.1];exact hq.2.1)
   ·exact ih x hx
 exact aa r x hx
def ajZ{kvs:List (List Key×V)}(ok:HOk P w H h)(e:H a=some (.dT kvs)):kvs.length<=sizeLine/\(a==sysModules)=false/\
  ∃xs,KT H kvs xs/\h.DictOfH (tupleKind (jy P w)) a xs:=Uw ok (.inl e)
end
noncomputable def Vd(H:Hp)(a:Addr)(y:V)(r:Option V):Prop:=
 (∃kvs k,Rd H a (.dK kvs)/\y=kV k/\r=nY kvs k)\/∃kvs k b,Rd H a (.dT kvs)/\y=.ref b/\H b=some (.tup (k.map kV))/\r=nY kvs k
noncomputable def ajx(H:Hp)(a:Addr)(y v:V)(H':Hp):Prop:=
 (∃kvs k,H a=some (.dK kvs)/\y=kV k/\kvs.length<sizeLine/\H'=upd H a (.dK (putK kvs k v)))\/
 ∃kvs k b,H a=some (.dT kvs)/\y=.ref b/\H b=some (.tup (k.map kV))/\kvs.length<sizeLine/\H'=upd H a (.dT (putK kvs k v))
def Br{H:Hp}{a:Addr}{kvs:List (Key×V)}{k:Key}(e:H a=some (.dK kvs)):Vd H a (kV k) (nY kvs k):=.inl ⟨kvs,k,.inl e,rfl,rfl⟩
def HW{H:Hp}{a:Addr}{kvs:List (Key×V)}{k:Key}{v:V}(e:H a=some (.dK kvs))(q:kvs.length<sizeLine):ajx H a (kV k) v (upd H a (.dK (putK kvs k v))):=.inl ⟨kvs,k,e,rfl,q,rfl⟩
section
variable{X:Cx}{pins:List (Addr×Obj)}{σ:St}{H:Hp}{s:Shared}{a:Addr}{y v:V}{u r:Value}{o:Option V}{A:Around}{E:Value->Shared->Prop}
def Inv.big(I:Inv X pins σ H s):sysModules<s.heap.objs.size:=by
 have h:mainGlobals<s.heap.objs.size:=(I.mod.glob.keeps I.bk).lt;exact yyl (by decide) h
def VF{Q:Value->Shared->Prop}(hu:A.units+1<cLine)(I:Inv X pins σ H s)(g:Vd H a y (some v))(ry:RelV y u)(h:∀w' s',Inv X pins σ H s'->RelV v w'->Q w' s'):
  wpAny (model X.prog X.w) A (getItem (.ref a) u) Q E s:=by
 rcases g with⟨kvs,k,e,ey,l⟩|⟨kvs,k,b,e,ey,eb,l⟩
 ·subst ey
  obtain⟨z,hd,vs,rel,dd⟩:=KJ I.hok e;obtain⟨w',hw,q⟩:=Jy.some_of (v:=v) (o:=valueAt vs k) (by rw[l];exact rel.val k);exact wpAny_getItem_of (Kv ry) dd.mapOf hw (h w' _ (I.tok _) q)
 ·subst ey
  cases (show u=Value.ref b from ry);obtain⟨z,hd,xs,rel,dd⟩:=Uw I.hok e;obtain⟨w',hw,q⟩:=Jy.some_of (v:=v) (o:=(atKey xs k).map (·.2)) (by rw[l];exact rel.val k);obtain⟨p,hp,aa⟩:=zz0.mp hw;refine wpAny_getItem_heap (tupleKind_room_in1 hu) (Oi I.hok eb) dd hp ?_;rw[aa];exact h w' _ (I.tok _) q
def Lk{h':Heap}{t':Nat}{ob:HO}(I:Inv X pins σ H s)(mu:Mut (H a))(hs:Heap.SameBut a s.heap h')(he:∃q,h'.get? a=some q)(aa:lC X.prog X.w (upd H a ob) h' a ob):
  Inv X pins σ (upd H a ob) {s with heap:=h',toks:=t'}:=
 I.write (x:=a) (e:=a) mu (.inl rfl) (λb q hb z=>(hs.2 b hb).trans z) he aa
def Ml{P:Program}{w:World}{H':Hp}{h':Heap}{kvs:List (Key×V)}{vs:List (Key×Value)}(z:kvs.length<=sizeLine)(hd:(a==sysModules)=false)(rel:KV kvs vs)(q:h'.DictOf (jy P w) a vs):
  lC P w H' h' a (.dK kvs):=⟨z,hd,vs,rel,q⟩
def VH{H':Hp}{Q:Unit->Shared->Prop}(hu:A.units+1<cLine)(I:Inv X pins σ H s)(g:ajx H a y v H')(ry:RelV y u)(rv:RelV v r)(h:∀s',Inv X pins σ H' s'->Q () s'):
  wpAny (model X.prog X.w) A (setItem (.ref a) u r) Q E s:=by
 rcases g with⟨kvs,k,e,ey,l,eH⟩|⟨kvs,k,b,e,ey,eb,l,eH⟩
 ·subst ey eH
  obtain⟨z,hd,vs,rel,dd⟩:=Us I.hok e;have hz:vs.length<=sizeLine:=by rw[<-rel.length];exact z
  have hl:(putK kvs k v).length<=sizeLine:=by have:=ud kvs k v;omega
  refine wpAny_setItem_pairs (hsz:=hz) (Kv ry) dd λh' aa hs=>h _ ?_;have he:∃q,h'.get? a=some q:=let⟨q,_,_,hq,_⟩:=aa;⟨q,hq⟩
  exact Lk I (by rw[e];exact True.intro) hs he (Ml hl hd (rel.put k rv) aa)
 ·subst ey eH
  cases (show u=Value.ref b from ry);obtain⟨z,hd,xs,rel,dd⟩:=ajZ I.hok e;have hz:xs.length<=sizeLine:=by rw[<-yG rel];exact z
  have hl:(putK kvs k v).length<=sizeLine:=by have:=ud kvs k v;omega
  refine wpAny_setItem_heap (hsz:=hz) (tupleKind_room_in1 hu) (Oi I.hok eb) dd λh' aa hs=>h _ ?_;obtain⟨q,es,ep,hq,h2,h3,h4,_,h5⟩:=aa;refine Lk I (by rw[e];exact True.intro) hs ⟨q,hq⟩ ⟨hl,hd,_,(rel.put k eb rv).keeps λc ys ec=>?_,q,es,ep,hq,h2,h3,h4,h5⟩;rw[iJ (ajK ec e (λz=>nomatch z))];exact ec
end
section
variable{X:Cx}{pins:List (Addr×Obj)}{σ:St}{H:Hp}{s:Shared}{a:Addr}{kvs:List (Key×V)}{k:Key}{u:Value}{A:Around}{E:Value->Shared->Prop}
def akg{v:V}{aa:List Value}{Q:Value->Shared->Prop}(I:Inv X pins σ H s)(e:H a=some (.dK kvs))(ry:RelV (kV k) u)(l:nY kvs k=some v)(hm:aa=[]\/∃x,aa=[x])
  (h:∀w' s',Inv X pins σ (upd H a (.dK (QL kvs k))) s'->RelV v w'->Q w' s'):wpAny (model X.prog X.w) A (call (.builtin "dict.pop") (.ref a::u::aa)) Q E s:=by
 obtain⟨z,hd,vs,rel,dd⟩:=Us I.hok e;obtain⟨w',hw,ac⟩:=Jy.some_of (v:=v) (o:=valueAt vs k) (by rw[<-l];exact rel.val k)
 have hp:(keyPart u).isSome=true:=by
  cases k with
  |inl i=>obtain⟨t,q⟩:=(show∃t,u=Value.int i t from ry);subst q;rfl
  |inr x=>obtain⟨t,q⟩:=(show∃t,u=Value.str x t from ry);subst q;rfl
 have ha:argsOk "dict.pop" ⟨.ref a::u::aa,[]⟩:=by
  rcases hm with q|⟨x,q⟩
  ·subst q;exact PySem.F.args_dict_pop_2 _ _
  ·subst q;exact PySem.F.args_dict_pop_3 _ _ _
 refine zzz zz7 dd.typeIs PySem.F.entry_dict_pop ha (meets_dict_pop_there (jy X.prog X.w) a (Kv ry) aa hm hp)
  ⟨vs,w',dd,by rw[<-rel.length];exact z,hw,λh' ab hs=>h w' _ ?_ ac⟩
 have he:∃q,h'.get? a=some q:=let⟨q,_,_,hq,_⟩:=ab;⟨q,hq⟩
 exact Lk I (by rw[e];exact True.intro) hs he (Ml (yw (YK kvs k) z) hd (rel.drop k) ab)
def ajr{r:Value}{Q:Value->Shared->Prop}(I:Inv X pins σ H s)(e:H a=some (.dK kvs))(ry:RelV (kV k) u)(l:nY kvs k=none)(h:∀s',Inv X pins σ H s'->Q r s'):
  wpAny (model X.prog X.w) A (call (.builtin "dict.pop") [.ref a,u,r]) Q E s:=by
 obtain⟨z,hd,vs,rel,dd⟩:=Us I.hok e;have hn:valueAt vs k=none:=Jy.none_of (by rw[<-l];exact rel.val k)
 have hp:(keyPart u).isSome=true:=by
  cases k with
  |inl i=>obtain⟨t,q⟩:=(show∃t,u=Value.int i t from ry);subst q;rfl
  |inr x=>obtain⟨t,q⟩:=(show∃t,u=Value.str x t from ry);subst q;rfl
 exact zzz zz7 dd.typeIs PySem.F.entry_dict_pop (PySem.F.args_dict_pop_3 _ _ _) (meets_dict_pop_default (jy X.prog X.w) a (Kv ry) hd hp r) ⟨vs,dd,hn,h _ (I.tok _)⟩
end
noncomputable def akj(i:Expr):Prop:=∀ov iv,subscripted i false ov iv=operate [ov,iv] (getItem ov iv)
def aho{prog:Program}{w:World}{A:Around}{E:Value->Shared->Prop}{s:Shared}{env:Env}{value q:Expr}{pos:Pos}{T id:String}{Q:Value->Shared->Prop}
  (hl:typeLookup (.type T) "__getitem__" =pure (some (.builtin id))) (hs:akj q)
  (h:wpAny (model prog w) A (eval value env) (λo s₁=>wpAny (model prog w) A (eval q env) (λi s₂=>s₂.TypeIs o T/\wpAny (model prog w) A (getItem o i) Q E s₂) E s₁) E s):
  wpAny (model prog w) A (eval (.Subscript value q pos) env) Q E s:=by
 refine Subscript_ (yP h (λo s₁ h₁=>yP h₁ (λi s₂ h₂=>?_) λ_ _ x=>x) λ_ _ x=>x);obtain⟨hT,h₂⟩:=h₂;unfold subscriptTail;refine zd ?_;rw[getitemInPython_of_ne hT.not_modules];refine zd (yyL hT hl ?_)
 have z:wpAny (model prog w) A (subscripted q false o i) (λr s₃=>wpAny (model prog w) A (letTemporaryGo value o r>>=λ_=>pure r) Q E s₃) E s₂:=by
  rw[hs o i];exact wpAny_operating (yP h₂ (λr s₃ h₃=>zd (wpAny_letTemporaryGo (yc h₃))) λ_ _ x=>x)
 first
  |exact yc (zd z)
  |exact zd (yc (zd z))
  |exact zd z
def Qh{X:Cx}{pins:List (Addr×Obj)}{σ:St}{H:Hp}{s:Shared}{a:Addr}{y:V}{o:Option V}(I:Inv X pins σ H s)(g:Vd H a y o):s.TypeIs (.ref a) "dict" :=by
 rcases g with⟨kvs,k,e,_,_⟩|⟨kvs,k,b,e,_,_,_⟩
 ·obtain⟨_,_,vs,_,q⟩:=KJ I.hok e
  exact q.typeIs
 ·obtain⟨_,_,xs,_,q⟩:=Uw I.hok e
  exact q.typeIs
noncomputable def aim(td ty:TE):TE:=λσ H Q=>td σ H λx H1=>ty σ H1 λy H2=>∃a v,x=.ref a/\Vd H2 a y (some v)/\Q v H2
noncomputable def ait(td ty tv:TE):TS:=λD σ H=>tv σ H λv H1=>td σ H1 λx H2=>ty σ H2 λy H3=>∃a H4,x=.ref a/\ajx H3 a y v H4/\D.nx σ H4
section
variable{X:Cx}{o i e value:Expr}{pos pos' tpos:Pos}{td ty tv:TE}
def vq(hu:X.A.units+1<cLine)(ho:PE X o td)(hi:PE X i ty)(hs:akj i):PE X (.Subscript o i pos) (aim td ty):=by
 intro pins s σ H Q I h;refine aho PySem.F.slot_dict_getitem.lookup hs (thn (ho pins s σ H _ I h) λu s1 ⟨x,H1,I1,rx,q1⟩=>thn (hi pins s1 σ H1 _ I1 q1) λiv s2 ⟨y,H2,z,ry,a,v,ex,g,q2⟩=>?_);subst ex;obtain rfl:u=Value.ref a:=rx;exact⟨Qh z g,VF hu z g ry λw' s3 I3 q=>⟨v,H2,I3,q,q2⟩⟩
def xY(hu:X.A.units+1<cLine)(ho:PE X o td)(hi:PE X i ty)(z:PE X value tv)(hs:swapsWith value (some (.Subscript o i pos')) pos.line X.env=pure false):
  PS X (.Assign [.Subscript o i pos'] value pos) (ait td ty tv):=by
 intro pins s σ H D I h;refine wpAny_Assign_Subscript (thn (z pins s σ H _ I h) λr s1 ⟨v,H1,I1,rv,q1⟩=>thn (ho pins s1 σ H1 _ I1 q1) λu s2 ⟨x,H2,I2,rx,q2⟩=>thn (hi pins s2 σ H2 _ I2 q2) λiv s3 ⟨y,H3,q,ry,a,H4,ex,g,q3⟩=>?_) hs;subst ex;obtain rfl:u=Value.ref a:=rx;exact VH hu q g ry rv λs4 I4=>⟨σ,H4,I4,q3⟩
end
def Rv{P:Program}{w:World}{H:Hp}(h:Heap)(q:sysModules<h.objs.size):lC P w H (h.push {cls:=.type "dict",data:=.dict #[]}) h.objs.size (.dK []):=
 ⟨yj _,beq_eq_false_iff_ne.mpr (Ne.symm (ye q)),[],.nil,Heap.DictOf.new h⟩
noncomputable def agl:TE:=λ_ H Q=>∀p,H p=none->Q (.ref p) (upd H p (.dK []))
section
variable{X:Cx}{pos:Pos}
def FJ:PE X (.Dict [] [] pos) agl:=λpins s σ H Q I h=>
 wpAny_Dict_empty ⟨.ref s.heap.objs.size,_,I.laid (a:=s.heap.objs.size) (o:=.dK []) (t':=s.toks) (λ_ _ q=>zb _ q) (zj _) (Rv s.heap I.big),rfl,h _ (I.hok.fresh (zj _))⟩
end
noncomputable def Sq:List (TE×TE)->St->Hp->(List (V×V)->Hp->Prop)->Prop
 |[],_,H,Q=>Q [] H
 |(tk,tv)::r,σ,H,Q=>tk σ H λx H1=>tv σ H1 λy H2=>Sq r σ H2 λps H3=>Q ((x,y)::ps) H3
abbrev VV:List (V×V)->List (Value×Value)->Prop:=Paired λp q=>RelV p.1 q.1/\RelV p.2 q.2
noncomputable def PPs(X:Cx)(pos:Pos)(keys:List (Option Expr))(values:List Expr)(trs:List (TE×TE)):Prop:=
 ∀(pins:List (Addr×Obj)) (s:Shared) (σ:St) (H:Hp) (Q:List (V×V)->Hp->Prop),Inv X pins σ H s->Sq trs σ H Q->
  wpAny (model X.prog X.w) X.A (evalPairs (pairTrees keys values X.env pos)) (λvs s'=>∃ps H',Inv X pins σ H' s'/\VV ps vs/\Q ps H') X.xe s
def ahJ{X:Cx}{pos:Pos}:PPs X pos [] [] []:=λpins s σ H Q I h=>pairTrees_nil_walk ⟨[],H,I,.nil,h⟩
def tW{X:Cx}{pos:Pos}{k v:Expr}{ks:List (Option Expr)}{vs:List Expr}{tk tv:TE}{q:List (TE×TE)}(hk:PE X k tk)(hv:PE X v tv)(hr:PPs X pos ks vs q):
  PPs X pos (some k::ks) (v::vs) ((tk,tv)::q):=λpins s σ H Q I h=>
 pairTrees_cons_walk (thn (hk pins s σ H _ I h) λu s1 ⟨x,H1,I1,rx,q1⟩=>thn (hv pins s1 σ H1 _ I1 q1) λw2 s2 ⟨y,H2,I2,ry,q2⟩=>
  thn (hr pins s2 σ H2 _ I2 q2) λws s3 ⟨ps,H3,I3,rel,z⟩=>⟨(x,y)::ps,H3,I3,.cons ⟨rx,ry⟩ rel,z⟩)
noncomputable def Ko(kvs more:List (Key×V)):List (Key×V):=more.foldl (λacc kv=>putK acc kv.1 kv.2) kvs
def KV.merge:∀{z:List (Key×V)}{rs:List (Key×Value)}{kvs:List (Key×V)}{vs:List (Key×Value)},KV z rs->KV kvs vs->KV (Ko kvs z) (merged vs rs):=by
 intro z rs kvs vs r;unfold KV at r
 induction r generalizing kvs vs with
 |nil=>intro q;exact q
 | @cons p q ps qs h t ih=>
  intro r0
  have e:KV (putK kvs p.1 p.2) (stored vs q.1 q.2):=by
   have:=r0.put p.1 h.2;rw[<-h.1];exact this
  exact ih e
theorem BZ:∀(more kvs:List (Key×V)),(Ko kvs more).length<=kvs.length+more.length
 |[],kvs=>by show kvs.length<=kvs.length+0;omega
 |p::r,kvs=>by
  have h1:=BZ r (putK kvs p.1 p.2);have h2:=ud kvs p.1 p.2;show(Ko (putK kvs p.1 p.2) r).length<=_;rw[yo];omega
theorem JX{P:Program}{w:World}:∀{kvs:List (Key×V)}{ws:List (Value×Value)},VV (kvs.map λz=>(kV z.1,z.2)) ws->∃rs,Carries (jy P w) ws rs/\KV kvs rs
 |[],_,r=>by rw[zzx]at r;cases r;exact⟨[],True.intro,.nil⟩
 |p::kvs,_,r=>by
  rw[zf]at r
  cases r with
  | @cons a b as bs h t=>
   obtain⟨rs,c,q⟩:=JX (P:=P) (w:=w) t;obtain⟨b1,b2⟩:=b;exact⟨(p.1,b2)::rs,⟨Kv h.1,rfl,c⟩,.cons ⟨rfl,h.2⟩ q⟩
noncomputable def ais(trs:List (TE×TE)):TE:=λσ H Q=>∀p,H p=none->Sq trs σ (upd H p (.dK [])) λps H2=>H2 p=some (.dK [])/\∃kvs:List (Key×V),ps=kvs.map (λkv=>(kV kv.1,kv.2))/\kvs.length<=15/\Q (.ref p) (upd H2 p (.dK (Ko [] kvs)))
def ahi{X:Cx}{pos:Pos}{aa:List (Option Expr)}{ab:List Expr}{ac:List (TE×TE)}(h:PPs X pos aa ab ac)(ae:aa.all (·.isSome)=true)(hl:aa.length=ab.length)(h0:aa≠[])
  (af:aa.length<=15):PE X (.Dict aa ab pos) (ais ac):=by
 intro pins s σ H Q I q;have hn:=I.hok.fresh (zj s.heap.objs.size);have I1:=I.laid (a:=s.heap.objs.size) (o:=.dK []) (h':=s.heap.push {cls:=.type "dict",data:=.dict #[]}) (t':=s.toks) (λ_ _ q=>zb _ q) (zj _) (Rv s.heap I.big);refine wpAny_Dict_walk (knd:=jy X.prog X.w) ae hl h0 af (thn (h pins _ σ _ _ I1 (q _ hn)) λws s2 ⟨ps,H2,I2,rel,e,kvs,ep,lk,q2⟩=>?_);subst ep;obtain⟨rs,c,rk⟩:=JX (P:=X.prog) (w:=X.w) rel;obtain⟨z,hd,ag,r0,dd⟩:=Us I2.hok e;cases r0;refine⟨rs,c,dd,λh' ad hs=>⟨.ref s.heap.objs.size,_,?_,rfl,q2⟩⟩
 have hz:(Ko [] kvs).length<=sizeLine:=by
  have h1:=BZ kvs [];rw[zzC]at h1;rw[zv];omega
 have he:∃q,h'.get? s.heap.objs.size=some q:=let⟨q,_,_,hq,_⟩:=ad;⟨q,hq⟩
 exact Lk I2 (by rw[e];exact True.intro) hs he (Ml hz hd (rk.merge .nil) ad)
structure M1(X:Cx)(o:Expr)(m:Str)(apos:Pos)(e:Expr)(cpos:Pos):Prop where
 base:attributeBase o m X.env (eval o X.env)=eval o X.env
 few:((backTo cpos (starEach [e] X.env)).all (λx=>!x.1) && (backToKw cpos (keywordEach [] X.env)).all (λx=>x.1.isSome)
  && decide (([e]:List Expr).length+([]:List Keyword).length+(if([]:List Keyword).isEmpty then 0 else 1)<30))=true
 line:(apos.endLine==cpos.line)=true
 trees:backTo cpos (starEach [e] X.env)=[(false,eval e X.env)]
structure M2(X:Cx)(o:Expr)(m:Str)(apos:Pos)(e f:Expr)(cpos:Pos):Prop where
 base:attributeBase o m X.env (eval o X.env)=eval o X.env
 few:((backTo cpos (starEach [e,f] X.env)).all (λx=>!x.1) && (backToKw cpos (keywordEach [] X.env)).all (λx=>x.1.isSome)
  && decide (([e,f]:List Expr).length+([]:List Keyword).length+(if([]:List Keyword).isEmpty then 0 else 1)<30))=true
 line:(apos.endLine==cpos.line)=true
 trees:backTo cpos (starEach [e,f] X.env)=[(false,eval e X.env),(false,eval f X.env)]
noncomputable def IsD(H:Hp)(a:Addr):Prop:=(∃kvs,Rd H a (.dK kvs))\/∃kvs,Rd H a (.dT kvs)
def Xa{X:Cx}{pins:List (Addr×Obj)}{σ:St}{H:Hp}{s:Shared}{a:Addr}(I:Inv X pins σ H s)(d:IsD H a):
  s.TypeIs (.ref a) "dict" /\(∀b,Value.ref a=.ref b->∃z,s.heap.get? b=some z/\z.dict=none)/\(a==sysModules)=false:=by
 rcases d with⟨kvs,e⟩|⟨kvs,e⟩
 ·obtain⟨_,hd,vs,_,dd⟩:=KJ I.hok e
  refine⟨dd.typeIs,λb q=>?_,hd⟩;cases q;obtain⟨z,_,_,h1,h2,_⟩:=dd;exact⟨z,h1,h2.2.1⟩
 ·obtain⟨_,hd,xs,_,dd⟩:=Uw I.hok e
  refine⟨dd.typeIs,λb q=>?_,hd⟩;cases q;obtain⟨z,_,_,h1,h2,_⟩:=dd;exact⟨z,h1,h2.2.1⟩
section
variable{X:Cx}{pins:List (Addr×Obj)}{σ:St}{H:Hp}{s:Shared}{a:Addr}{y d:V}{u r:Value}{o:Option V}{A:Around}{E:Value->Shared->Prop}
def air{Q:Value->Shared->Prop}(hu:A.units+1<cLine)(I:Inv X pins σ H s)(g:Vd H a y o)(ry:RelV y u)(h:∀w' s',Inv X pins σ H s'->RelV (o.getD .non) w'->Q w' s'):
  wpAny (model X.prog X.w) A (call (.builtin "dict.get") [.ref a,u]) Q E s:=by
 rcases g with⟨kvs,k,e,ey,l⟩|⟨kvs,k,b,e,ey,eb,l⟩
 ·subst ey
  obtain⟨z,hd,vs,rel,q⟩:=KJ I.hok e;refine zzz zzb q.typeIs zzy (PySem.F.args_dict_get_2 _ _) (meets_dict_get (jy X.prog X.w) a (Kv ry) hd) ⟨_,q.mapOf,h _ _ (I.tok _) ?_⟩;rw[l];exact(rel.val k).getD rfl
 ·subst ey
  cases (show u=Value.ref b from ry);obtain⟨z,hd,xs,rel,q⟩:=Uw I.hok e;refine zzz zzb q.typeIs zzy (PySem.F.args_dict_get_2 _ _) (meetsH_dict_get (tupleKind (jy X.prog X.w)) a b hd) ⟨tupleKind_room_in1 hu,k,xs,Oi I.hok eb,q,h _ _ (I.tok _) ?_⟩;rw[l];exact(rel.val k).getD rfl
def aiM{Q:Value->Shared->Prop}(hu:A.units+1<cLine)(I:Inv X pins σ H s)(g:Vd H a y o)(ry:RelV y u)(rd:RelV d r)(h:∀w' s',Inv X pins σ H s'->RelV (o.getD d) w'->Q w' s'):
  wpAny (model X.prog X.w) A (call (.builtin "dict.get") [.ref a,u,r]) Q E s:=by
 rcases g with⟨kvs,k,e,ey,l⟩|⟨kvs,k,b,e,ey,eb,l⟩
 ·subst ey
  obtain⟨z,hd,vs,rel,q⟩:=KJ I.hok e;refine zzz zzb q.typeIs zzy (PySem.F.args_dict_get_3 _ _ _) (meets_dict_get_default (jy X.prog X.w) a (Kv ry) hd r) ⟨_,q.mapOf,h _ _ (I.tok _) ?_⟩;rw[l];exact(rel.val k).getD rd
 ·subst ey
  cases (show u=Value.ref b from ry);obtain⟨z,hd,xs,rel,q⟩:=Uw I.hok e;refine zzz zzb q.typeIs zzy (PySem.F.args_dict_get_3 _ _ _) (meetsH_dict_get_default (tupleKind (jy X.prog X.w)) a b hd r) ⟨tupleKind_room_in1 hu,k,xs,Oi I.hok eb,q,h _ _ (I.tok _) ?_⟩;rw[l];exact(rel.val k).getD rd
end
noncomputable def agg(td ty:TE):TE:=λσ H Q=>td σ H λx H1=>∃a,x=.ref a/\IsD H1 a/\ty σ H1 λy H2=>∃o,Vd H2 a y o/\Q (o.getD .non) H2
noncomputable def agA(td ty tx:TE):TE:=λσ H Q=>td σ H λx H1=>∃a,x=.ref a/\IsD H1 a/\ty σ H1 λy H2=>tx σ H2 λz H3=>∃o,Vd H3 a y o/\Q (o.getD z) H3
noncomputable def agu(td ty tx:TE):TE:=λσ H Q=>td σ H λx H1=>∃a,x=.ref a/\IsD H1 a/\ty σ H1 λy H2=>tx σ H2 λz H3=>∃kvs k,H3 a=some (.dK kvs)/\y=kV k/\
 (∀v,nY kvs k=some v->Q v (upd H3 a (.dK (QL kvs k))))/\(nY kvs k=none->Q z H3)
section
variable{X:Cx}{o e f:Expr}{apos cpos:Pos}{td ty tx:TE}
def Yp(hu:X.A.units+1<cLine)(ho:PE X o td)(he:PE X e ty)(m:M1 X o "get" apos e cpos):PE X (.Call (.Attribute o "get" apos) [e] [] cpos) (agg td ty):=by
 intro pins s σ H Q I h;refine yyw m.base m.few m.line yQ zzb PySem.F.type_dict_get (thn (ho pins s σ H _ I h) λu s1 ⟨x,H1,z,rx,a,ex,d,q1⟩=>?_);subst ex;obtain rfl:u=Value.ref a:=rx;obtain⟨t1,t2,_⟩:=Xa z d;refine⟨t1,t2,?_⟩;rw[m.trees];refine Calls.callWith_builtin rfl (Calls.evalArgs_plain (Calls.spliced_cons (thn (he pins s1 σ H1 _ z q1) λiv s2 ⟨y,H2,I2,ry,ov,g,q2⟩=>Calls.spliced_nil ?_)));exact air hu I2 g ry λw' s3 I3 q=>⟨_,H2,I3,q,q2⟩
def nC(hu:X.A.units+1<cLine)(ho:PE X o td)(he:PE X e ty)(hf:PE X f tx)(m:M2 X o "get" apos e f cpos):PE X (.Call (.Attribute o "get" apos) [e,f] [] cpos) (agA td ty tx):=by
 intro pins s σ H Q I h;refine yyw m.base m.few m.line yQ zzb PySem.F.type_dict_get (thn (ho pins s σ H _ I h) λu s1 ⟨x,H1,I1,rx,a,ex,d,q1⟩=>?_);subst ex;obtain rfl:u=Value.ref a:=rx;obtain⟨t1,t2,_⟩:=Xa I1 d;refine⟨t1,t2,?_⟩;rw[m.trees]
 refine Calls.callWith_builtin rfl (Calls.evalArgs_plain (Calls.spliced_cons (thn (he pins s1 σ H1 _ I1 q1) λiv s2 ⟨y,H2,I2,ry,q2⟩=>
  Calls.spliced_cons (thn (hf pins s2 σ H2 _ I2 q2) λfv s3 ⟨z,H3,I3,rz,ov,g,q3⟩=>Calls.spliced_nil ?_))))
 exact aiM hu I3 g ry rz λw' s4 I4 q=>⟨_,H3,I4,q,q3⟩
def Zx(ho:PE X o td)(he:PE X e ty)(hf:PE X f tx)(m:M2 X o "pop" apos e f cpos):PE X (.Call (.Attribute o "pop" apos) [e,f] [] cpos) (agu td ty tx):=by
 intro pins s σ H Q I h;refine yyw m.base m.few m.line yQ zz7 PySem.F.type_dict_pop (thn (ho pins s σ H _ I h) λu s1 ⟨x,H1,I1,rx,a,ex,d,q1⟩=>?_);subst ex;obtain rfl:u=Value.ref a:=rx;obtain⟨t1,t2,_⟩:=Xa I1 d;refine⟨t1,t2,?_⟩;rw[m.trees]
 refine Calls.callWith_builtin rfl (Calls.evalArgs_plain (Calls.spliced_cons (thn (he pins s1 σ H1 _ I1 q1) λiv s2 ⟨y,H2,I2,ry,q2⟩=>
  Calls.spliced_cons (thn (hf pins s2 σ H2 _ I2 q2) λfv s3 ⟨z,H3,I3,rz,kvs,k,ea,ey,q3,q4⟩=>Calls.spliced_nil ?_))))
 subst ey
 cases l:nY kvs k with
 |some v=>exact akg I3 ea ry l (.inr ⟨fv,rfl⟩) λw' s4 I4 q=>⟨v,_,I4,q,q3 v l⟩
 |none=>exact ajr I3 ea ry l λs4 I4=>⟨z,H3,I4,rz,q4 l⟩
end
section
variable{X:Cx}{pins:List (Addr×Obj)}{σ:St}{H:Hp}{s:Shared}{a:Addr}{kvs:List (Key×V)}{A:Around}{E:Value->Shared->Prop}
def ZR{Q:Value->Shared->Prop}(I:Inv X pins σ H s)(e:Rd H a (.dK kvs))(h:∀p s',H p=none->Inv X pins σ (upd H p (.dK kvs)) s'->Q (.ref p) s'):wpAny (model X.prog X.w) A (call (.type "dict") [.ref a]) Q E s:=by
 obtain⟨z,hd,vs,rel,dd⟩:=KJ I.hok e;refine kt_call_dict hd dd (by rw[<-rel.length];exact z) λh' aa hs=>?_;refine h _ _ (I.hok.fresh (zj _)) (I.laid (a:=s.heap.objs.size) (o:=.dK kvs) (t':=s.toks) (λb q hq=>?_) (zj _) (Ml z (beq_eq_false_iff_ne.mpr (Ne.symm (ye I.big))) rel aa));exact(hs.2 b (ye (zt hq))).trans (zb _ hq)
end
end L2
namespace L2
open PySem PySem.Spec PyProof.Rows
section
variable{κ:Type} [DecidableEq κ]
def Zt{kvs:List (κ×V)}{k:κ}(h:nY kvs k=none):¬k∈kvs.map (·.1):=by
 intro m;obtain⟨p,hp,e⟩:=zi.mp m;have q:(kvs.any λz=>decide (z.1=k))=true:=yY.mpr ⟨p,hp,yf e⟩;rw[oA,h]at q;exact absurd q (by simp)
theorem XM:∀{l:List κ}{k:κ},l.Nodup->¬k∈l->(l++[k]).Nodup
 |[],k,_,_=>by simp
 |a::r,k,h,hk=>by
  obtain⟨h1,h2⟩:=yq.mp h;show(a::(r++[k])).Nodup;refine yq.mpr ⟨λm=>?_,XM h2 λm=>hk (zu.mpr (Or.inr m))⟩;rcases yg.mp m with q|q
  ·exact h1 q
  ·exact hk (zu.mpr (Or.inl (zx.mp q).symm))
def ahO{kvs:List (κ×V)}{k:κ}(v:V)(hn:(kvs.map (·.1)).Nodup)(h:nY kvs k=none):((putK kvs k v).map (·.1)).Nodup:=by
 rw[ZP v h,zp];exact XM hn (Zt h)
end
end L2
namespace L2
open PySem PySem.Spec PyProof.Rows
structure Zy(K:Fg_)(x qual:Str)(st:Stmt)(f:Addr)(fd:FuncData)(dvs:List V):Prop where
 ex:∃(oc:Value)(od:Option Addr)(Td:Addr)(kV doc pm:Value)(an:Option Addr)(cdv ct:Value)(osl:Array (Option Value))(ot:Obj)(its:List Value)(nt:Nat),
  fd=PySem.W.fnOf x qual (mZ st) (lM st) (iD st) (.ref Td) kV doc pm an cdv ct/\K.lookup f=some ⟨oc,od,.func fd,osl⟩/\PySem.W.codeIn K cdv qual=true/\K.lookup Td=some ot/\ot.data=.seq its.toArray nt/\Vals dvs its
 kp:PySem.W.keepIn K (.ref f)=true
section
variable{P:Program}{w:World}{K:Fg_}{mg:Str->Option Value}{base:Heap}
def Zy.ok{x z:Str}{st:Stmt}{f:Addr}{fd:FuncData}{N ps:List Str}{k:Nat}{sp:Sp}{dvs:List V}(F:Zy K x z st f fd dvs)(S:iI N ps (iD st))(len:∀vs H Q E,sp vs H Q E->vs.length=ps.length)
  (ab:∀(aa:Value)(A:Around)(outer:List Env)(s:Shared)(H:Hp)(vs:List V)(Q:VK)(E:XK),qM k (A.deeper (envOfC z (iD st) s.heap.objs.size f aa))->sp vs H Q E->
   ∃t,PSs (Ys CX0 P w K mg base N z (iD st) f aa A outer s H E).nox (lM st) t/\t {nx:=λ_ H'=>Q .non H',rt:=Q} (start N vs) H):jE P w K mg base CX0 (k+1) f fd ps sp:=by
 obtain⟨oc,od,Td,kV,ae,pm,an,aa,ct,af,ot,its,nt,rfl,lk,ac,_⟩:=F.ex;refine ajs lk ac S len λA outer s H vs Q E hr ad=>?_;obtain⟨t,h,q⟩:=ab aa A outer s H vs Q E hr ad;exact⟨t,h.nox,q⟩
def Fun.okv{x q:Str}{st:Stmt}{f:Addr}{fd:FuncData}{N ps:List Str}{k:Nat}{sp:Sp}(F:Fun K x q st f fd)(S:iI N ps (iD st))
  (z:∀(cdv:Value)(A:Around)(outer:List Env)(s:Shared)(H:Hp)(vs:List V)(Q:VK)(E:XK),qM k (A.deeper (envOfC q (iD st) s.heap.objs.size f cdv))->sp vs H Q E->
   ∃t,PSs (Ys CX0 P w K mg base N q (iD st) f cdv A outer s H E).nox (lM st) t/\t {nx:=λ_ H'=>Q .non H',rt:=Q} (start N vs) H) (len:∀vs H Q E,sp vs H Q E->vs.length=ps.length:=by walk_at "v"):jE P w K mg base CX0 (k+1) f fd ps sp:=F.ok S len z
def Zy.okv{x q:Str}{st:Stmt}{f:Addr}{fd:FuncData}{N ps:List Str}{k:Nat}{sp:Sp}{dvs:List V}(F:Zy K x q st f fd dvs)(S:iI N ps (iD st))
  (z:∀(cdv:Value)(A:Around)(outer:List Env)(s:Shared)(H:Hp)(vs:List V)(Q:VK)(E:XK),qM k (A.deeper (envOfC q (iD st) s.heap.objs.size f cdv))->sp vs H Q E->
   ∃t,PSs (Ys CX0 P w K mg base N q (iD st) f cdv A outer s H E).nox (lM st) t/\t {nx:=λ_ H'=>Q .non H',rt:=Q} (start N vs) H) (len:∀vs H Q E,sp vs H Q E->vs.length=ps.length:=by walk_at "v"):jE P w K mg base CX0 (k+1) f fd ps sp:=F.ok S len z
def Zy.binds{x q:Str}{st:Stmt}{f:Addr}{fd:FuncData}{ps:List Str}{dvs:List V}(F:Zy K x q st f fd dvs)(n:Nat)
  (h:∀(Td:Addr)(kV z pm:Value)(an:Option Addr)(aa ct:Value)(its us:List Value),its.length=dvs.length->(us++its.drop n).length=ps.length->
   ∃k,bindArgs (PySem.W.fnOf x q (mZ st) (lM st) (iD st) (.ref Td) kV z pm an aa ct) ⟨us,[]⟩=(seqItems? (.ref Td)>>=k)/\k (some its.toArray)=pure (ps.zip (us++its.drop n))):∃ds,Binds K fd ps ds/\Vals (dvs.drop n) ds:=by
 obtain⟨oc,od,Td,kV,z,pm,an,aa,ct,ad,ot,its,nt,rfl,lk,ac,lt,ab,hv⟩:=F.ex;refine⟨its.drop n,λs us X hl=>?_,hv.drop n⟩;obtain⟨k,e1,e2⟩:=h Td kV z pm an aa ct its us hv.length.symm hl;exact PySem.W.binds_K X rfl lt ab e1 e2
def VP{x q:Str}{st:Stmt}{f Td:Addr}{oc:Value}{od an:Option Addr}{ab:Array (Option Value)}{kV aa pm z ct:Value}{dvs:List V}{ot:Obj}{its:List Value}{nt:Nat}(l:K.lookup f=some ⟨oc,od,.func (PySem.W.fnOf x q (mZ st) (lM st) (iD st) (.ref Td) kV aa pm an z ct),ab⟩)
  (c:PySem.W.codeIn K z q=true) (k:PySem.W.keepIn K (.ref f)=true) (lt:K.lookup Td=some ot) (hd:ot.data=.seq its.toArray nt) (hv:Vals dvs its):Zy K x q st f (PySem.W.fnOf x q (mZ st) (lM st) (iD st) (.ref Td) kV aa pm an z ct) dvs:=
 ⟨⟨oc,od,Td,kV,aa,pm,an,z,ct,ab,ot,its,nt,rfl,l,c,lt,hd,hv⟩,k⟩
end
structure ahh(K:Fg_)(C:Addr)(m:Str)(f:Addr):Prop where
 ga:PySem.W.specialIn K (.ref C) "__getattribute__" =some (some (.builtin "type.__getattribute__"))
 rd:PySem.W.readsIn K C (.type "type")=true
 fi:PySem.W.findCls K (.ref C) (.type "type") m=some (.val (.ref f))
section
variable{X:Cx}{CX:CXT}{k:Nat}{f C:Addr}{fd:FuncData}{ps ks:List Str}{sp:Sp}{dvs:List V}{ds:List Value}{E:XK}{x m:Str}{p pos apos:Pos}{e o:Expr}{es:List Expr}{ta:TE}{t tk:TA}{kws:List Keyword}
def pM{pl:Sem Bool}(Z:ahh X.K C m f)(F:jE X.prog X.w X.K X.mg X.base CX k f fd ps sp)(hr:qM k X.A)(hg:Gl X x)(hm:X.mg x=some (.ref C))(hk:PySem.W.keepIn X.K (.ref f)=true)(hb:Binds X.K fd ps ds)(hd:Vals dvs ds)(hx:xr CX X E)
  (ha:PA X (e::es) t) (z:(x==("__debug__" :Str))=false:=by decide) (he:starEach (e::es) X.env=(false,eval e X.env)::starEach es X.env:=by rfl) (hpl:(backTo pos (starEach es X.env)).any (·.1)=false:=by rfl)
  (ht:eval (.Call (.Attribute (.Name x p) m apos) (e::es) [] pos) X.env=(do
   let ov<-eval (.Name x p) X.env
   standAt apos.atName
   let(f,first)<-holding [ov] (getMethod ov m pl)
   callWith pos f first (backTo pos (starEach (e::es) X.env)) (backToKw pos (keywordEach [] X.env))):=by rfl):
  PE X (.Call (.Attribute (.Name x p) m apos) (e::es) [] pos) (YT sp dvs E t):=by
 intro pins s σ H Q I h;refine zz8 (pl:=pl) (FW I hg hm ?_ z) ht;refine PySem.W.method_cls I.kIn Z.ga (PySem.W.cls_value I.kIn Z.rd Z.fi rfl ?_);have I':Inv X pins σ H {s with toks:=s.toks+1}:=I.tok _;refine zzU (first:=[]) (h₀:=X.base) I.ok.mod.kin hk (thn (ha pos pins _ σ H _ I' h) λus s1 ⟨vs,H1,I1,r,q⟩=>⟨I1.kIn,?_⟩) he hpl;exact Rc F hr hb hd hx I1 r q
inductive Xr(X:Cx)(CX:CXT)(m:Str):List (Addr×Sp)->Prop
 |nil:Xr X CX m []
 |cons {C f:Addr} {fd:FuncData} {ps:List Str} {sp:Sp} {k:Nat} {r:List (Addr×Sp)} (c:Cls X.K C) (hm:Meth X.K C m f) (F:jE X.prog X.w X.K X.mg X.base CX k f fd ps sp) (hr:qM k X.A) (hb:Binds X.K fd ps []) (t:Xr X CX m r):Xr X CX m ((C,sp)::r)
def Xr.get{tab:List (Addr×Sp)}(T:Xr X CX m tab){C:Addr}{sp:Sp}(h:(C,sp)∈tab):∃f fd ps k,Cls X.K C/\Meth X.K C m f/\jE X.prog X.w X.K X.mg X.base CX k f fd ps sp/\qM k X.A/\Binds X.K fd ps []:=by
 induction T with
 |nil=>cases h
 |cons c hm F hr hb t ih=>
  rcases zu.mp h with z|z
  ·cases z
   exact⟨_,_,_,_,c,hm,F,hr,hb⟩
  ·exact ih z
noncomputable def Nk(tab:List (Addr×Sp))(m:Str)(E:XK)(ta:TE)(t:TA):TE:=λσ H Q=>ta σ H λx H1=>∃a C dx fs sp,x=.ref a/\H1 a=some (.ins C dx fs)/\(C,sp)∈tab/\fs.lookup m=none/\t σ H1 λvs H2=>sp (x::vs) H2 Q E
def Zf{pl:Sem Bool}{tab:List (Addr×Sp)}(he:PE X o ta)(T:Xr X CX m tab)(hx:xr CX X E)(ha:PA X (e::es) t)
  (aa:starEach (e::es) X.env=(false,eval e X.env)::starEach es X.env:=by rfl) (hpl:(backTo pos (starEach es X.env)).any (·.1)=false:=by rfl)
  (ht:eval (.Call (.Attribute o m apos) (e::es) [] pos) X.env=(do
   let ov<-eval o X.env
   standAt apos.atName
   let(f,first)<-holding [ov] (getMethod ov m pl)
   callWith pos f first (backTo pos (starEach (e::es) X.env)) (backToKw pos (keywordEach [] X.env))):=by rfl):
  PE X (.Call (.Attribute o m apos) (e::es) [] pos) (Nk tab m E ta t):=by
 intro pins s σ H Q I h;refine zz8 (pl:=pl) (thn (he pins s σ H _ I h) λu s1 ⟨y,H1,I1,rx,a,C,dx,fs,sp,ex,ea,z,l,q⟩=>?_) ht;subst ex;obtain rfl:u=Value.ref a:=rx;obtain⟨f,fd,ps,k,c,hm,F,hr,hb⟩:=T.get z;refine Kh I1 ea c hm l ?_;refine zzU (first:=[.ref a]) (h₀:=X.base) I.ok.mod.kin hm.kp (thn (ha pos pins s1 σ H1 _ I1 q) λus s2 ⟨vs,H2,I2,r,q2⟩=>⟨I2.kIn,?_⟩) aa hpl;exact Rc (us:=.ref a::us) (vs:=.ref a::vs) (dvs:=[]) (ds:=[]) F hr hb .nil hx I2 (.cons rfl r) (by rw[yX];exact q2)
def Xx{pl:Sem Bool}{tab:List (Addr×Sp)}(he:PE X o ta)(T:Xr X CX m tab)(hx:xr CX X E)
  (ht:eval (.Call (.Attribute o m apos) [] [] pos) X.env=(do
   let ov<-eval o X.env
   standAt apos.atName
   let(f,first)<-holding [ov] (getMethod ov m pl)
   callWith pos f first (backTo pos (starEach [] X.env)) (backToKw pos (keywordEach [] X.env))):=by rfl):
  PE X (.Call (.Attribute o m apos) [] [] pos) (Nk tab m E ta Xj):=by
 intro pins s σ H Q I h;refine zz8 (pl:=pl) (thn (he pins s σ H _ I h) λu s1 ⟨y,H1,I1,rx,a,C,dx,fs,sp,ex,ea,z,l,q⟩=>?_) ht;subst ex;obtain rfl:u=Value.ref a:=rx;obtain⟨f,fd,ps,k,c,hm,F,hr,hb⟩:=T.get z;refine Kh I1 ea c hm l ?_;exact PySem.W.callWith_K0 (first:=[.ref a]) I1.kIn hm.kp (Rc (us:=[.ref a]) (vs:=[.ref a]) (dvs:=[]) (ds:=[]) F hr hb .nil hx I1 (.cons rfl .nil) q)
variable{g:List Value->List Value->List Value}{gV:List V->List V->List V}
end
theorem wR(f:Str)(v:V):∀{fs:List (Str×V)},(fs.map (·.1)).contains f=false->CN f v fs=fs++[(f,v)]
 |[],_=>rfl
 |(g,x)::r,h=>by
  rw[zf,List.contains_cons]at h;have h1:¬g=f:=λe=>by rw[e]at h;simp at h
  have h2:(r.map (·.1)).contains f=false:=(Bool.or_eq_false_iff.mp h).2;show(if g=f then(g,v)::r else(g,x)::CN f v r)=_;rw[ze h1,wR f v h2];rfl
structure Qm(K:Fg_)(C:Addr):Prop where
 cl:Cls K C
 ha:PySem.W.findIn K (.ref C) "__class__" =some (some (.builtin "object.__class__"))
 hn:PySem.W.specialIn K (.builtin "object.__class__") "__get__" =some (some (.builtin "getset_descriptor.__get__"))
 htk:PySem.W.takesIn K (.builtin "object.__class__")=some true
 hm:PySem.W.mroIn K C (.type "object")=some true
def Qm.of{K:Fg_}{C a dx:Addr}{H:Hp}{fs:List (Str×V)}(z:Qm K C)(h:H a=some (.ins C dx fs)):Jh K H (.ref a) (.ref C):=.ins h z.cl z.ha z.hn z.htk z.hm
end L2
namespace L2
open PySem PySem.Spec PyProof.Rows
noncomputable def signs(x:Str):List V:=x.cps.toList.map λc=>V.str ⟨#[c]⟩
noncomputable def aiW(x:Str):It:=⟨λi _=>i<x.cps.size,λi H v H'=>H'=H/\(signs x)[i]? =some v,λi _=>x.cps.size<=i⟩
def Yt{P:Program}{w:World}{K:Fg_}{tg:Expr}{ty:String}(ab:ty= "str_ascii_iterator" \/ty= "str_iterator") (it:Addr) (x:Str) (t:Tok):Turn P w K tg (aiW x) [it] it (λi h=>h.IsStrIter it ty x t i) where
 mem:=by simp
 obj:=λi h st b hb=>by
  have e:b=it:=by simpa using hb
  subst e;obtain⟨o,e,c,d⟩:=st;exact⟨o,e,λv z=>by rw[d]at z;cases z⟩
 keep:=λi h h' st k=>by
  obtain⟨o,e,r⟩:=st;exact⟨o,k it (by simp) o e,r⟩
 item:=by
  intro X hP hw hK hc i pins s σ H E I hf st hg;subst hP hw hK;have hi:i<x.cps.size:=hg;have hx:x.cps[i]? =some x.cps[i]:=zzP hi
  have hs:(signs x)[i]? =some (.str ⟨#[x.cps[i]]⟩):=by
   unfold signs;rw[zh,zzk,hx];rfl
  rcases ab with rfl|rfl
  ·refine wpAny_pyNext_ascii_item st hx λh' aa sb=>?_
   obtain⟨o,e,c,d⟩:=id aa;exact⟨_,rfl,Uk (s:={s with heap:=h',toks:=s.toks+1}) e c d (by decide) ⟨.str ⟨#[x.cps[i]]⟩,H,I.turnedN hf λb o hb q=>(sb.2 b (by simpa using hb)).trans q,⟨_,rfl⟩,⟨rfl,hs⟩,aa,λb hb=>(hf b hb).1⟩⟩
  ·refine wpAny_pyNext_wide_item st hx λh' aa sb=>?_
   obtain⟨o,e,c,d⟩:=id aa;exact⟨_,rfl,Uk (s:={s with heap:=h',toks:=s.toks+1}) e c d (by decide) ⟨.str ⟨#[x.cps[i]]⟩,H,I.turnedN hf λb o hb q=>(sb.2 b (by simpa using hb)).trans q,⟨_,rfl⟩,⟨rfl,hs⟩,aa,λb hb=>(hf b hb).1⟩⟩
 done:=by
  intro X hP hw hK hc i pins s σ H E I hf st hg;subst hP hw hK;have hx:x.cps[i]? =none:=Array.getElem?_eq_none hg;rcases ab with rfl|rfl
  ·exact wpAny_pyNext_ascii_end (I.ok.hd hc) st hx λh' eb=>⟨rfl,I.turnedN (t':=s.toks) hf λb o hb q=>eb b o (by simpa using hb) q⟩
  ·exact wpAny_pyNext_wide_end (I.ok.hd hc) st hx λh' eb=>⟨rfl,I.turnedN (t':=s.toks) hf λb o hb q=>eb b o (by simpa using hb) q⟩
 self:=λ_ _ _ _ _ st h=>by
  rcases ab with rfl|rfl
  ·exact wpAny_pyIter_striter_ascii st h
  ·exact wpAny_pyIter_striter_wide st h
section
variable{X:Cx}{K:Fg_}{tg:Expr}
noncomputable def akp(tl:TE):TI:=λσ H R=>tl σ H λx H1=>∃z,x=.str z/\R (aiW z) H1
def ajj{l:Expr}{tl:TE}(hl:PE X l tl):PI X tg l (akp tl):=by
 intro pins s σ H R I h;refine thn (hl pins s σ H _ I h) λv s1 ⟨x,H1,I1,r1,q1⟩=>?_;obtain⟨z,e,q⟩:=q1;subst e;obtain⟨t,rfl⟩:=r1
 have aa:∀(ty:String)(ab:ty= "str_ascii_iterator" \/ty= "str_iterator"),PIE X pins σ tg R (.ref s1.heap.objs.size) {s1 with heap:=s1.heap.push {cls:=.type ty,data:=.fields #[.str z t,.int 0 0]}}:=λty ab=>by
  refine⟨s1.heap.objs.size,[s1.heap.objs.size],_,_,H1,rfl,I1.kept (t':=s1.toks) λb o e=>zb _ e,Yt ab _ z t,⟨_,yb _ rfl,rfl,rfl⟩,λb hb=>?_,q⟩;have e:b=s1.heap.objs.size:=by simpa using hb
  subst e;exact I1.fpOk (zj _) (I1.hok.fresh (zj _))
 cases ha:z.cps.all (·<128)
 ·exact wpAny_pyIter_wide ha (aa _ (.inr rfl))
 ·exact wpAny_pyIter_ascii ha (aa _ (.inl rfl))
variable{σ:St}{H:Hp}{R:It->Hp->Prop}{tl:TE}{cap:List (Option Nat)}{g:TG}{tt:TT}{te:TE}{Q:VK}{x:Str}
def ap_iStr:akp tl σ H R=tl σ H λx H1=>∃z,x=.str z/\R (aiW z) H1:=rfl
def jZ.str(Sσ:St->Prop)(p:V->Bool)(F:V->V)(h0:Sσ (pI σ cap))(hz:x.cps.size<=sizeLine)
  (hs:∀y∈signs x,∀(σ:St)(H5:Hp)(R1:St->VK)(R2:St->Hp->Prop),Sσ σ->Same H H5->(p y=true->∀q H6,Sσ q->Same H5 H6->R1 q (F y) H6)->(p y=false->∀q H6,Sσ q->Same H5 H6->R2 q H6)->
   g y σ H5 λq H4=>tt q H4 λb H5=>if b=true then te q H5 (R1 q)else R2 q H5)
  (k:∀D H',H D=Option.none->Same H H'->H' D=some (.lst (((signs x).filter p).map F))->Q (.ref D) H'):jZ cap (aiW x) g tt te σ H Q:=λD hD=>by
 have hl:(signs x).length=x.cps.size:=by simp[signs]
 refine BP (xs:=signs x) (aiW x) Sσ p F hD h0 (by omega) (λi y H' hy sm=>?_) (λH' sm=>?_) hs λH' s e=>k D H' hD s e
 ·have hi:i<(signs x).length:=(zo.mp hy).1
  exact⟨by show i<x.cps.size;omega,λz H2 hz=>⟨zw (hz.2.symm.trans hy),hz.1⟩⟩
 ·show x.cps.size<=_
  omega
noncomputable def akA:R2:=λx y H Q=>∃i j,x=.str i/\y=.str j/\Q (.bl (!decide (j.cps.toList<i.cps.toList))) H
def Pg:OpR X (compareOp .LtE) akA:=by
 intro pins s σ H x y v u Q I rx z h;obtain⟨i,j,rfl,rfl,q⟩:=h;obtain⟨t,rfl⟩:=rx;obtain⟨t',rfl⟩:=z;exact PySem.P.le_str ⟨.bl _,H,I,rfl,q⟩
noncomputable def Qp:List V->Hp->VK->Prop:=λxs H Q=>∃a kvs,xs=[.ref a]/\Rd H a (.dK kvs)/\∀p,H p=none->Q (.ref p) (upd H p (.dK kvs))
def HB:mR X (.type "dict") Qp:=by
 intro pins s σ H xs us Q I r h;obtain⟨a,kvs,rfl,e,q⟩:=h;obtain⟨u,rfl,z⟩:=vals1 r;cases z;exact ZR I e λp s' hp I'=>⟨.ref p,_,I',rfl,q p hp⟩
def aht{o value:Expr}{f:Str}{ta tv:TE}{pos pos':Pos}(ha:PE X o ta)(z:PE X value tv)(q:swapsWith value (some (.Attribute o f pos')) pos.line X.env=pure false)(hK:X.K=K:=by rfl):PS X (.Assign [.Attribute o f pos'] value pos) (aip K ta tv f):=hK▸aix ha z q
variable{ta tv ty td tx:TE}{f:Str}{D:Ends}{C:Addr}{tab:List (Addr×Sp)}{m:Str}{E:XK}{t tk:TA}{sp:Sp}{dvs:List V}{gV:List V->List V->List V}
def ap_fldK:aiF K ta f σ H Q=ta σ H λx H1=>∃a C dx fs v,x=.ref a/\H1 a=some (.ins C dx fs)/\Cls K C/\iU K C f/\fs.lookup f=some v/\Q v H1:=rfl
def ap_sFld:aip K ta tv f D σ H=tv σ H λy H1=>ta σ H1 λx H2=>∃a C dx fs,x=.ref a/\H2 a=some (.ins C dx fs)/\Cls K C/\iU K C f/\fs.length<1000/\D.nx σ (upd H2 a (.ins C dx (CN f y fs))):=rfl
def ap_methD:Nk tab m E ta t σ H Q=ta σ H λx H1=>∃a C dx fs sp,x=.ref a/\H1 a=some (.ins C dx fs)/\(C,sp)∈tab/\fs.lookup m=none/\t σ H1 λvs H2=>sp (x::vs) H2 Q E:=rfl
def ap_make:aiP C sp dvs E t σ H Q=t σ H λvs H1=>∀x dx,H1 x=none->H1 dx=none->dx≠x->sp (.ref x::(vs++dvs)) (upd (upd H1 dx (.own x)) x (.ins C dx [])) (λv H2=>v=.non/\Q (.ref x) H2) E:=rfl
def ap_dget2:agA td ty tx σ H Q=td σ H λx H1=>∃a,x=.ref a/\IsD H1 a/\ty σ H1 λy H2=>tx σ H2 λz q=>∃o,Vd q a y o/\Q (o.getD z) q:=rfl
def ap_dget:aim td ty σ H Q=td σ H λx H1=>ty σ H1 λy H2=>∃a v,x=.ref a/\Vd H2 a y (some v)/\Q v H2:=rfl
def ap_dput:ait td ty tv D σ H=tv σ H λv H1=>td σ H1 λx H2=>ty σ H2 λy z=>∃a q,x=.ref a/\ajx z a y v q/\D.nx σ q:=rfl
def ap_dnewK:agl σ H Q=∀p,H p=none->Q (.ref p) (upd H p (.dK [])):=rfl
def ap_dictOf{p:Addr}:Qp [.ref p] H Q=∃kvs,Rd H p (.dK kvs)/\∀q,H q=none->Q (.ref q) (upd H q (.dK kvs)):=by simp[Qp]
def ap_leS{i j:Str}:akA (.str i) (.str j) H Q=Q (.bl (!decide (j.cps.toList<i.cps.toList))) H:=propext ⟨fun⟨i',j',e1,z,q⟩=>by cases e1;cases z;exact q,λq=>⟨i,j,rfl,rfl,q⟩⟩
def ap_rIsC{y:V}:ahT K [y,.ref C] H Q=∃t k,Jh K H y t/\PySem.W.kitOne K t (.ref C)=some k/\Q (.bl k) H:=propext ⟨fun⟨q,C',t,k,e,r⟩=>by cases e;exact⟨t,k,r⟩,fun⟨t,k,r⟩=>⟨y,C,t,k,rfl,r⟩⟩
def ap_ixT{x y:V}:agH K x y H Q=∃p xs i v,x=.ref p/\y=.int i/\SqT K H p xs/\atI xs i=some v/\Q v H:=rfl
def ap_lenS{z:Str}:(fun(xs:List V)(H:Hp)(Q:VK)=>∃z,xs=[V.str z]/\z.length<=sizeLine/\Q (.int z.length) H) [.str z] H Q=(z.length<=sizeLine/\Q (.int z.length) H):=propext ⟨fun⟨q,e,r⟩=>by cases e;exact r,λr=>⟨z,rfl,r⟩⟩
end
end L2
namespace L2
open PySem PySem.W PySem.Spec PyProof.Rows
section
variable{α β:Type}{lt:Nat->Nat->Bool}{n:Nat}
noncomputable def Kok(lt:Nat->Nat->Bool)(n:Nat)(R:α->Prop):KasT α->Prop
 |.ret a=>R a
 |.ask i j k=>i<n/\j<n/\Kok lt n R (k (lt i j))
theorem Kok.bind{R:α->Prop}{S:β->Prop}{f:α->KasT β}:∀{t:KasT α},Kok lt n R t->(∀a,R a->Kok lt n S (f a))->Kok lt n S (t.bind f)
 |.ret a,h,k=>k a h
 |.ask i j q,h,k=>⟨h.1,h.2.1,Kok.bind (t:=q (lt i j)) h.2.2 k⟩
theorem Kok.wp{R:α->Prop}{z:Nat->Nat->(Bool->Shared->Prop)->Shared->Prop}{s:Shared}{Q:α->Shared->Prop}(hc:∀i j (C:Bool->Shared->Prop),i<n->j<n->C (lt i j) s->z i j C s):
  ∀{t:KasT α},Kok lt n R t->(∀a,R a->Q a s)->t.kasWp z Q s
 |.ret a,h,k=>k a h
 |.ask i j q,h,k=>hc i j _ h.1 h.2.1 (Kok.wp hc (t:=q (lt i j)) h.2.2 k)
noncomputable def Prm(n:Nat)(p:Array Nat):Prop:=p.toList.Perm (List.range n)
def Prm.ltn{p:Array Nat}(h:Prm n p)(hn:0<n)(i:Nat):p.getD i 0<n:=by
 by_cases hi:i<p.size
 ·have hm:p.getD i 0∈p.toList:=by simp[Array.getD,hi]
  exact y4.mp (h.mem_iff.mp hm)
 ·simp[Array.getD,hi,hn]
def Prm.rev{p:Array Nat}(h:Prm n p)(i j:Nat):Prm n (kas_rev p i j):=(yyo.mp (mirror_perm p i j _)).trans h
def Prm.bub{p:Array Nat}(h:Prm n p)(k d:Nat):Prm n (bubble p k d):=(yyo.mp (bubble_perm p k d)).trans h
theorem Qk{p:Array Nat}(h:Prm n p)(hn:0<n):∀f m,Kok lt n (λ_=>True) (kas_asc p f m)
 |0,_=>trivial
 |f+1,m=>⟨Prm.ltn h hn _,Prm.ltn h hn _,by
  dsimp only;by_cases q:lt (p.getD m 0) (p.getD (m - 1) 0)=true
  ·rw[zn q];trivial
  ·rw[ze q];exact Qk h hn f (m+1)⟩
theorem FP(hn:0<n):∀f {p:Array Nat} m q,Prm n p->Kok lt n (λr:Array Nat×Nat×Nat=>Prm n r.1) (kas_desc f p m q)
 |0,_,_,_,h=>h
 |f+1,p,m,q,h=>⟨Prm.ltn h hn _,Prm.ltn h hn _,by
  dsimp only;by_cases hc:lt (p.getD m 0) (p.getD (m - 1) 0)=true
  ·rw[zn hc]
   by_cases z:q>0
   ·rw[zn z];exact FP hn f _ _ (h.rev _ _)
   ·rw[ze z];exact FP hn f _ _ h
  ·rw[ze hc]
   refine⟨Prm.ltn h hn _,Prm.ltn h hn _,?_⟩;dsimp only;by_cases hd:lt (p.getD (m - 1) 0) (p.getD m 0)=true
   ·rw[zn hd];exact h
   ·rw[ze hd];exact FP hn f _ _ h⟩
def Rh{p:Array Nat}(h:Prm n p)(hn:0<n)(m r:Nat):Kok lt n (λr:Nat×Array Nat=>Prm n r.2) (kas_tail3 m r p):=
 Kok.bind (Qk (h.rev _ _) hn _ _) λ_ _=>h.rev 0 m
def Sw{p:Array Nat}(h:Prm n p)(hn:0<n)(m r:Nat):Kok lt n (λr:Nat×Array Nat=>Prm n r.2) (kas_descPart m r p):=
 Kok.bind (FP hn _ _ _ h) λa ha=>by
  by_cases q:a.2.2>0
  ·rw[zn q];exact Rh (ha.rev _ _) hn _ _
  ·rw[ze q];exact Rh ha hn _ _
def VB{p:Array Nat}(h:Prm n p)(hn:0<n)(r:Nat):Kok lt n (λr:Nat×Array Nat=>Prm n r.2) (kas_count r p):=
 Kok.bind (Qk h hn _ _) λm _=>by
  by_cases h1:(m==r)=true
  ·rw[zn h1];exact h
  ·rw[ze h1]
   by_cases h2:m>1
   ·rw[zn h2]
    refine⟨Prm.ltn h hn _,Prm.ltn h hn _,?_⟩;dsimp only;by_cases q:lt (p.getD 0 0) (p.getD (m - 1) 0)=true
    ·rw[zn q];exact h
    ·rw[ze q];exact Sw (h.rev _ _) hn _ _
   ·rw[ze h2];exact Sw h hn _ _
theorem Ib{p:Array Nat}(h:Prm n p)(hn:0<n)(k:Nat):∀f l r,Kok lt n (λ_=>True) (kas_place p k f l r)
 |0,_,_=>trivial
 |f+1,l,r=>by
  show Kok lt n _ (if l>=r then _ else _);by_cases h1:l>=r
  ·rw[zn h1];trivial
  ·rw[ze h1]
   refine⟨Prm.ltn h hn _,Prm.ltn h hn _,?_⟩;dsimp only;by_cases q:lt (p.getD k 0) (p.getD ((l+r)/2) 0)=true
   ·rw[zn q];exact Ib h hn k f _ _
   ·rw[ze q];exact Ib h hn k f _ _
theorem WW(hn:0<n):∀f {p:Array Nat} k,Prm n p->Kok lt n (Prm n) (kas_bin f p k)
 |0,_,_,h=>h
 |f+1,p,k,h=>Kok.bind (Ib h hn k k 0 k) λl _=>WW hn f _ (h.bub _ _)
def Zi(hn:0<n):Kok lt n (Prm n) (kas_sort n):=
 Kok.bind (VB (p:=(List.range n).toArray) (by unfold Prm;simp) hn n) λa ha=>by
  by_cases h1:a.1<n
  ·rw[zn h1];exact WW hn _ _ ha
  ·rw[ze h1];exact ha
end
section
variable{key:Nat->Int}{n:Nat}
noncomputable def Up(key:Nat->Int)(p:Array Nat)(m:Nat):Prop:=∀a b,a<b->b<m->key (p.getD a 0)<key (p.getD b 0)
noncomputable def Dn(key:Nat->Int)(p:Array Nat)(m:Nat):Prop:=∀a b,a<b->b<m->key (p.getD b 0)<key (p.getD a 0)
def ul(p:Array Nat)(k:Nat):p.getD k 0=(p[k]?).getD 0:=by
 by_cases h:k<p.size
 ·simp[Array.getD,h]
 ·simp[Array.getD,h]
theorem Prm.size{p:Array Nat}(h:Prm n p):p.size=n:=by
 have:=h.length_eq
 simpa using this
def Prm.unlike{p:Array Nat}(h:Prm n p)(hk:∀i j,i<n->j<n->key i=key j->i=j){a b:Nat}(ha:a<n)(hb:b<n)(aa:a≠b):key (p.getD a 0)≠key (p.getD b 0):=λe=>by
 have q:=h.size;have hn:0<n:=by omega
 have e1:=hk _ _ (h.ltn hn a) (h.ltn hn b) e;have z:p.toList.Nodup:=h.nodup_iff.mpr List.nodup_range
 have e2:p.toList[a]'(by simpa [q] using ha)=p.toList[b]'(by simpa [q] using hb):=by
  have q1:p.getD a 0=p[a]'(by omega):=by simp[Array.getD,q,ha]
  have q2:p.getD b 0=p[b]'(by omega):=by simp[Array.getD,q,hb]
  rw[q1,q2]at e1
  simpa using e1
 exact aa ((yyA z).mp e2)
def Vu{p:Array Nat}{i j:Nat}(q:j<=p.size)(k:Nat):(kas_rev p i j).getD k 0=if i<=k/\k<j then p.getD (i+j - 1 - k) 0 else p.getD k 0:=by
 unfold kas_rev;rw[ul,getElem?_mirror_all q];by_cases c:i<=k/\k<j
 ·rw[zn c,zn c,ul]
 ·rw[ze c,ze c,ul]
def XJ{p:Array Nat}{k l:Nat}(hk:k<p.size)(hl:l<=k)(a:Nat):(bubble p k (k - l)).getD a 0=if a=l then p.getD k 0 else if l<a/\a<=k then p.getD (a - 1) 0 else p.getD a 0:=by
 rw[ul,getElem?_bubble hk (k - l) (by omega),show k - (k - l)=l by omega];by_cases q:a=l
 ·rw[zn q,zn q,ul]
 ·rw[ze q,ze q]
  by_cases z:l<a/\a<=k
  ·rw[zn z,zn z,ul]
  ·rw[ze z,ze z,ul]
theorem Kok.mono{α:Type}{lt:Nat->Nat->Bool}{R S:α->Prop}(h:∀a,R a->S a):∀{t:KasT α},Kok lt n R t->Kok lt n S t
 |.ret a,q=>h a q
 |.ask i j k,q=>⟨q.1,q.2.1,Kok.mono h q.2.2⟩
def Up.snoc{p:Array Nat}{m:Nat}(h:Up key p m)(h1:1<=m)(z:key (p.getD (m - 1) 0)<key (p.getD m 0)):Up key p (m+1):=λa b q hb=>by
 by_cases e:b=m
 ·subst e
  by_cases e2:a=b - 1
  ·subst e2;exact z
  ·exact yyH (h a (b - 1) (by omega) (by omega)) z
 ·exact h a b q (by omega)
def Dn.snoc{p:Array Nat}{m:Nat}(h:Dn key p m)(h1:1<=m)(z:key (p.getD m 0)<key (p.getD (m - 1) 0)):Dn key p (m+1):=λa b q hb=>by
 by_cases e:b=m
 ·subst e
  by_cases e2:a=b - 1
  ·subst e2;exact z
  ·exact yyH z (h a (b - 1) (by omega) (by omega))
 ·exact h a b q (by omega)
theorem aha(hk:∀i j,i<n->j<n->key i=key j->i=j){p:Array Nat}(h:Prm n p):∀f m,1<=m->m+f<=n->Up key p m->
  Kok (λi j=>decide (key i<key j)) n (λr=>m<=r/\r<=m+f/\Up key p r/\(r<m+f->key (p.getD r 0)<key (p.getD (r - 1) 0))) (kas_asc p f m)
 |0,m,h1,h2,hu=>⟨zj _,zj _,hu,λz=>absurd z (by omega)⟩
 |f+1,m,h1,h2,hu=>⟨Prm.ltn h (by omega) _,Prm.ltn h (by omega) _,by
  dsimp only;by_cases q:key (p.getD m 0)<key (p.getD (m - 1) 0)
  ·rw[zn (by simpa using q)]
   exact⟨zj _,by omega,hu,λ_=>q⟩
  ·rw[ze (by simpa using q)]
   have aa:=h.unlike hk (show m - 1<n by omega) (show m<n by omega) (by omega);refine Kok.mono (λr hr=>?_) (aha hk h f (m+1) (by omega) (by omega) (hu.snoc h1 (by omega)));exact⟨by omega,by omega,hr.2.2.1,λz=>hr.2.2.2 (by omega)⟩⟩
theorem agx(hk:∀i j,i<n->j<n->key i=key j->i=j){p:Array Nat}(h:Prm n p):∀f m,1<=m->m+f<=n->Dn key p m->
  Kok (λi j=>decide (key i<key j)) n (λr:Array Nat×Nat×Nat=>r.1=p/\r.2.2=0/\m<=r.2.1/\r.2.1<=m+f/\Dn key p r.2.1) (kas_desc f p m 0)
 |0,m,h1,h2,hu=>⟨rfl,rfl,zj _,zj _,hu⟩
 |f+1,m,h1,h2,hu=>⟨Prm.ltn h (by omega) _,Prm.ltn h (by omega) _,by
  dsimp only;by_cases z:key (p.getD m 0)<key (p.getD (m - 1) 0)
  ·rw[zn (by simpa using z),ze (by omega)]
   refine Kok.mono (λr q=>?_) (agx hk h f (m+1) (by omega) (by omega) (hu.snoc h1 z));exact⟨q.1,q.2.1,by omega,by omega,q.2.2.2.2⟩
  ·rw[ze (by simpa using z)]
   have aa:=h.unlike hk (show m - 1<n by omega) (show m<n by omega) (by omega);refine⟨Prm.ltn h (by omega) _,Prm.ltn h (by omega) _,?_⟩;dsimp only;rw[zn (yf (by omega))];exact⟨rfl,rfl,zj _,by show m<=_;omega,hu⟩⟩
def aju(z:∀i j,i<n->j<n->key i=key j->i=j){p:Array Nat}(h:Prm n p){m:Nat}(h1:1<=m)(h2:m<=n)(hd:Dn key p m):
  Kok (λi j=>decide (key i<key j)) n (λr:Nat×Array Nat=>Prm n r.2/\1<=r.1/\r.1<=n/\Up key r.2 r.1) (kas_tail3 m n p):=by
 have hs:=h.size
 have hu:Up key (kas_rev p 0 m) m:=λa b aa hb=>by
  rw[Vu (by omega),Vu (by omega),zn (by omega),zn (by omega)];exact hd _ _ (by omega) (by omega)
 refine Kok.bind (aha z (h.rev 0 m) (n - m) m h1 (by omega) hu) λr q=>?_;exact⟨h.rev 0 m,by show 1<=r;omega,by show r<=n;omega,q.2.2.1⟩
def aiH(hk:∀i j,i<n->j<n->key i=key j->i=j){p:Array Nat}(h:Prm n p){m:Nat}(h2:m+1<=n)(hd:Dn key p (m+1)):
  Kok (λi j=>decide (key i<key j)) n (λr:Nat×Array Nat=>Prm n r.2/\1<=r.1/\r.1<=n/\Up key r.2 r.1) (kas_descPart m n p):=by
 refine Kok.bind (agx hk h (n - (m+1)) (m+1) (by omega) (by omega) hd) λr hr=>?_;obtain⟨r1,r2,r3⟩:=r;obtain⟨e1,z,e3,e4,q⟩:=hr;dsimp only at e1 z e3 e4 q⊢;subst e1 z;rw[ze (by omega)];exact aju hk h (by omega) (by omega) q
def ahF(hk:∀i j,i<n->j<n->key i=key j->i=j){p:Array Nat}(h:Prm n p)(hn:1<=n):
  Kok (λi j=>decide (key i<key j)) n (λr:Nat×Array Nat=>Prm n r.2/\1<=r.1/\r.1<=n/\Up key r.2 r.1) (kas_count n p):=by
 refine Kok.bind (aha hk h (n - 1) 1 (by omega) (by omega) λa b h1 h2=>absurd h1 (by omega)) λm hm=>?_;obtain⟨z,m2,q,m4⟩:=hm;by_cases h1:(m==n)=true
 ·rw[zn h1]
  exact⟨h,z,by show m<=n;omega,q⟩
 ·rw[ze h1]
  have h1:m≠n:=by simpa using h1
  by_cases h2:m>1
  ·rw[zn h2]
   refine⟨Prm.ltn h (by omega) _,Prm.ltn h (by omega) _,?_⟩;dsimp only;have:=q 0 (m - 1) (by omega) (by omega);rw[zn (by simpa using this)];exact⟨h,z,by show m<=n;omega,q⟩
  ·rw[ze h2]
   have e:m=1:=by omega
   subst e
   exact aiH hk h (by omega) λa b aa hb=>by
    have:a=0:=by omega
    have:b=1:=by omega
    subst a b;exact m4 (by omega)
theorem PX{p:Array Nat}(h:Prm n p){k:Nat}(q:k<n)(hu:Up key p k):∀f l r,l<=r->r<=k->r - l<=f->(∀a,a<l->key (p.getD a 0)<=key (p.getD k 0))->(∀a,r<=a->a<k->key (p.getD k 0)<key (p.getD a 0))->
  Kok (λi j=>decide (key i<key j)) n (λl'=>l'<=k/\(∀a,a<l'->key (p.getD a 0)<=key (p.getD k 0))/\(∀a,l'<=a->a<k->key (p.getD k 0)<key (p.getD a 0))) (kas_place p k f l r)
 |0,l,r,h1,h2,h3,ha,hb=>⟨by omega,ha,λa q1 z=>hb a (by omega) z⟩
 |f+1,l,r,h1,h2,h3,ha,hb=>by
  show Kok _ n _ (if l>=r then _ else _);by_cases hc:l>=r
  ·rw[zn hc]
   exact⟨by omega,ha,λa q1 z=>hb a (by omega) z⟩
  ·rw[ze hc]
   refine⟨Prm.ltn h (by omega) _,Prm.ltn h (by omega) _,?_⟩;dsimp only;by_cases hd:key (p.getD k 0)<key (p.getD ((l+r)/2) 0)
   ·rw[zn (by simpa using hd)]
    refine PX h q hu f _ _ (by omega) (by omega) (by omega) ha λa q1 z=>?_;by_cases e:a=(l+r)/2
    ·rw[e];exact hd
    ·exact yyH hd (hu _ _ (by omega) z)
   ·rw[ze (by simpa using hd)]
    refine PX h q hu f _ _ (by omega) (by omega) (by omega) (λa q1=>?_) hb;by_cases e:a=(l+r)/2
    ·rw[e];omega
    ·have:=hu a ((l+r)/2) (by omega) (by omega)
     omega
theorem aiJ(hk:∀i j,i<n->j<n->key i=key j->i=j):∀f {p:Array Nat} k,Prm n p->k+f=n->Up key p k->Kok (λi j=>decide (key i<key j)) n (λp'=>Prm n p'/\Up key p' n) (kas_bin f p k)
 |0,p,k,h,e,hu=>⟨h,by rwa [<-e]⟩
 |f+1,p,k,h,e,hu=>by
  refine Kok.bind (PX h (by omega) hu k 0 k (by omega) (by omega) (by omega) (λa q=>absurd q (by omega)) (λa q1 q2=>absurd q2 (by omega))) λl hl=>?_;obtain⟨l1,l2,l3⟩:=hl;have hs:=h.size;refine aiJ hk f (k+1) (h.bub _ _) (by omega) λa b z hb=>?_
  have aa:∀x,x<l->key (p.getD x 0)<key (p.getD k 0):=λx hx=>by
   have:=l2 x hx;have:=h.unlike hk (show x<n by omega) (show k<n by omega) (by omega);omega
  rw[XJ (by omega) l1,XJ (by omega) l1];by_cases c1:a=l
  ·rw[zn c1,ze (by omega),zn (by omega)]
   exact l3 _ (by omega) (by omega)
  ·rw[ze c1]
   by_cases c2:b=l
   ·rw[ze (by omega),zn c2]
    exact aa _ (by omega)
   ·rw[ze c2]
    by_cases c3:l<a
    ·rw[zn (by omega),zn (by omega)]
     exact hu _ _ (by omega) (by omega)
    ·rw[ze (by omega)]
     by_cases c4:l<b
     ·rw[zn (by omega)]
      by_cases c5:b - 1=a
      ·omega
      ·exact hu _ _ (by omega) (by omega)
     ·rw[ze (by omega)]
      exact hu _ _ z (by omega)
def aiA(q:∀i j,i<n->j<n->key i=key j->i=j)(hn:1<=n):Kok (λi j=>decide (key i<key j)) n (λp=>Prm n p/\Up key p n) (kas_sort n):=
 Kok.bind (ahF q (p:=(List.range n).toArray) (by unfold Prm;simp) hn) λa ha=>by
  obtain⟨a1,a2,a3,a4⟩:=ha;by_cases h1:a.1<n
  ·rw[zn h1,show max a.1 1=a.1 by omega]
   exact aiJ q _ _ a1 (by omega) a4
  ·rw[ze h1]
   have e:a.1=n:=by omega
   exact⟨a1,by rwa [e]at a4⟩
end
section
variable{n:Nat}{lt:Nat->Nat->Bool}
theorem Ra{p q:Nat->Bool}:∀{l:List Nat}{i:Nat},i∈l->(∀x∈l,p x=true->q x=true)->p i=false->q i=true->l.countP p<l.countP q
 |[],_,h,_,_,_=>by cases h
 |a::l,i,h,hpq,hp,hq=>by
  rw[List.countP_cons,List.countP_cons];have hm:l.countP p<=l.countP q:=List.countP_mono_left λx z=>hpq x (ya _ z);rcases zu.mp h with rfl|h
  ·rw[hp,hq]
   simp;omega
  ·have ih:=Ra h (λx z=>hpq x (ya _ z)) hp hq
   have:=hpq a zm
   cases aa:p a with
   |true=>rw[this aa];simp;exact ih
   |false=>simp;split<;>omega
theorem Kok.congr{α:Type}{z:Nat->Nat->Bool}{R:α->Prop}(h:∀i j,i<n->j<n->lt i j=z i j):∀{t:KasT α},Kok lt n R t->Kok z n R t
 |.ret a,q=>q
 |.ask i j k,q=>⟨q.1,q.2.1,h i j q.1 q.2.1▸Kok.congr h q.2.2⟩
def agO(ac:∀i,i<n->lt i i=false)(tr:∀i j k,i<n->j<n->k<n->lt i j=true->lt j k=true->lt i k=true)(ab:∀i j,i<n->j<n->i≠j->lt i j=true\/lt j i=true)(hn:1<=n):
  Kok lt n (λp=>Prm n p/\∀a b,a<b->b<n->lt (p.getD a 0) (p.getD b 0)=true) (kas_sort n):=by
 obtain⟨key,aa⟩:∃key:Nat->Int,∀i,key i=(((List.range n).countP λx=>lt x i:Nat):Int):=⟨_,λ_=>rfl⟩
 have up:∀i j,i<n->j<n->lt i j=true->key i<key j:=λi j hi hj h=>by
  rw[aa,aa];have:=Ra (p:=λx=>lt x i) (q:=λx=>lt x j) (l:=List.range n) (i:=i) (y4.mpr hi) (λx hx ae=>tr x i j (y4.mp hx) hi hj ae h) (ac i hi) h;omega
 have eq:∀i j,i<n->j<n->lt i j=decide (key i<key j):=λi j hi hj=>by
  cases h:lt i j with
  |true=>exact(yf (up i j hi hj h)).symm
  |false=>
   refine(ym λz=>?_).symm;by_cases e:i=j
   ·rw[e]at z;omega
   ·rcases ab i j hi hj e with t|t
    ·rw[h]at t;cases t
    ·have:=up j i hj hi t
     omega
 have hk:∀i j,i<n->j<n->key i=key j->i=j:=λi j hi hj e=>by
  by_cases h:i=j
  ·exact h
  ·rcases ab i j hi hj h with t|t
   ·have:=up i j hi hj t;omega
   ·have:=up j i hj hi t;omega
 refine Kok.congr (lt:=λi j=>decide (key i<key j)) (λi j hi hj=>(eq i j hi hj).symm) (Kok.mono (λp hp=>⟨hp.1,λa b ad hb=>?_⟩) (aiA hk hn));rw[eq _ _ (hp.1.ltn (by omega) _) (hp.1.ltn (by omega) _)];exact yf (hp.2 a b ad hb)
end
noncomputable def uY:List Int->List Int->Bool->Bool
 |x::xs,y::ys,f=>if x=y then uY xs ys f else decide (x<y)
 |[],_,f=>f
 |_::_,[],f=>f
theorem PB:∀a:List Int,uY a a false=false
 |[]=>rfl
 |x::a=>by rw[uY,zn rfl,PB a]
theorem agD:∀{a b c:List Int},a.length=b.length->b.length=c.length->uY a b false=true->uY b c false=true->uY a c false=true
 |[],_,_,_,_,h,_=>by simp[uY]at h
 |x::a,[],_,h,_,_,_=>by simp at h
 |x::a,y::b,[],_,h,_,_=>by simp at h
 |x::a,y::b,z::c,h1,h2,h,h'=>by
  rw[uY]at h h'⊢;by_cases e1:x=y
  ·subst e1
   rw[zn rfl]at h;by_cases q:x=z
   ·subst q
    rw[zn rfl]at h'⊢;exact agD (by simpa using h1) (by simpa using h2) h h'
   ·rw[ze q]at h'⊢
    exact h'
  ·rw[ze e1]at h
   have h:=yK h;by_cases q:y=z
   ·subst q
    rw[ze e1];exact yf h
   ·rw[ze q]at h'
    have h':=yK h';rw[ze (by omega)];exact yf (by omega)
theorem Vg:∀{a b:List Int},a.length=b.length->a≠b->uY a b false=true\/uY b a false=true
 |[],[],_,h=>(h rfl).elim
 |[],y::b,h,_=>by simp at h
 |x::a,[],h,_=>by simp at h
 |x::a,y::b,h,hne=>by
  rw[uY,uY];by_cases e:x=y
  ·subst e
   rw[zn rfl,zn rfl];exact Vg (by simpa using h) λz=>hne (by rw[z])
  ·rw[ze e,ze (Ne.symm e)]
   rcases Int.lt_or_gt_of_ne e with q|q
   ·exact .inl (yf q)
   ·exact .inr (yf q)
section
variable{P:Program}{w:World}{A:Around}{E:Value->Shared->Prop}{s:Shared}
theorem Rr{b f:Bool}{Q:Bool->Shared->Prop}:∀{ms ns:List Int}{xs ys:List Value},Vals (ms.map V.int) xs->Vals (ns.map V.int) ys->∀i,Q (uY ms ns f) s->KatLex P w A b f Q (xs.zip ys) i s
 |[],_,_,_,r,_,i,h=>by
  cases r;exact h
 |m::ms,[],_,_,r,r',i,h=>by
  cases r';rw[List.zip_nil_right];exact h
 |m::ms,n::ns,_,_,r,r',i,h=>by
  rw[zf]at r r'
  cases r with
  |cons a1 a2=>
  cases r' with
  |cons b1 b2=>
  obtain⟨t,rfl⟩:=a1;obtain⟨t',rfl⟩:=b1;rw[zzV];refine kat_cons (yyE ?_);by_cases e:m=n
  ·rw[show(m==n)=true by simp[e]]
   refine kat_yes (Rr a2 b2 (i+1) ?_)
   rwa [uY,zn e]at h
  ·rw[show(m==n)=false by simp[e]]
   refine kat_no ?_;rw[uY,ze e]at h
   cases q:(b && i==0)with
   |true=>exact oneLt_int h
   |false=>exact kat_one _ _ (lt_int h)
theorem Qs{h:Heap}:∀{us:List Value},(∀v∈us,∃b o xs m i t,v=.ref b/\h.get? b=some o/\o.cls=.type "tuple" /\o.data=.seq xs m/\xs[0]? =some (Value.int i t))->
  ∃fs,KatTups h us fs/\fs.length=us.length/\∀f∈fs,∃i t,f=Value.int i t
 |[],_=>⟨[],trivial,rfl,λ_ h=>by cases h⟩
 |v::us,hv=>by
  obtain⟨b,o,xs,m,i,t,rfl,h1,h2,q,h4⟩:=hv v (.head _);obtain⟨fs,z,k2,k3⟩:=Qs (us:=us) λv hm=>hv v (.tail _ hm);exact⟨_::fs,KatTups.cons h1 h2 q h4 z,by rw[yo,yo,k2],λf hf=>(zu.mp hf).elim (λe=>⟨i,t,e⟩) (k3 f)⟩
end
section
variable{X:Cx}
theorem Bw:∀{ys:List V}{us:List Value}{i:Nat},Vals ys us->i<ys.length->RelV (ys.getD i .non) (us.getD i Value.none)
 |_,_,_,.nil,h=>by simp at h
 |_,_,0,.cons r _,_=>r
 |_,_,i+1,.cons _ t,h=>by
  simp only[List.getD_cons_succ];exact Bw t (by simpa using h)
theorem Gx{ys:List V}{us:List Value}(r:Vals ys us):∀{l:List Nat},(∀i∈l,i<ys.length)->Vals (l.map λi=>ys.getD i .non) (l.map λi=>us.getD i Value.none)
 |[],_=> .nil
 |i::l,h=> .cons (Bw r (h i (.head _))) (Gx r λj q=>h j (.tail _ q))
def Iz(ys:List V):((List.range ys.length).map λi=>ys.getD i V.non)=ys:=by
 refine zzO (by simp) λi h1 h2=>?_;simp[h2]
noncomputable def SX(ys:List V)(ts:V->List Int)(p:Array Nat):Prop:=∀m,(∀y∈ys,(ts y).length=m)->(ys.map ts).Nodup->∀a b,a<b->b<ys.length->uY (ts (ys.getD (p.getD a 0) .non)) (ts (ys.getD (p.getD b 0) .non)) false=true
def XQ{ys:List V}{ts:V->List Int}(hn:1<=ys.length):Kok (λi j=>uY (ts (ys.getD i .non)) (ts (ys.getD j .non)) (decide ((ts (ys.getD i .non)).length<(ts (ys.getD j .non)).length))) ys.length (λp=>Prm ys.length p/\SX ys ts p) (kas_sort ys.length):=by
 by_cases h:∃m,(∀y∈ys,(ts y).length=m)/\(ys.map ts).Nodup
 ·obtain⟨m,h1,h2⟩:=h
  have hm:∀i,i<ys.length->(ts (ys.getD i .non)).length=m:=λi hi=>h1 _ (by simp[hi])
  have z:∀i j,i<ys.length->j<ys.length->decide ((ts (ys.getD i .non)).length<(ts (ys.getD j .non)).length)=false:=λi j hi q=>by
   rw[hm i hi,hm j q];simp
  refine Kok.mono (λp hp=>⟨hp.1,λ_ _ _ a b ab hb=>?_⟩) (agO (n:=ys.length) (lt:=λi j=>uY (ts (ys.getD i .non)) (ts (ys.getD j .non)) (decide ((ts (ys.getD i .non)).length<(ts (ys.getD j .non)).length))) (λi hi=>?_) (λi j k hi q hk h h'=>?_) (λi j hi q aa=>?_) hn)
  ·rw[z i i hi hi];exact PB _
  ·rw[z i j hi q]at h
   rw[z j k q hk]at h';rw[z i k hi hk];exact agD ((hm i hi).trans (hm j q).symm) ((hm j q).trans (hm k hk).symm) h h'
  ·rw[z i j hi q,z j i q hi]
   refine Vg ((hm i hi).trans (hm j q).symm) λe=>aa ?_;refine(zz1 (by rw[za];exact hi) h2).mp ?_;rw[zh,zh,zg hi,zg q];have q1:ys.getD i .non=ys[i]:=by simp[hi]
   have q2:ys.getD j .non=ys[j]:=by simp[q]
   rw[q1,q2]at e;exact congrArg some e
  ·have:=hp.2 a b ab hb
   rwa [z _ _ (hp.1.ltn (by omega) _) (hp.1.ltn (by omega) _)]at this
 ·exact Kok.mono (λp hp=>⟨hp,λm h1 h2=>absurd ⟨m,h1,h2⟩ h⟩) (Zi hn)
end
noncomputable def But(D:Addr)(H H':Hp):Prop:=∀b u,b≠D->H b=some u->H' b=some u
section
variable{K:Fg_}{a:Addr}{xs:List V}{g:TG}{te:TE}{σ:St}{H:Hp}{Q:VK}{cap:List (Option Nat)}
def jZ.listE(Sσ:St->Prop)(F:Nat->V->Hp->Prop)(hS:SqL K H a xs)(h0:Sσ (pI σ cap))(hz:xs.length<=sizeLine)
  (hs:∀D i x,xs[i]? =some x->∀(σ:St)(H5:Hp)(R:St->VK),Sσ σ->Same H H5->H D=Option.none->(∃acc,H5 D=some (.lst acc))->(∀v σ4 H6,Sσ σ4->Same H5 H6->(∀H',But D H6 H'->F i v H')->R σ4 v H6)->
   g x σ H5 λσ4 H4=>te σ4 H4 (R σ4))
  (k:∀D H' acc,H D=Option.none->Same H H'->H' D=some (.lst acc)->acc.length=xs.length->(∀i v,acc[i]? =some v->F i v H')->Q (.ref D) H'):jZ cap (Itl K a) g JF te σ H Q:=by
 intro D hD;refine⟨λi m acc σ H2=>m=xs.length - i/\i<=xs.length/\Sσ σ/\Same H H2/\acc.length=i/\∀j v,acc[j]? =some v->∀H',But D H2 H'->F j v H',⟨xs.length,rfl,yj _,h0,iG hD,rfl,λj v e=>by simp at e⟩,?_⟩;rintro i m acc σ1 H2 ⟨rfl,hi,hσ,z,aa,hF⟩ hA;by_cases ac:i<xs.length
 ·have hx:xs[i]? =some xs[i]:=by simp[ac]
  refine .inr ⟨⟨xs,xs[i],z.seq hS,hx⟩,λy H3 hy=>?_⟩;obtain rfl:H3=H2:=hy.1;obtain rfl:y=xs[i]:=zw ((hy.2 xs (z.seq hS)).symm.trans hx);simp only[ap_noIf,if_true];refine hs D i _ hx σ1 H3 _ hσ z hD ⟨_,hA⟩ λv σ4 H6 ae s6 ag=>?_;have ah:=s6 _ _ hA;refine⟨acc,ah,by omega,xs.length - (i+1),by omega,rfl,ac,ae,(z.trans s6).upd hD,by rw[yd,aa];rfl,λj u hj H' hb=>?_⟩;have ab:But D H6 H':=λb o q e=>hb b o q ((iJ q).trans e);by_cases ad:j<acc.length
  ·rw[yL ad]at hj
   exact hF j u hj H' λb o q e=>ab b o q (s6 _ _ e)
  ·rw[yI (by omega)]at hj
   have af:j - acc.length=0:=by
    have:=(zo.mp hj).1;simp at this;omega
   rw[af]at hj;cases hj;obtain rfl:j=i:=by omega
   exact ag H' ab
 ·obtain rfl:i=xs.length:=by omega
  exact .inl ⟨⟨xs,z.seq hS,zj _⟩,k D H2 acc hD z hA aa λj v e=>hF j v e H2 λb o _ e=>e⟩
end
end L2
namespace L2
open PySem PySem.Spec PyProof.Rows
structure Mk0(K:Fg_)(C:Addr):Prop where
 makes:PySem.W.makesIn K C=true
 init:PySem.W.findIn K (.ref C) "__init__" =some (some (.builtin "object.__init__"))
 kp:PySem.W.keepIn K (.ref C)=true
noncomputable def aiz(C:Addr):TE:=λ_ H Q=>∀x dx,H x=none->H dx=none->dx≠x->Q (.ref x) (upd (upd H dx (.own x)) x (.ins C dx []))
def ap_new0{C:Addr}{σ:St}{H:Hp}{Q:VK}:aiz C σ H Q=∀x dx,H x=none->H dx=none->dx≠x->Q (.ref x) (upd (upd H dx (.own x)) x (.ins C dx [])):=rfl
def Lb{X:Cx}{C:Addr}{x:Str}{p pos:Pos}(M:Mk0 X.K C)(hg:Gl X x)(hm:X.mg x=some (.ref C))(z:(x==("__debug__" :Str))=false:=by decide):PE X (.Call (.Name x p) [] [] pos) (aiz C):=by
 intro pins s σ H Q I h;refine yT (FW I hg hm ?_ z);have q:=h (s.heap.objs.size+1) s.heap.objs.size (I.hok.fresh (zzo _)) (I.hok.fresh (zj _)) (ye (yya _));have I2:=Inv.made (C:=C) I;have Y:=yyB (M:=model X.prog X.w) I.kIn M.makes;refine PySem.W.callWith_K0 I.kIn M.kp (yyI (Xy I.kIn M.makes M.init (λself=>PySem.W.Looks.of_pure (PySem.W.oi_bind self)) ?_))
 have g1:((s.heap.push PySem.W.emptyDict).push (PySem.W.instObj C s.heap.objs.size)).get? (s.heap.objs.size+1)=some (PySem.W.instObj C s.heap.objs.size):=by
  have e:=yb (s.heap.push PySem.W.emptyDict) (o:=PySem.W.instObj C s.heap.objs.size) rfl;rw[size_push']at e;exact e
 have t1:PySem.W.Looks (model X.prog X.w) ((s.heap.push PySem.W.emptyDict).push (PySem.W.instObj C s.heap.objs.size)) (typeOf (.ref (s.heap.objs.size+1))) (.ref C):=(PySem.W.Looks.ld g1).andThen .now;have t2:PySem.W.Looks (model X.prog X.w) ((s.heap.push PySem.W.emptyDict).push (PySem.W.instObj C s.heap.objs.size)) (isInstance (.ref (s.heap.objs.size+1)) (.type "object")) true:=t1.andThen (Y.top.keeps λb o e=>zb _ (zb _ e));refine codeAny_call_builtin PySem.W.oi_plain PySem.W.entry_oi (@PySem.W.check_slot (model X.prog X.w) _ _ _ "object.__init__" "object" "__init__" (.ref (s.heap.objs.size+1)) [] [] _ PySem.W.oi_kind PySem.W.oi_split t2 (PySem.W.oi_args _) ?_);rw[PySem.W.oi_run];exact yc ⟨rfl,.ref (s.heap.objs.size+1),_,I2,rfl,q⟩
section
variable{K:Fg_}{a b:Addr}{xs ys:List V}{g:TG}{te:TE}{σ:St}{H:Hp}{Q:VK}{cap:List (Option Nat)}
def jZ.zipE(Sσ:St->Prop)(F:Nat->V->Hp->Prop)(hS:SqL K H a xs)(ad:SqL K H b ys)(ab:xs.length=ys.length)(h0:Sσ (pI σ cap))(hz:xs.length<=sizeLine)
  (hs:∀D i x y,xs[i]? =some x->ys[i]? =some y->∀(σ:St)(H5:Hp)(p:Addr)(R:St->VK),Sσ σ->Same H H5->H D=Option.none->(∃acc,H5 D=some (.lst acc))->H5 p=Option.none->
   (∀v σ4 H6,Sσ σ4->Same (upd H5 p (.tup [x,y])) H6->(∀H',But D H6 H'->F i v H')->R σ4 v H6)->g (.ref p) σ (upd H5 p (.tup [x,y])) λσ4 H4=>te σ4 H4 (R σ4))
  (k:∀D H' acc,H D=Option.none->Same H H'->H' D=some (.lst acc)->acc.length=xs.length->(∀i v,acc[i]? =some v->F i v H')->Q (.ref D) H'):jZ cap (Itz K a b) g JF te σ H Q:=by
 intro D hD;refine⟨λi m acc σ H2=>m=xs.length - i/\i<=xs.length/\Sσ σ/\Same H H2/\acc.length=i/\∀j v,acc[j]? =some v->∀H',But D H2 H'->F j v H',⟨xs.length,rfl,yj _,h0,iG hD,rfl,λj v e=>by simp at e⟩,?_⟩;rintro i m acc σ1 H2 ⟨rfl,hi,hσ,q,ae,hF⟩ hA;by_cases aa:i<xs.length
 ·have hx:xs[i]? =some xs[i]:=by simp[aa]
  have hy:ys[i]? =some (ys[i]'(ab▸aa)):=by simp[ab▸aa]
  refine .inr ⟨⟨xs,ys,_,_,q.seq hS,q.seq ad,hx,hy⟩,λv H3 hv=>?_⟩;obtain⟨p,x,y,hp,rfl,rfl,e1,e2⟩:=hv;have e1:=e1 xs (q.seq hS);have e2:=e2 ys (q.seq ad);simp only[ap_noIf,if_true];refine hs D i x y e1 e2 σ1 H2 p _ hσ q hD ⟨_,hA⟩ hp λv σ4 H6 ah s6 aj=>?_;have ac:=(iG (o:=.tup [x,y]) hp).trans s6;have ak:=ac _ _ hA;refine⟨acc,ak,by omega,xs.length - (i+1),by omega,rfl,aa,ah,(q.trans ac).upd hD,by rw[yd,ae];rfl,λj u hj H' hb=>?_⟩;have af:But D H6 H':=λb o z e=>hb b o z ((iJ z).trans e);by_cases ag:j<acc.length
  ·rw[yL ag]at hj
   exact hF j u hj H' λb o z e=>af b o z (ac _ _ e)
  ·rw[yI (by omega)]at hj
   have ai:j - acc.length=0:=by
    have:=(zo.mp hj).1;simp at this;omega
   rw[ai]at hj;cases hj;obtain rfl:j=i:=by omega
   exact aj H' af
 ·obtain rfl:i=xs.length:=by omega
  exact .inl ⟨⟨xs,ys,q.seq hS,q.seq ad,.inl (zj _)⟩,k D H2 acc hD q hA ae λj v e=>hF j v e H2 λb o _ e=>e⟩
end
end L2
namespace PySem
open PySem.Spec PyProof.Rows
def NQ:typeLookup (.type "list") "keys" =pure none:=by rw[typeLookup_type,builtinLookup_eq_fast];kernel_rfl
section
variable{prog:Program}{w:World}{A:Around}{E:Value->Shared->Prop}{a:Addr}{xs:Array Value}{k:Nat}{s:Shared}
def agY{Q:Option Value->Shared->Prop}{sl:Array (Option Value)}(hx:s.heap.get? a=some {cls:=.type "list",dict:=none,data:=.seq xs k,slots:=sl}) (hA:A.handled=none)
  (hq:∀h' tk,(∀b u,s.heap.get? b=some u->h'.get? b=some u)->Q none {s with heap:=h',toks:=tk}):wpAny (model prog w) A (getAttr? (.ref a) "keys") Q E s:=by
 obtain⟨hp,g,d,tk,os⟩:=s;have hT:∀q,(⟨hp,g,d,q,os⟩:Shared).TypeIs (.ref a) "list" :=λ_=>⟨_,hx,rfl⟩;have f1:=sub_AttributeError;have f3:=F.slot_list_getattribute.lookup;have f4:=F.slot_list_getattribute.bind (.ref a);have f5:=am_list_getattr_none;unfold getAttr? getAttrBy? getAttrBy
 repeat (any_goals (first|assumption|exact hT _|((with_reducible show wpAny _ _ (call (Value.builtin "list.__getattribute__") _ _) _ _ _);refine yyJ F.slot_list_getattribute (hT _) am_entry_list_getattribute (F.args_list_getattribute_2 _ _) (meets_getattribute_miss_list a xs k sl "keys" _ NQ (by decide+kernel) (by rw[zv];decide+kernel)) ⟨hx,hA,λh' q e z=>?_⟩)|wp_step))
 obtain⟨t1,u1,hE⟩:=z.there;show wpAny _ _ (getattributeRaised _ _ _ _ _ _ _) _ _ _;unfold getattributeRaised
 repeat (any_goals (first|assumption|wp_step))
 exact hq _ _ z.keeps
end
end PySem
namespace L2
open PySem PySem.Spec PyProof.Rows
def Mx:entryFor table "dict.update.loop" =some Builtin.«dict.update.loop»:=entryFor_of_tree (by kernel_rfl)
section
variable{P:Program}{w:World}{A:Around}{E:Value->Shared->Prop}
abbrev agQ(ps:List (Key×Value×Value)):List (Key×Value):=ps.foldl (λa p=>stored a p.1 p.2.2) []
def TQ(kvs:List (Key×Value))(k:Key)(v:Value):(stored kvs k v).length<=kvs.length+1:=by
 unfold stored;split
 ·simp
 ·simp
def RQ(ps:List (Key×Value×Value)):(agQ ps).length<=ps.length:=by
 have:∀(ps:List (Key×Value×Value))(a:List (Key×Value)),(ps.foldl (λa p=>stored a p.1 p.2.2) a).length<=a.length+ps.length:=by
  intro ps
  induction ps with
  |nil=>intro a;exact zj _
  |cons p ps ih=>
   intro a;have h1:=ih (stored a p.1 p.2.2);have h2:=TQ a p.1 p.2.2;rw[zzl,yo];omega
 simpa using this ps []
def Tt{d it l:Addr}{its:List Value}{ps:List (Key×Value×Value)}{R:Result->Shared->Prop}{s₀:Shared}(hA:A.handled=none)(ah:ps.length=its.length)(hz:its.length<=1000)(aa:d≠it)(ac:d≠l)(ad:it≠l)
  (hl:s₀.heap.IsList l its.toArray) (hp:∀(i:Nat) p,ps[i]? =some p->∃b,its[i]? =some (.ref b)/\b≠d/\b≠it/\IsTup s₀.heap b #[p.2.1,p.2.2]/\(jy P w).is p.1 p.2.1=true)
  (hR:∀h' tk,(∀b u,b≠d->b≠it->s₀.heap.get? b=some u->h'.get? b=some u)->h'.DictOf (jy P w) d (agQ ps)->R (.ok (.ret .none)) {s₀ with heap:=h',toks:=tk}):
  ∀(m j:Nat) (h:Heap) (tk:Nat) (t:Tok),j+m=its.length->(∀b u,b≠d->b≠it->s₀.heap.get? b=some u->h.get? b=some u)->h.IsListIter it l j->h.DictOf (jy P w) d (agQ (ps.take j))->
   codeAny (model P w) A (.builtin "dict.update.loop" ⟨[.ref d,.ref it,.int j t,.none],[]⟩) R {s₀ with heap:=h,toks:=tk}:=by
 intro m
 induction m with
 |zero=>
  intro j h tk t hj hk hi hd;refine codeAny_builtin Mx ?_;unfold Builtin.«dict.update.loop»;dsimp only
  have z:h.IsList l its.toArray:=by
   obtain⟨ol,e1,e2⟩:=hl;exact⟨ol,hk l ol ac.symm ad.symm e1,e2⟩
  refine zd (wpAny_pyNext_list_end (by exact hA) hi z (by simp;omega) λh' eb=>?_);refine zd (m:=Builtin.Dict.addKeywords d []) ?_;unfold Builtin.Dict.addKeywords;refine yc (yc (hR h' tk (λb u n1 n2 e=>eb b u n2 (hk b u n1 n2 e)) ?_));obtain⟨od,es,ep,h1,h2⟩:=hd;rw[yr (by omega)]at h2;exact⟨od,es,ep,eb d od aa h1,h2⟩
 |succ m ih=>
  intro j h tk t hj hk hi hd;refine codeAny_builtin Mx ?_;unfold Builtin.«dict.update.loop»;dsimp only
  have z:h.IsList l its.toArray:=by
   obtain⟨ol,e1,e2⟩:=hl;exact⟨ol,hk l ol ac.symm ad.symm e1,e2⟩
  have ab:ps[j]? =some (ps[j]'(by omega)):=by simp
  obtain⟨b,e1,n1,n2,ht,q⟩:=hp j _ ab;generalize ps[j]'(by omega)=p at ab ht q;refine zd (wpAny_pyNext_list_item hi z (x:=.ref b) (by simpa using e1) λh' af sb=>?_);obtain⟨ot,t1,t2,t3,t4⟩:=ht;have ht':h'.get? b=some ot:=(sb.2 b n2).trans (hk b ot n1 n2 t1);have hT:({s₀ with heap:=h',toks:=tk}:Shared).TypeIs (.ref b) "tuple" :=⟨_,ht',t2⟩;dsimp only;refine zd (yW (zd (zzM ?_)));unfold Builtin.Dict.pairItems;refine zd (wpAny_typeOf hT ?_);rw[zn (by decide)];unfold seqItems?;refine zd (zd (wpAny_load ht' ?_));rw[t4];refine yc (yc ?_);dsimp only[Option.getD_some];refine yW (wpAny_dictSet_pairs (kvs:=agQ (ps.take j)) q ?_ (λh2 ag ae=>?_) ?_)
  ·obtain⟨od,es,ep,q1,q2⟩:=hd
   exact⟨od,es,ep,(sb.2 d aa).trans q1,q2⟩
  ·refine yc ⟨Code.quiet_builtin _ (by decide+kernel),?_⟩
   refine ih (j+1) h2 (tk+1) 0 (by omega) (λb u m1 m2 e=>(ae.2 b m1).trans ((sb.2 b m2).trans (hk b u m1 m2 e))) ?_ ?_
   ·obtain⟨oi,q1,q2⟩:=af
    exact⟨oi,(ae.2 it aa.symm).trans q1,q2⟩
   ·have e:ps.take (j+1)=ps.take j++[p]:=by rw[yk,ab];rfl
    rw[agQ,e,List.foldl_append];exact ag
  ·have:=RQ (ps.take j)
   rw[yD]at this;rw[zv];omega
end
section
variable{X:Cx}
theorem Ny{α β:Type}{Pr:α->β->Prop}:∀{ys:List α},(∀y∈ys,∃p,Pr y p)->∃ps,Paired Pr ys ps
 |[],_=>⟨[],.nil⟩
 |y::ys,h=>by
  obtain⟨p,hp⟩:=h y zm;obtain⟨ps,q⟩:=Ny (ys:=ys) λz hz=>h z (ya _ hz);exact⟨p::ps,.cons hp q⟩
theorem sZ{α β:Type}{Pr:α->β->Prop}:∀{ys:List α}{ps:List β}{i:Nat}{p:β},Paired Pr ys ps->ps[i]? =some p->∃y,ys[i]? =some y/\Pr y p
 |_,_,_,_,.nil,h=>by simp at h
 |_,_,0,_,.cons r _,h=>by cases h;exact⟨_,rfl,r⟩
 |_,_,i+1,_,.cons _ t,h=>sZ (i:=i) t h
noncomputable def Ln(kf:V->Key)(vf:V->V)(ys:List V):List (Key×V):=ys.foldl (λa y=>putK a (kf y) (vf y)) []
theorem WK{kf:V->Key}{q:V->V}{Pr:V->Key×Value×Value->Prop}(z:∀y p,Pr y p->p.1=kf y/\RelV (q y) p.2.2):∀{ys:List V}{ps:List (Key×Value×Value)}{a:List (Key×V)}{b:List (Key×Value)},Paired Pr ys ps->KV a b->
  KV (ys.foldl (λa y=>putK a (kf y) (q y)) a) (ps.foldl (λa p=>stored a p.1 p.2.2) b)
 |_,_,_,_,.nil,h=>h
 |y::ys,p::ps,a,b,.cons r t,h=>by
  obtain⟨e1,e2⟩:=z y p r;rw[zzl,zzl,e1];exact WK z t (h.put (kf y) e2)
noncomputable def wV(K:Fg_):List V->Hp->VK->Prop:=λxs H Q=>∃(a:Addr)(ys:List V)(kf:V->Key)(vf:V->V),xs=[.ref a]/\SqL K H a ys/\ys.length<=1000/\(∀y∈ys,∃b,y=.ref b/\SqT K H b [kV (kf y),vf y])/\
 ∀p,H p=none->Q (.ref p) (upd H p (.dK (Ln kf vf ys)))
def JD(hc:X.calm=true):mR X (.type "dict") (wV X.K):=by
 intro pins s σ H xs us Q I r h;obtain⟨l,ys,kf,vf,rfl,hq,ap,hP,q⟩:=h;obtain⟨u,rfl,rx⟩:=vals1 r;cases rx;obtain⟨its,rv,pl,hz⟩:=I.list hq;have aj:ys.length=its.length:=rv.length;have hl:=pl.isList
 obtain ⟨ps,ac⟩:=Ny (Pr:=fun(y:V)(p:Key×Value×Value)=>p.1=kf y/\RelV (vf y) p.2.2/\∃b,y=.ref b/\IsTup s.heap b #[p.2.1,p.2.2]/\(jy X.prog X.w).is p.1 p.2.1=true) (ys:=ys) λy hy=>by
  obtain⟨b,rfl,hb⟩:=hP y hy;obtain⟨tv,rt,it,ar⟩:=I.tuple hb
  cases rt with
  |cons r1 rt=>cases rt with
   |cons r2 rt=>
    cases rt;exact⟨(kf (.ref b),_,_),rfl,r2,b,rfl,it,Kv r1⟩
 have ak:ps.length=its.length:=by rw[<-aj];exact(yG ac).symm
 obtain⟨⟨oc,od,oo,aq⟩,nl,g1,g2,g3,g4⟩:=id pl;simp only at g2 g3 g4;subst g2 g3 g4;have ag:l<s.heap.objs.size:=zt g1;refine callType_codes (Q₁:=λob s1=>ob=.ref s.heap.objs.size/\s1={s with heap:=s.heap.push {cls:=.type "dict",data:=.dict #[]}}) F.kt_called_dict (F.kt_typeCall_dict_1 _) F.entry_dict_init (kt_code_dict_new _ ⟨rfl,rfl⟩) ?_;rintro ob s1 ⟨rfl,rfl⟩;have ad:(s.heap.push {cls:=.type "dict",data:=.dict #[]}).DictOf (jy X.prog X.w) s.heap.objs.size []:=Heap.DictOf.new s.heap;refine⟨ad.typeIs,F.args_dict_init_2 _ _,?_⟩;unfold Builtin.«dict.__init__» Builtin.Dict.selfAndRest;refine zd (zd (wpAny_notOrdered_dict ad.typeIs ?_));show wpAny _ _ (pure (s.heap.objs.size,[Value.ref l])) _ _ _;refine yc ?_;show wpAny _ _ (Builtin.Dict.updateFrom "dict.__init__" s.heap.objs.size (.ref l) [] .none) _ _ _;have ae:∀b o,s.heap.get? b=some o->(s.heap.push {cls:=.type "dict",data:=.dict #[]}).get? b=some o:=λb o e=>zb _ e;have hT:({s with heap:=s.heap.push {cls:=.type "dict",data:=.dict #[]}}:Shared).TypeIs (.ref l) "list" :=⟨_,ae _ _ g1,rfl⟩;unfold Builtin.Dict.updateFrom;refine zd (wpAny_typeOf hT ?_);rw[zn (by decide)];refine zd (agY (ae _ _ g1) (by exact I.ok.hd hc) λh1 ai ah=>?_);have z:∀b o,s.heap.get? b=some o->h1.get? b=some o:=λb o e=>ah b o (ae b o e);have al:h1.IsList l its.toArray:=⟨_,z _ _ g1,rfl,_,rfl⟩;obtain⟨o0,an,am,q1,q2⟩:=ad;have q1':=ah _ _ q1;have ab:s.heap.objs.size<h1.objs.size:=zt q1';rw[zn (show(none:Option Value).isNone=true from rfl)];refine zd (wpAny_rule (zd (zzr al (yc ⟨Code.quiet_builtin _ (by decide+kernel),?_⟩))));have aa:∀b o,h1.get? b=some o->(h1.push {cls:=.type "list_iterator",data:=.fields #[.ref l,.int 0 0]}).get? b=some o:=λb o e=>zb _ e
 refine Tt (A:=X.A.in1) (s₀:={s with heap:=h1.push {cls:=.type "list_iterator",data:=.fields #[.ref l,.int 0 0]},toks:=ai}) (its:=its) (ps:=ps) (d:=s.heap.objs.size) (it:=h1.objs.size) (l:=l) (by exact I.ok.hd hc) ak (by omega) (ye ab) (zzg ag) (zzg (yyl ag ab))
  ⟨_,aa _ _ (z _ _ g1),rfl,_,rfl⟩ (λi p hi=>?_) (λh' tk kp hD=>⟨rfl,?_⟩) its.length 0 _ ai 0 (by omega) (λb o _ _ e=>e) ⟨_,yb _ rfl,rfl,rfl⟩ ⟨o0,an,am,aa _ _ q1',q2⟩
 ·obtain⟨y,hy,e1,e2,b,rfl,ht,hk⟩:=sZ ac hi
  obtain⟨ot,t1,t2⟩:=ht;obtain⟨v,hv,rr⟩:=rv.get hy;cases rr;have hb:b<s.heap.objs.size:=zt t1;exact⟨b,hv,ye hb,ye (yyl hb ab),⟨ot,aa _ _ (z _ _ t1),t2⟩,hk⟩
 ·have af:KV (Ln kf vf ys) (agQ ps):=WK (λy p h=>⟨h.1,h.2.1⟩) ac .nil
  have ao:(Ln kf vf ys).length<=sizeLine:=by
   have e1:(Ln kf vf ys).length=(agQ ps).length:=yG af;have e2:=RQ ps;rw[e1,zv];omega
  exact⟨.ref s.heap.objs.size,_,I.laid (a:=s.heap.objs.size) (o:=.dK (Ln kf vf ys)) (t':=tk) (λb o e=>kp b o (ye (zt e)) (ye (yyl (zt e) ab)) (aa _ _ (z b o e))) (zj _) (Ml ao (beq_eq_false_iff_ne.mpr (Ne.symm (ye I.big))) af hD),rfl,q _ (I.hok.fresh (zj _))⟩
end
end L2
namespace L2
open PySem PySem.Spec PyProof.Rows
noncomputable def vh(v a:Addr):HO:=.ext λh=>h.IsValuesView v a
noncomputable def Itv(a:Addr)(o:Obj)(kvs:List (Key×V)):It:=⟨λi H=>H a=some (.frz o (.dK kvs))/\i<kvs.length,λi H x H'=>H'=H/\(kvs.map (·.2))[i]? =some x,λi H=>H a=some (.frz o (.dK kvs))/\kvs.length<=i⟩
def Zq:entryFor table "dict_valueiterator.__iter__" =some Builtin.«dict_keyiterator.__iter__»:=entryFor_alias (id':= "dict_keyiterator.__iter__") (by kernel_rfl) (by decide+kernel) (by decide+kernel) (by kernel_rfl)
def Xz{P:Program}{w:World}{A:Around}{E:Value->Shared->Prop}{s:Shared}{it d:Addr}{i n z:Nat}{Q:Value->Shared->Prop}(q:s.heap.IsValIter it d i n z)(h:Q (.ref it) s):wpAny (model P w) A (pyIter (.ref it)) Q E s:=by
 refine yyx q.typeIs F.slot_dict_valueiterator_iter (yyc F.slot_dict_valueiterator_iter q.typeIs Zq ?_ (F.args_dict_valueiterator_iter_1 _));show wpAny _ _ (ret (.ref it)) _ _ s;exact yc ⟨_,rfl, "dict_valueiterator",_,q.typeIs,F.slot_dict_valueiterator_next.lookup,h⟩
def Kd{X:Cx}{pins:List (Addr×Obj)}{σ:St}{H:Hp}{s:Shared}{a:Addr}{o:Obj}{kvs:List (Key×V)}{es:Array DictEntry}{ep:Nat}(I:Inv X pins σ H s)(e:H a=some (.frz o (.dK kvs)))(q:o.data=.dict es ep):
  ∃vs,KV kvs vs/\s.heap.DictAt (jy X.prog X.w) a vs ep:=by
 obtain⟨h0,_,_,vs,rel,o',aa,ab,q1,q2,z,q4⟩:=(show lC X.prog X.w H s.heap a (.frz o (.dK kvs))from I.hok a _ e);rw[h0]at q1;cases q1;rw[q]at z;cases z;exact⟨vs,rel,o,es,h0,q2,q,q4⟩
def Yh{P:Program}{w:World}{K:Fg_}{tg:Expr}{a it:Addr}{o:Obj}{kvs:List (Key×V)}{es:Array DictEntry}{ep:Nat}(aa:o.data=.dict es ep):Turn P w K tg (Itv a o kvs) [it] it (λi h=>h.IsValIter it a i kvs.length ep) where
 mem:=by simp
 obj:=λi h st b hb=>by
  obtain rfl:b=it:=by simpa using hb
  obtain⟨oi,e,c,dd⟩:=st;exact⟨oi,e,λv z=>by rw[dd]at z;cases z⟩
 keep:=λi h h' st k=>let⟨oi,e,r⟩:=st;⟨oi,k it (by simp) oi e,r⟩
 item:=by
  intro X hP hw hK hc i pins s σ H E I hf st hg;subst hP hw hK;obtain⟨ac,ae⟩:=hg;obtain⟨vs,rel,ad⟩:=Kd I ac aa;have q:kvs.length=vs.length:=yG rel;obtain⟨f0,f1,f2,f3,f4,f5⟩:=hf it (by simp);have hx:vs[i]? =some (vs[i]'(by omega)):=by simp
  obtain⟨p,hp,e1,e2⟩:=sZ rel hx;rw[q]at st;refine wpAny_pyNext_values_item st ad (k:=(vs[i]'(by omega)).1) (v:=(vs[i]'(by omega)).2) hx λh' ab sb=>?_;have I1:Inv X pins σ H {s with heap:=h'}:=I.turned (t':=s.toks) (λb o hb e=>(sb.2 b hb).trans e) f0 f1 f3 f4 f5;obtain⟨oi,e,c,dd⟩:=id ab;rw[<-q]at ab;exact⟨_,rfl,Uk (s:={s with heap:=h'}) e c dd (by decide) ⟨p.2,H,I1,e2,⟨rfl,by rw[zh,hp];rfl⟩,ab,λb hb=>(hf b hb).1⟩⟩
 done:=by
  intro X hP hw hK hc i pins s σ H E I hf st hg;subst hP hw hK;obtain⟨ac,ae⟩:=hg;obtain⟨vs,rel,ad⟩:=Kd I ac aa;have q:kvs.length=vs.length:=yG rel;obtain⟨f0,f1,f2,f3,f4,f5⟩:=hf it (by simp);rw[q]at st;exact wpAny_pyNext_values_end (I.ok.hd hc) st ad (by simp;omega) λh' eb=>⟨rfl,I.turned (t':=s.toks) (λb o hb e=>eb b o hb e) f0 f1 f3 f4 f5⟩
 self:=λ_ _ _ _ _ st h=>Xz st h
section
variable{X:Cx}{tg:Expr}
noncomputable def ahZ(tl:TE):TI:=λσ H R=>tl σ H λx H1=>∃v a kvs,x=.ref v/\H1 v=some (vh v a)/\H1 a=some (.dK kvs)/\∀o,R (Itv a o kvs) (upd H1 a (.frz o (.dK kvs)))
def XD{l:Expr}{tl:TE}(hl:PE X l tl):PI X tg l (ahZ tl):=by
 intro pins s σ H R I h;refine thn (hl pins s σ H _ I h) λu s1 ⟨x,H1,I1,r1,v,a,kvs,ex,hv,ha,q⟩=>?_;subst ex;cases r1;obtain⟨aa,_,_⟩:=(show lC X.prog X.w H1 s1.heap v (vh v a)from I1.hok v _ hv);obtain⟨z,ab,vs,rel,o,es,ep,q1,q2,q3,q4⟩:=(show lC X.prog X.w H1 s1.heap a (.dK kvs)from I1.hok a _ ha);have ad:kvs.length=vs.length:=yG rel;have ac:s1.heap.DictAt (jy X.prog X.w) a vs ep:=⟨o,es,q1,q2,q3,q4⟩;refine wpAny_pyIter_values aa ac ?_;have I2:Inv X pins σ (upd H1 a (.frz o (.dK kvs))) s1:=I1.write (t':=s1.toks) (h':=s1.heap) (by rw[ha];exact True.intro) (.inl rfl) (λb u _ e=>e) ⟨o,q1⟩ (show lC X.prog X.w _ s1.heap a (.frz o (.dK kvs))from⟨q1,z,ab,vs,rel,o,es,ep,q1,q2,q3,q4⟩);refine⟨s1.heap.objs.size,[s1.heap.objs.size],_,_,_,rfl,I2.kept (t':=s1.toks) λb o e=>zb _ e,Yh q3,⟨_,yb _ rfl,rfl,by rw[ad];rfl⟩,λb hb=>?_,q o⟩;obtain rfl:b=s1.heap.objs.size:=by simpa using hb
 exact I2.fpOk (zj _) (I2.hok.fresh (zj _))
noncomputable def agR:V->List V->Hp->VK->Prop:=λx vs H Q=>∃a kvs,x=.ref a/\vs=[]/\H a=some (.dK kvs)/\∀v,H v=none->Q (.ref v) (upd H v (vh v a))
def Np:MtR X "dict.values" agR:=by
 intro pins s σ H x vs v us Q I rx rv h;obtain⟨a,kvs,rfl,rfl,ha,q⟩:=h;cases rx;have ab:=rv.zero;subst ab;obtain⟨z,aa,ws,rel,dd⟩:=Us I.hok ha;refine zzz zzQ dd.typeIs PySem.F.entry_dict_values (PySem.F.args_dict_values_1 _) (meets_dict_values (jy X.prog X.w) a aa) ⟨⟨ws,dd⟩,?_⟩;have hg:(s.heap.push {cls:=.type "dict_values",data:=.fields #[.ref a]}).IsValuesView s.heap.objs.size a:=⟨_,yb _ rfl,rfl,rfl⟩;exact⟨.ref s.heap.objs.size,_,I.laid (a:=s.heap.objs.size) (o:=vh s.heap.objs.size a) (t':=s.toks) (λb o e=>zb _ e) (zj _) ⟨hg,⟨_,yb _ rfl⟩,λh1 h2 ⟨ov,e1,e2⟩ k=>⟨ov,k ov e1,e2⟩⟩,rfl,q _ (I.hok.fresh (zj _))⟩
end
end L2
namespace L2
open PySem PySem.Spec PyProof.Rows
section
variable{X:Cx}{K:Fg_}{σ:St}{H:Hp}{Q:VK}{R:It->Hp->Prop}{tl td ty:TE}{g:TG}{tt:TT}{te:TE}{cap:List (Option Nat)}{a:Addr}{o:Obj}{kvs:List (Key×V)}
def qy(z:X.calm=true)(q:X.K=K:=by rfl):mR X (.type "dict") (wV K):=q▸JD z
def ap_dictPairs:wV K [.ref a] H Q=∃(ys:List V)(kf:V->Key)(vf:V->V),SqL K H a ys/\ys.length<=1000/\(∀y∈ys,∃b,y=.ref b/\SqT K H b [kV (kf y),vf y])/\∀p,H p=none->Q (.ref p) (upd H p (.dK (Ln kf vf ys))):=by simp[wV]
def ap_iVals:ahZ tl σ H R=tl σ H λx H1=>∃v a kvs,x=.ref v/\H1 v=some (vh v a)/\H1 a=some (.dK kvs)/\∀o,R (Itv a o kvs) (upd H1 a (.frz o (.dK kvs))):=rfl
def ap_rVals:agR (.ref a) [] H Q=∃kvs,H a=some (.dK kvs)/\∀v,H v=none->Q (.ref v) (upd H v (vh v a)):=by simp[agR]
def ap_dget1:agg td ty σ H Q=td σ H λx H1=>∃a,x=.ref a/\IsD H1 a/\ty σ H1 λy H2=>∃o,Vd H2 a y o/\Q (o.getD .non) H2:=rfl
def jZ.vals(Sσ:St->Prop)(p:V->Bool)(F:V->V)(hH:H a=some (.frz o (.dK kvs)))(h0:Sσ (pI σ cap))(hz:kvs.length<=sizeLine)
  (hs:∀x∈kvs.map (·.2),∀(σ:St)(z:Hp)(R1:St->VK)(R2:St->Hp->Prop),Sσ σ->Same H z->(p x=true->∀q H6,Sσ q->Same z H6->R1 q (F x) H6)->(p x=false->∀q H6,Sσ q->Same z H6->R2 q H6)->
   g x σ z λq H4=>tt q H4 λb z=>if b=true then te q z (R1 q)else R2 q z)
  (k:∀D H',H D=Option.none->Same H H'->H' D=some (.lst (((kvs.map (·.2)).filter p).map F))->Q (.ref D) H'):jZ cap (Itv a o kvs) g tt te σ H Q:=
 λD hD=>BP (xs:=kvs.map (·.2)) (Itv a o kvs) Sσ p F hD h0 (by rw[za];exact hz) (λi x z hx sm=>⟨⟨sm _ _ hH,by simpa using (zo.mp hx).1⟩,λy H' hy=>⟨zw (hy.2.symm.trans hx),hy.1⟩⟩) (λz sm=>⟨sm _ _ hH,by simp⟩) hs λH' s e=>k D H' hD s e
end
end L2
namespace L2
open PySem PySem.W PySem.Spec PyProof.Rows
section
variable{X:Cx}{pins:List (Addr×Obj)}{σ:St}{H:Hp}{s:Shared}{h':Heap}
def Inv.adopt{t' c:Nat}{D:Addr}{zs:List V}{its:List Value}(I:Inv X pins σ H s)(hf:QC X pins H D)(k:∀b o,b≠D->s.heap.get? b=some o->h'.get? b=some o)
  (hD:h'.get? D=some {cls:=.type "list",data:=.seq its.toArray c}) (hv:Vals zs its) (hz:zs.length<=sizeLine):Inv X pins σ (upd H D (.lst zs)) {s with heap:=h',toks:=t'}:=by
 obtain⟨hn,hL,ab,h1,h2,h3⟩:=hf;have aa:∀b u,H b=some u->b≠D:=λb u e z=>by rw[z,hn]at e;cases e
 refine I.step (g':=s.gens) (d':=s.drawn) (ch:=[D]) (λb hb=>?_) (λb o _ _ hc e _=>k b o (λz=>hc (by simp[z])) e) (λb o _ _ hc e _=>⟨o.slots,k b o (λz=>hc (by simp[z])) e⟩) (λb o hc e n=>(iJ λz=>hc (by simp[z])).trans n)
  (λb o hc e=>⟨o,k b o (λz=>hc (by simp[z])) e⟩) (λb xs e=>(iJ (aa b _ e)).trans e) (λb o u e=>(iJ (aa b _ e)).trans e) (λb ps e=>⟨#[],by rw[iJ (aa b _ e),e];simp⟩) (λm hm=>?_) (λb u e=>?_) I.bare
 ·have e:b=D:=by simpa using hb
  subst e;exact⟨h1,hL,h2,h3⟩
 ·obtain⟨o,es,ep,ho,r⟩:=hm
  exact⟨o,es,ep,k _ o (Ne.symm hL) ho,r⟩
 ·by_cases z:b=D
  ·subst z
   rw[iC]at e;cases e;exact⟨hz,its,c,hv,hD⟩
  ·rw[iJ z]at e
   refine(I.hok b u e).stay (λc v hc q=>k c v ?_ q) (λc q=>?_) λc v q=>?_
   ·rcases hc with y|y
    ·rw[y];exact aa b u e
    ·exact aa c _ y
   ·exact(iJ (aa c _ q)).trans q
   ·exact(iJ (aa c _ q)).trans q
end
section
variable{X:Cx}{pins:List (Addr×Obj)}{σ:St}{H:Hp}{s:Shared}{k:Nat}{f:Addr}{fd:FuncData}{ps:List Str}{sp:Sp}
def ahc{Q:VK}{v:V}{u:Value}(F:jE X.prog X.w X.K X.mg X.base CX0 k f fd ps sp)(hr:qM (k+2) X.A)(hb:Binds X.K fd ps [])(I:Inv X pins σ H s)(r:RelV v u)(h:sp [v] H Q E0):
  wpAny (model X.prog X.w) X.A.in1.in1 (call (.ref f) [u]) (EP X pins σ Q) (λ_ _=>False) s:=by
 have r2:Vals [v] [u]:=.cons r .nil
 have z:([u]++([]:List Value)).length=ps.length:=by
  have:=F.len _ _ _ _ h;rw[<-this];rfl
 refine yyI (codeAny_mono (F.run X.A.in1.in1 X.stack s H ⟨[u],[]⟩ [u] [v] Q E0 hr.in1.in1 I.env0.in1.in1 (hb s [u] I.kIn z) r2 h) λr s' q=>?_)
 cases r with
 |error e=>exact q.elim
 |ok fl=>
  cases fl with
  |ret u=>exact I.after q
  |next=>exact False.elim q
  |brk=>exact False.elim q
  |cont=>exact False.elim q
theorem Paired.imp{α β:Type}{P P':α->β->Prop}(h:∀a b,P a b->P' a b):∀{xs:List α}{ys:List β},Paired P xs ys->Paired P' xs ys
 |_,_,.nil=> .nil
 |_,_,.cons a t=> .cons (h _ _ a) (Paired.imp h t)
noncomputable def Uz(kf:V->List Int)(H:Hp)(y v:V):Prop:=∃t,v=.ref t/\H t=some (.tup ((kf y).map V.int))
def Uz.same{kf:V->List Int}{H H':Hp}{y v:V}(h:Uz kf H y v)(e:∀t xs,H t=some (.tup xs)->H' t=some (.tup xs)):Uz kf H' y v:=let⟨t,a,b⟩:=h;⟨t,a,e _ _ b⟩
noncomputable def ahj(sp:Sp)(kf:V->List Int)(H:Hp)(y:V):Prop:=∀H1,Same H H1->∀R:VK,(∀t H2,Same H1 H2->H2 t=some (.tup ((kf y).map V.int))->R (.ref t) H2)->sp [y] H1 R E0
theorem SN{E:Value->Shared->Prop}{kf:V->List Int}{H0:Hp}{kS:Addr}{Q':Shared->Prop}{ad:Value->PUnit->Sem (ForInStep PUnit)}(F:jE X.prog X.w X.K X.mg X.base CX0 k f fd ps sp)(hr:qM (k+2) X.A)(hb:Binds X.K fd ps [])
  (ac:∀x s (D':Shared->Prop),wpAny (model X.prog X.w) X.A.in1.in1 (call (.ref f) [x]) (λk s'=>∃its n,s'.heap.get? kS=some {cls:=.type "list",data:=.seq its n}/\its.size<64/\D' {s' with heap:=s'.heap.update kS (Obj.mapSeq (·.push k))}) (λ_ _=>False) s->
   wpAny (model X.prog X.w) X.A.in1.in1 (ad x ⟨⟩) (λr s'=>r=.yield ⟨⟩/\D' s') E s) (hS0:H0 kS=none):
  ∀(ys:List V) (us:List Value) (ys0 kvs:List V) (H1:Hp) (s1:Shared),Vals ys us->ys0.length+ys.length<64->Inv X pins σ H1 s1->H1 kS=some (.lst kvs)->Same H0 H1->(∀y∈ys,ahj sp kf H0 y)->Paired (Uz kf H1) ys0 kvs->
   (∀ab H2 s2,Inv X pins σ H2 s2->H2 kS=some (.lst ab)->Same H0 H2->Paired (Uz kf H2) (ys0++ys) ab->Q' s2)->wpAny (model X.prog X.w) X.A.in1.in1 (forIn us PUnit.unit ad) (λ_ s2=>Q' s2) E s1
 |_,_,ys0,kvs,H1,s1,.nil,hl,I,hH,sm,hk,hp,fin=>by
  rw[List.forIn_nil];rw[yX]at fin;exact yc (fin kvs H1 s1 I hH sm hp)
 |y::ys,u::us,ys0,kvs,H1,s1,.cons ru rus,hl,I,hH,sm,hk,hp,fin=>by
  rw[List.forIn_cons];rw[yo]at hl;have an:ys0.length=kvs.length:=yG hp;have h1:=ahc F hr hb I ru (hk y zm H1 sm (λv H2=>∃t,v=.ref t/\Same H1 H2/\H2 t=some (.tup ((kf y).map V.int))) λt H2 s2 ht=>⟨t,rfl,s2,ht⟩);refine zd (yP (ac u s1 (λs2=>∃aa H3,Inv X pins σ H3 s2/\H3 kS=some (.lst aa)/\Same H0 H3/\Paired (Uz kf H3) (ys0++[y]) aa) (yP h1 (λkv s2 hq=>?_) λ_ _ x=>x)) (λr s2 hq=>?_) λ_ _ x=>x)
  ·obtain⟨v,H2,I2,rv,t,rfl,af,ht⟩:=hq
   have ae:=af _ _ hH;obtain⟨z,its,n,r,am,e⟩:=I2.lstM ae;refine⟨its.toArray,n,e,by rw[zk];omega,kvs++[.ref t],_,I2.lset (t':=s2.toks) (its':=its++[kv]) ae e (by simp) (r.append (.cons rv .nil)) (by rw[yd,zza,zv];omega),iC,?_,?_⟩
   ·exact(sm.trans af).upd hS0
   ·have up:∀b xs,H2 b=some (.tup xs)->(upd H2 kS (.lst (kvs++[V.ref t]))) b=some (.tup xs):=λb xs q=>(iJ λz=>by rw[z,ae]at q;cases q).trans q
    exact Paired.snoc (Paired.imp (λa b q=>q.same λt xs h=>up _ _ (af _ _ h)) hp) ⟨t,rfl,up _ _ ht⟩
  ·obtain⟨rfl,aa,H3,I3,al,ah,ai⟩:=hq
   refine SN F hr hb ac hS0 ys us (ys0++[y]) aa H3 s2 rus (by rw[yd,zza];omega) I3 al ah (λz hz=>hk z (ya _ hz)) ai λab H4 s4 I4 ag ak aj=>fin ab H4 s4 I4 ag ak ?_
   rwa [zz2]at aj
end
section
variable{P:Program}{w:World}{A:Around}{E:Value->Shared->Prop}{s:Shared}
def Wy{G:Array Nat->Prop}{ks us:List Value}{a kS:Addr}{e1 nk:Nat}{R:PySem.Fin->Shared->Prop}(fs:Nat->List Int)(ac:ks.length=us.length)(ad:us.length<64)(hk:s.heap.get? kS=some (seqObj "list" ks.toArray nk)) (ho:s.heap.get? a=some (seqObj "list" #[] e1)) (ao:a≠kS)
  (hT:∀i,i<us.length->fs i≠[]/\∃b o xs m,ks.getD i Value.none=.ref b/\s.heap.get? b=some o/\o.cls=.type "tuple" /\o.data=.seq xs m/\Vals ((fs i).map V.int) xs.toList)
  (hG:0<us.length->Kok (λi j=>uY (fs i) (fs j) (decide ((fs i).length<(fs j).length))) us.length G (kas_sort us.length)) (ah:us.length<2->G (List.range us.length).toArray) (ak:∀p,G p->Prm us.length p)
  (al:∀p:Array Nat,G p->R (.done (.ret .none)) {s with heap:=(s.heap.update kS (Obj.mapSeq λ_=> #[])).update a (Obj.mapSeq λ_=>List.toArray (p.toList.map λi=>us.getD i Value.none))}):
  wpAny (model P w) A (ksk_end a false us.toArray e1 (.ref kS) ks.toArray) R E s:=by
 have am:us.toArray.size=us.length:=by simp
 have aa:∀q (p:Array Nat),arrOf q=p.map (kas_item (ks.toArray.zip us.toArray))->failedOf q=none->G p->wpAny (model P w) A (ksk_tail a false e1 (.ref kS) q) R E s:=λq p ab hf hp=>by
  have ag:(p.toList.map λi=>us.getD i Value.none).length=us.length:=by rw[za,(ak p hp).length_eq];simp
  have af:(s.heap.update kS (Obj.mapSeq λ_=> #[])).get? a=some (seqObj "list" #[] e1):=(yO _ _ _ _ ao).trans ho;unfold ksk_tail
  try dsimp only
  rw[kat_snds ac ab];refine zd (listUpdate_at hk rfl ?_ (by rw[zk,zv];omega) (yj _));refine zd (yyy ?_);refine zd (seqEpoch_at af rfl ?_);refine zd (listUpdate_at af rfl ?_ (yj _) (by simp only[zzd,if_false];rw[zk,ag,zv];omega));rw[hf];simp only[bne_self_eq_false,zzd,if_false];exact yc (al p hp)
 unfold ksk_end
 try dsimp only
 rw[ze (by decide)];by_cases h2:us.toArray.size<2
 ·rw[zn h2,zn h2]
  refine zd (yc ?_);rw[StateT.run_pure];refine zd (yc ?_);dsimp only;refine aa _ (List.range us.length).toArray ?_ rfl (ah (by rw[<-am];exact h2));have e:=kas_range (ks.toArray.zip us.toArray);rw[show(ks.toArray.zip us.toArray).size=us.length by simp[ac]]at e;exact e.symm
 ·rw[ze h2,ze h2]
  have hn:0<us.length:=by omega
  obtain ⟨ff,k1,k2,k3⟩:=Qs (h:=s.heap) (us:=ks) (by
   intro v hv;obtain⟨i,hi,e⟩:=yC hv;obtain⟨g0,b,o,xs,m,g1,g3,g4,g5,g6⟩:=hT i (by omega);have e2:ks.getD i Value.none=v:=by rw[<-e];simp[hi]
   cases hq:fs i with
   |nil=>exact(g0 hq).elim
   |cons z zs=>
    rw[hq,zf]at g6
    cases hx:xs.toList with
    |nil=>rw[hx]at g6;cases g6
    |cons u ur=>
     rw[hx]at g6
     cases g6 with
     |cons r1 r2=>
     obtain⟨t,rfl⟩:=r1;refine⟨b,o,xs,m,z,t,e2.symm.trans g1,g3,g4,g5,?_⟩;rw[<-zzk,hx];rfl)
  refine zd (kat_kind k1 (by omega) (λv hv=>?_) (T:=.type "int") rfl ?_)
  ·obtain⟨i,t,rfl⟩:=k3 v hv
   exact Looks.of_pure rfl
  refine zd (yP (kat_run (ks:=ks) (vs:=us) (Q:=λq s'=>∃p:Array Nat,arrOf q=p.map (kas_item (ks.toArray.zip us.toArray))/\failedOf q=none/\G p/\s'=s)
   (G:=λp s'=>G p/\s'=s) ac (by omega) ad (λp q s' a1 a2 a3 a4=>⟨p,a2,a3,a4.1,a4.2⟩)
   (Kok.wp (lt:=λi j=>uY (fs i) (fs j) (decide ((fs i).length<(fs j).length))) (λi j C hi hj hC=>?_) (hG hn) λp hp=>⟨hp,rfl⟩)) ?_ λ_ _ e=>e)
  ·obtain⟨_,b,o,xs,m,g1,g3,g4,g5,g6⟩:=hT i hi
   obtain⟨_,b',o',aj,m',an,ai,aq,ap,ae⟩:=hT j hj;show wpAny _ _ (keyLt' _ (ks.getD i Value.none) (ks.getD j Value.none)) _ _ _;rw[g1,an];refine kat_lt g3 g5 ai ap (Rr g6 ae 0 ?_);have z1:(fs i).length=xs.size:=by simpa using g6.length
   have z2:(fs j).length=aj.size:=by simpa using ae.length
   rw[<-z1,<-z2];exact hC
  ·rintro⟨⟨⟩,q⟩ s'⟨p,ab,hf,hp,rfl⟩
   dsimp only;exact aa q p ab hf hp
end
def ahQ(a v:Value):argsOk "list.sort" ⟨[a],[(Str.ofString "key",v)]⟩:=by unfold argsOk;kernel_rfl
section
variable{X:Cx}{pins:List (Addr×Obj)}{σ:St}{H:Hp}{s:Shared}{k:Nat}{f:Addr}{fd:FuncData}{ps:List Str}{sp:Sp}
noncomputable def Nb(K:Fg_)(sp:Sp):V->Hp->VK->Prop:=λx H Q=>∃(a:Addr)(ys:List V)(kf:V->List Int),x=.ref a/\SqL K H a ys/\ys.length<64/\(∀y∈ys,kf y≠[]/\ahj sp kf H y)/\
 ∀p zs H',Same H H'->H p=none->H' p=some (.lst zs)->zs.Perm ys->(∀m,(∀y∈ys,(kf y).length=m)->(ys.map kf).Nodup->zs.Pairwise λy z=>uY (kf y) (kf z) false=true)->Q (.ref p) H'
theorem Ig{α β:Type}{Pr:α->β->Prop}{d1:α}{d2:β}:∀{xs:List α}{ys:List β}{i:Nat},Paired Pr xs ys->i<xs.length->Pr (xs.getD i d1) (ys.getD i d2)
 |_,_,_,.nil,h=>by simp at h
 |_,_,0,.cons r _,_=>r
 |_,_,i+1,.cons _ t,h=>by
  simp only[List.getD_cons_succ];exact Ig t (by simpa using h)
def Tf{Q:VK}{x:V}{u:Value}(F:jE X.prog X.w X.K X.mg X.base CX0 k f fd ps sp)(hr:qM (k+2) X.A)(hb:Binds X.K fd ps [])(I:Inv X pins σ H s)(rx:RelV x u)(h:Nb X.K sp x H Q):
  wpAny (model X.prog X.w) X.A (call (.builtin "sorted") [u] [(Str.ofString "key",.ref f)]) (EP X pins σ Q) X.xe s:=by
 obtain⟨a,ys,kf,rfl,hq,bd,hK,q⟩:=h;cases rx;obtain⟨its,rv,pl,hz⟩:=I.list hq;have ac:ys.length=its.length:=rv.length;have hl:=pl.isList;refine call_function_entry_kw kind_sorted plain_sorted entry_sorted (ksk_s1 _ _) ?_;unfold Builtin.«sorted»;refine zd (m:=checkCount "sorted" 1 1 _) (yc ?_);refine zd (collect_list hl ?_ (by omega));refine zd (yyd ?_ (by omega));have hsz:((s.heap.push (seqObj "list" #[] 0)).update s.heap.objs.size (Obj.mapSeq (·++its.toArray))).objs.size=s.heap.objs.size+1:=by rw[yyD,size_push']
 have aa:(((s.heap.push (seqObj "list" #[] 0)).update s.heap.objs.size (Obj.mapSeq (·++its.toArray))).push (seqObj "list" its.toArray 0)).get? (s.heap.objs.size+1)=some (seqObj "list" its.toArray 0):=by rw[<-hsz];exact yb _ rfl
 have keep:∀b o,s.heap.get? b=some o->(((s.heap.push (seqObj "list" #[] 0)).update s.heap.objs.size (Obj.mapSeq (·++its.toArray))).push (seqObj "list" its.toArray 0)).get? b=some o:=λb o e=>
  zb _ ((yO _ _ _ _ (ye (zt e))).trans (zb _ e))
 have af:(((s.heap.push (seqObj "list" #[] 0)).update s.heap.objs.size (Obj.mapSeq (·++its.toArray))).push (seqObj "list" its.toArray 0)).objs.size=s.heap.objs.size+2:=by rw[size_push',hsz]
 show wpAny _ _ _ _ _ {s with heap:=((s.heap.push (seqObj "list" #[] 0)).update s.heap.objs.size (Obj.mapSeq (·++its.toArray))).push (seqObj "list" its.toArray 0)};rw[hsz];generalize((s.heap.push (seqObj "list" #[] 0)).update s.heap.objs.size (Obj.mapSeq (·++its.toArray))).push (seqObj "list" its.toArray 0)=h2 at aa keep af;obtain⟨D,av⟩:∃D:Nat,s.heap.objs.size+1=D:=⟨_,rfl⟩;rw[av]at aa⊢;refine zd (yW (wpAny_call_entry_kw slot_list_sort ⟨_,aa,rfl⟩ entry_list_sort ?body (ahQ _ _)))
 case body=>
  show wpAny (model X.prog X.w) X.A.in1.in1 (Builtin.«list.sort» ⟨[.ref D],[(Str.ofString "key",.ref f)]⟩) _ _ _;rw[ksk_t1];unfold ksk_tree;refine zd (listItems_at aa rfl ?_);refine zd (listUpdate_at aa rfl ?_ (by rw[zk,zv];omega) (yj _));obtain⟨e1,ag⟩:∃e1,(h2.update D (Obj.mapSeq λ_=> #[])).get? D=some (seqObj "list" #[] e1):=⟨_,get?_update_seq aa (λ_=> #[])⟩;refine zd (seqEpoch_at ag rfl ?_);refine zd (wpAny_newTuple ?_ (by show its.length<=_;rw[zv];omega));refine zd (yyd ?_ (yj _));refine yW ?_;have ap:((h2.update D (Obj.mapSeq λ_=> #[])).push (seqObj "tuple" its.toArray 0)).objs.size=s.heap.objs.size+3:=by rw[size_push',yyD,af]
  have ab:∀b o,s.heap.get? b=some o->(((h2.update D (Obj.mapSeq λ_=> #[])).push (seqObj "tuple" its.toArray 0)).push (seqObj "list" #[] 0)).get? b=some o:=λb o e=>by
   have h9:b<s.heap.objs.size:=zt e;have hb:b≠D:=ye (yyl h9 (by omega));exact zb _ (zb _ ((yO _ _ _ _ hb).trans (keep b o e)))
  have aq:(((h2.update D (Obj.mapSeq λ_=> #[])).push (seqObj "tuple" its.toArray 0)).push (seqObj "list" #[] 0)).get? D=some (seqObj "list" #[] e1):=zb _ (zb _ ag);have ak:(((h2.update D (Obj.mapSeq λ_=> #[])).push (seqObj "tuple" its.toArray 0)).push (seqObj "list" #[] 0)).get? (s.heap.objs.size+3)=some (seqObj "list" #[] 0):=by rw[<-ap];exact yb _ rfl
  show wpAny _ _ _ _ _ {s with heap:=((h2.update D (Obj.mapSeq λ_=> #[])).push (seqObj "tuple" its.toArray 0)).push (seqObj "list" #[] 0)};dsimp only;rw[ap];generalize((h2.update D (Obj.mapSeq λ_=> #[])).push (seqObj "tuple" its.toArray 0)).push (seqObj "list" #[] 0)=h4 at ab aq ak;obtain⟨kS,ar⟩:∃kS:Nat,s.heap.objs.size+3=kS:=⟨_,rfl⟩;rw[ar]at ak⊢;have ae:D≠kS:=ye (by omega);have al:H D=none:=I.hok.fresh (by omega);have aj:H kS=none:=I.hok.fresh (by omega);have I4:Inv X pins σ (upd H kS (.lst [])) {s with heap:=h4,toks:=s.toks}:=I.laid (t':=s.toks) ab (by omega) ⟨yj _,[],0,.nil,ak⟩;have ad:QC X pins (upd H kS (.lst [])) D:=I.fpOk (by omega) ((iJ ae).trans al)
  have I5:Inv X (pins++[(D,seqObj "list" #[] e1)]) σ (upd H kS (.lst [])) {s with heap:=h4,toks:=s.toks}:=I4.pins_of λp hp=>by
   rcases yg.mp hp with hp|hp
   ·exact I4.pin p (yh _ hp)
   ·obtain rfl:=zx.mp hp
    exact⟨aq,ad.1,ad.2.1,ad.2.2.1,λv z=>by cases z⟩
  unfold ksk_rest;refine zd (wpAny_rule ?_)
  first|rw[List.forIn_toArray]|rw[<-Array.forIn_toList]
  refine zd (SN (kf:=kf) (H0:=H) (kS:=kS) F hr hb (λx s' D' hx=>?_) aj ys its [] [] _ _ rv (by rw[zzC];omega) I5 iC (iG aj) (λy hy=>(hK y hy).2) .nil λkvs H2 s2 I2 am ay an=>?_)
  ·refine zd (wpAny_attempt (yP hx (λkv bh hk=>?_) λ_ _ hF=>hF.elim))
   obtain⟨its',n',e',bf,az⟩:=hk
   try dsimp only
   refine zd (listUpdate_at e' rfl ?_ (by rw[zv];omega) (yw (yyG (Array.size_push ..)) (by rw[zv];omega)));exact yc ⟨rfl,az⟩
  ·obtain⟨z,ks,n,rk,be,e⟩:=I2.lstM am
   have bg:ys.length=kvs.length:=yG an
   try dsimp only
   refine zd (listItems_at e rfl ?_);have ai:=I2.pin (D,seqObj "list" #[] e1) (yh _ (yh _ (zx.mpr rfl)));refine Wy (G:=λp=>Prm its.length p/\SX ys kf p) (λi=>kf (ys.getD i .non)) (by omega) (by omega) e ai.1 ae (λi hi=>?_) (λhn=>ac▸XQ (by omega)) (λh2=>⟨zz3 _,λm _ _ a b aw hb=>absurd aw (by omega)⟩) (λp hp=>hp.1) λp ax=>⟨_,rfl,yc ⟨_,rfl,?_⟩⟩
   ·have hm:ys.getD i .non∈ys:=by
     have:i<ys.length:=by omega
     simp[this]
    obtain⟨t,e2,e3⟩:=Ig (d1:=V.non) (d2:=V.non) an (i:=i) (by rw[zzS];omega);rw[zzS]at e3;obtain⟨tv,rt,it,bi⟩:=I2.tuple (jt e3);obtain⟨o,ho,hc,m,hd⟩:=it;refine⟨(hK _ hm).1,t,o,tv.toArray,m,?_,ho,hc,hd,rt⟩;have:=Bw rk (i:=i) (by omega);rw[e2]at this;exact this
   ·obtain⟨hp,ao⟩:=ax
    have bc:∀i∈p.toList,i<ys.length:=λi hi=>by
     have:=y4.mp (hp.mem_iff.mp hi);omega
    have ah:p.toList.length=its.length:=by rw[hp.length_eq];simp
    have au:(p.toList.map λi=>ys.getD i V.non).Perm ys:=by
     have:=hp.map λi=>ys.getD i V.non;rw[<-ac,Iz]at this;exact this
    have I3:=(I2.lset (t':=s2.toks) (its':=[]) (f:=λ_=> #[]) am e rfl .nil (yj _)).unpinned;have as:QC X pins (upd H2 kS (.lst [])) D:=⟨(iJ ae).trans ai.2.1,ad.2⟩;have bb:(s2.heap.update kS (Obj.mapSeq λ_=> #[])).get? D=some (seqObj "list" #[] e1):=(yO _ _ _ _ ae).trans ai.1;obtain⟨c,hc⟩:∃c,((s2.heap.update kS (Obj.mapSeq λ_=> #[])).update D (Obj.mapSeq λ_=>List.toArray (p.toList.map λi=>its.getD i Value.none))).get? D=some (seqObj "list" (List.toArray (p.toList.map λi=>its.getD i Value.none)) c):=⟨_,get?_update_seq bb _⟩;refine⟨.ref D,_,I3.adopt (t':=s2.toks) (zs:=p.toList.map λi=>ys.getD i V.non) as (λb o hb e=>(yO _ _ _ _ hb).trans e) hc (Gx rv bc) (by rw[za,ah,zv];omega),rfl,q _ _ _ ?_ al iC au λm h1 h2=>?_⟩
    ·exact((ay.upd aj).upd al)
    ·refine y9.mpr λi j hi hj ba=>?_
     rw[za,ah,<-ac]at hj;have h3:=ao m h1 h2 i j ba hj;have hs:p.size=ys.length:=by rw[<-yN,ah,ac]
     have e1:p.getD i 0=p.toList[i]'(by rw[yN];omega):=by simp[Array.getD,show i<p.size by omega]
     have e2:p.getD j 0=p.toList[j]'(by rw[yN];omega):=by simp[Array.getD,show j<p.size by omega]
     rw[e1,e2]at h3;rw[zzj,zzj];exact h3
noncomputable def Sd(K:Fg_)(sp:Sp)(t:TA):TE:=λσ H Q=>t σ H λvs H1=>∃x,vs=[x]/\Nb K sp x H1 Q
def Ke{e:Expr}{t:TA}{g:Str}{p kp kpos pos:Pos}(F:jE X.prog X.w X.K X.mg X.base CX0 k f fd ps sp)(hr:qM (k+2) X.A)(hb:Binds X.K fd ps [])(ab:Gl X "sorted") (ac:X.mg "sorted" =none) (ad:bootBuiltins "sorted" =some (.builtin "sorted"))
  (hg:Gl X g) (hm:X.mg g=some (.ref f)) (ha:PA X [e] t) (aa:(g==("__debug__" :Str))=false:=by decide)
  (he:backTo pos (starEach [e] X.env)=(false,eval e X.env)::backTo pos (starEach [] X.env):=by rfl) (hpl:(backTo pos (starEach [e] X.env)).any (·.1)=false:=by rfl):
  PE X (.Call (.Name "sorted" p) [e] [⟨some "key",.Name g kp,kpos⟩] pos) (Sd X.K sp t):=by
 intro pins s σ H Q I h;refine yT (xH I ab ac ad ?_);refine callWith_kw (thn (ha pos pins s σ H _ I h) λus s1 ⟨vs,H1,I1,r,x,ex,q⟩=>?_) he hpl;subst ex;obtain⟨u,rfl,rx⟩:=vals1 r;have hk:PK X [⟨some "key",.Name g kp,kpos⟩] (DG (tC (.ref f)) Xj):=Vo (lK hg hm rfl aa) agE;refine thn (hk pos pins s1 σ H1 (λzs H2=>zs=[.ref f]/\H2=H1) I1 ⟨rfl,rfl⟩) λws s2 ⟨zs,H2,I2,rz,e1,e2⟩=>?_;subst e1 e2;obtain⟨w1,rfl,z⟩:=vals1 rz;cases z;exact Tf F hr hb I2 rx q
def Ik{K:Fg_}{e:Expr}{t:TA}{g:Str}{p kp kpos pos:Pos}(q:X.K=K)(h:PE X (.Call (.Name "sorted" p) [e] [⟨some "key",.Name g kp,kpos⟩] pos) (Sd X.K sp t)):PE X (.Call (.Name "sorted" p) [e] [⟨some "key",.Name g kp,kpos⟩] pos) (Sd K sp t):=q▸h
def ap_tSortK{K:Fg_}{sp:Sp}{t:TA}{σ:St}{H:Hp}{Q:VK}:Sd K sp t σ H Q=t σ H λvs H1=>∃x,vs=[x]/\Nb K sp x H1 Q:=rfl
def ap_rSortK{K:Fg_}{sp:Sp}{a:Addr}{H:Hp}{Q:VK}:Nb K sp (.ref a) H Q=∃(ys:List V)(kf:V->List Int),SqL K H a ys/\ys.length<64/\(∀y∈ys,kf y≠[]/\ahj sp kf H y)/\
  ∀p zs H',Same H H'->H p=none->H' p=some (.lst zs)->zs.Perm ys->(∀m,(∀y∈ys,(kf y).length=m)->(ys.map kf).Nodup->zs.Pairwise λy z=>uY (kf y) (kf z) false=true)->Q (.ref p) H':=by simp[Nb]
end
section
variable{X:Cx}
noncomputable def ahw:V->List V->Hp->VK->Prop:=λx vs H Q=>∃(l:Addr)(xs:List V)(i:Int)(y:V),x=.ref l/\vs=[.int i,y]/\H l=some (.lst xs)/\0<=i/\i<=xs.length/\i<1000000/\xs.length+1<=sizeLine/\Q .non (upd H l (.lst (xs.take i.toNat++y::xs.drop i.toNat)))
def VG:MtM X "list.insert" ahw:=by
 intro pins s σ H x vs v us Q I rx rv h;obtain⟨l,xs,i,y,rfl,rfl,hH,ab,hk,ac,hz,q⟩:=h;cases rx;obtain⟨iv,u,rfl,r1,ru⟩:=rv.two;obtain⟨t,rfl⟩:=r1;obtain⟨z,its,n,r,hl,e⟩:=I.lstM hH
 have aa:¬(!Builtin.List.listFitsIndex i)=true:=by
  rw[fitsIndex_both (Int.le_trans (by decide) ab) (yyH ac (by decide))];exact yp
 have hsz:its.toArray.size<=sizeLine:=by rw[zk,<-hl];exact z
 refine yyJ F.slot_list_insert ⟨_,e,rfl⟩ F.entry_list_insert (F.args_list_insert_3 _ _ _) (PySem.AutoSeq1.list_insert_list_int_val_1 l its.toArray n i t u aa hsz) ⟨e,?_⟩;refine⟨.non,_,I.lset (its':=its.take i.toNat++u::its.drop i.toNat) hH e ?_ ((r.take i.toNat).append (.cons ru (r.drop i.toNat))) ?_,rfl,q⟩
 ·have hm:(if i<0 then(i+(its.toArray.size:Int)).toNat else min i.toNat its.toArray.size)=i.toNat:=by
   rw[ze (by omega),zk];omega
  show(its.toArray.extract 0 (if i<0 then(i+(its.toArray.size:Int)).toNat else min i.toNat its.toArray.size)).push u++its.toArray.extract (if i<0 then(i+(its.toArray.size:Int)).toNat else min i.toNat its.toArray.size)=_;rw[hm];apply Array.toList_inj.mp;simp;exact yr (by rw[zzh];omega)
 ·rw[yd,yo,yD,zzh]
  omega
end
end L2
namespace L2
open PySem PySem.W PySem.Spec PyProof.Rows
section
variable{X:Cx}
noncomputable def Rm(K:Fg_):List V->Hp->VK->Prop:=λxs H Q=>∃(a:Addr)(ns:List Int),xs=[.ref a]/\SqL K H a (ns.map V.int)/\ns.length<=1000/\∀l S n,H l=none->n<=ns.length->(ns.Nodup->n=ns.length)->Q (.ref l) (upd H l (.set S n))
theorem Yb:∀(ns acc:List Int),(ns.foldl step_dedup acc).length<=acc.length+ns.length
 |[],acc=>zj _
 |n::ns,acc=>by
  rw[zzl];refine yw (Yb ns _) ?_;rw[yo];unfold step_dedup;split
  ·omega
  ·rw[yd,zza];omega
theorem Xv:∀(ns acc:List Int),ns.Nodup->(∀x∈ns,x∉acc)->(ns.foldl step_dedup acc).length=acc.length+ns.length
 |[],acc,_,_=>rfl
 |n::ns,acc,h,hd=>by
  have h':=yq.mp h;rw[zzl]
  have e:step_dedup acc n=acc++[n]:=by
   unfold step_dedup;rw[ze];intro z;obtain⟨x,q,ex⟩:=yY.mp z;have:x=n:=by simpa using ex
   exact hd n zm (this▸q)
  rw[e,Xv ns _ h'.2,yd,zza,yo]
  ·omega
  ·intro x q hm
   rcases yg.mp hm with hm|hm
   ·exact hd x (ya _ q) hm
   ·obtain rfl:=zx.mp hm
    exact h'.1 q
def ahu(ns:List Int):(List.range ns.length).map (λi=>ns.getD i 0)=ns:=by
 refine zzO (by simp) λi h1 h2=>?_;simp at h1⊢;simp[h1]
def Ug(hc:X.calm=true):mR X (.type "set") (Rm X.K):=by
 intro pins s σ H xs us Q I r h;obtain⟨a,ns,rfl,hq,hl,q⟩:=h;obtain⟨u,rfl,r1⟩:=vals1 r;cases r1;obtain⟨its,rv,pl,hz⟩:=I.list hq;have hi:IntsAre its ns:=intsAre_of rv;have l1:=rv.length;rw[za]at l1;refine call_set_list (I.ok.hd hc) pl.isList hi (by rw[zk,<-l1];show ns.length+1<4096;omega) λh' tk z hk=>?_;rw[show its.toArray.size=ns.length by rw[zk,l1]]at z;unfold firstMet at z;rw[ahu]at z;refine⟨.ref s.heap.objs.size,_,I.laid (t':=tk) (o:=.set _ _) (λb o e=>hk b o (zt e) e) (zj _) z,rfl,q _ _ _ (I.hok.fresh (zj _)) ?_ λhn=>?_⟩
 ·have:=Yb ns []
  simpa using this
 ·have:=Xv ns [] hn (λ_ _=>by simp)
  simpa using this
def QV{K:Fg_}(z:X.calm=true)(q:X.K=K:=by rfl):mR X (.type "set") (Rm K):=q▸Ug z
noncomputable def ahN:List V->Hp->VK->Prop:=λxs H Q=>∃(a:Addr)(S:Int->Bool)(n:Nat),xs=[.ref a]/\H a=some (.set S n)/\Q (.int n) H
def WQ:mR X (.builtin "len") ahN:=by
 intro pins s σ H xs us Q I r h;obtain⟨a,S,n,rfl,hq,q⟩:=h;obtain⟨u,rfl,r1⟩:=vals1 r;cases r1;have ho:=I.hok a _ hq;obtain⟨o,es,ep,t,e1,e2,e3,_,_,e4,z,e6⟩:=(show s.heap.SetOf (intKind X.prog X.w) a S n from ho);refine call_len_set e1 e2 e3 z (by have:es.size<4096:=e4;omega) ?_;rw[e6];exact⟨.int n,H,I.kept (t':=s.toks+1+1) λb o e=>e,⟨_,rfl⟩,q⟩
def ap_setOf{K:Fg_}{a:Addr}{H:Hp}{Q:VK}:Rm K [.ref a] H Q=∃ns:List Int,SqL K H a (ns.map V.int)/\ns.length<=1000/\∀l S n,H l=none->n<=ns.length->(ns.Nodup->n=ns.length)->Q (.ref l) (upd H l (.set S n)):=by simp[Rm]
def ap_lenSet{a:Addr}{H:Hp}{Q:VK}:ahN [.ref a] H Q=∃(S:Int->Bool)(n:Nat),H a=some (.set S n)/\Q (.int n) H:=by simp[ahN]
end
end L2
namespace L2
open PySem PySem.Spec PyProof.Rows
def Yq{xs:List V}{us:List Value}(h:Vals xs us):Vals xs.reverse us.reverse:=by
 induction h with
 |nil=>exact .nil
 |cons r _ ih=>
  rw[List.reverse_cons,List.reverse_cons];exact ih.append (.cons r .nil)
section
variable{K:Fg_}{a:Addr}{xs:List V}{g:TG}{tt:TT}{te:TE}{σ:St}{H:Hp}{Q:VK}{cap:List (Option Nat)}
def jZ.enumI(Sσ:St->Prop)(p:Nat->Bool)(hS:SqL K H a xs)(h0:Sσ (pI σ cap))(hz:xs.length<=sizeLine)
  (hs:∀(i:Nat) x,xs[i]? =some x->∀(σ:St)(H5:Hp)(q:Addr)(R1:St->VK)(R2:St->Hp->Prop),Sσ σ->Same H H5->H5 q=some (.tup [.int i,x])->(p i=true->∀z H6,Sσ z->Same H5 H6->R1 z (.int i) H6)->(p i=false->∀z H6,Sσ z->Same H5 H6->R2 z H6)->
   g (.ref q) σ H5 λz H4=>tt z H4 λb H5=>if b=true then te z H5 (R1 z)else R2 z H5)
  (k:∀D H',H D=Option.none->Same H H'->H' D=some (.lst (((List.range xs.length).filter p).map λi:Nat=>V.int i))->Q (.ref D) H'):jZ cap (Ite K a) g tt te σ H Q:=by
 intro D hD;refine⟨λi m acc σ H2=>m=xs.length - i/\i<=xs.length/\Sσ σ/\Same H H2/\acc=((List.range i).filter p).map λi:Nat=>V.int i,⟨xs.length,rfl,yj _,h0,iG hD,rfl⟩,?_⟩;rintro i m acc σ1 H2 ⟨rfl,hi,hσ,sm,rfl⟩ hA
 have ad:(((List.range i).filter p).map λi:Nat=>V.int i).length<=i:=by
  rw[za];exact yw (yV _ _) (by simp)
 by_cases ac:i<xs.length
 ·refine .inr ⟨⟨xs,xs[i],sm.seq hS,by simp[ac]⟩,λv H3 hy=>?_⟩
  obtain⟨q,x,hq,rfl,rfl,e1⟩:=hy;have hx:=e1 xs (sm.seq hS);have s3:=iG (o:=.tup [V.int i,x]) hq;refine hs i x hx σ1 _ q _ _ hσ (sm.trans s3) iC (λhp z H6 aa s6=>?_) λhp z H6 aa s6=>?_
  ·have ab:=(s3.trans s6) _ _ hA
   refine⟨_,ab,by omega,xs.length - (i+1),by omega,rfl,ac,aa,(sm.trans (s3.trans s6)).upd hD,?_⟩;rw[List.range_succ,yS,yZ (by simpa using hp),zp];rfl
  ·have ab:=(s3.trans s6) _ _ hA
   refine⟨xs.length - (i+1),by omega,_,ab,rfl,ac,aa,sm.trans (s3.trans s6),?_⟩;rw[List.range_succ,yS,yR (by simpa using hp),zp];simp
 ·obtain rfl:i=xs.length:=by omega
  exact .inl ⟨⟨xs,sm.seq hS,zj _⟩,k D H2 hD sm hA⟩
end
end L2
namespace L2
open PySem PySem.W PySem.Spec PySem.Calls PyProof.Rows
noncomputable def Tj(Pt:Addr)(H H':Hp):Prop:=∀b o,b≠Pt->H b=some o->H' b=some o
def Tj.of{q:Addr}{H H':Hp}(h:Same H H'):Tj q H H':=λb o _ e=>h b o e
def Tj.trans{q:Addr}{H H1 H2:Hp}(h:Tj q H H1)(k:Tj q H1 H2):Tj q H H2:=λb o n e=>k b o n (h b o n e)
end L2
namespace L2
open PySem PySem.W PySem.Spec PySem.Calls PyProof.Rows
structure akq(z TI TO i1 i2 i3 l1 l2 l3:Addr):Prop where
 zz:TI≠z/\TO≠z/\i1≠z/\i2≠z/\i3≠z/\l1≠z/\l2≠z/\l3≠z
 to:TI≠TO/\i1≠TO/\i2≠TO/\i3≠TO/\l1≠TO/\l2≠TO/\l3≠TO
 ii:i1≠i2/\i1≠i3/\i2≠i3
 j1:TI≠i1/\l1≠i1/\l2≠i1/\l3≠i1
 j2:TI≠i2/\l1≠i2/\l2≠i2/\l3≠i2
 j3:TI≠i3/\l1≠i3/\l2≠i3/\l3≠i3
end L2
namespace L2
open PySem PySem.W PySem.Spec PySem.Calls PyProof.Rows
def ahy:typeLookup (.type "list_reverseiterator") "__len__" =pure none:=by rw[typeLookup_type,builtinLookup_eq_fast];kernel_rfl
def ZL:typeLookup (.type "list_reverseiterator") "__length_hint__" =pure (some (.builtin "list_reverseiterator.__length_hint__")):=by rw[typeLookup_type,builtinLookup_eq_fast];kernel_rfl
def YX:isSubtype (.type "list_reverseiterator") (.type "list_reverseiterator")=pure true:=by rw[isSubtype_type];kernel_rfl
section
variable{prog:Program}{w:World}{A:Around}{s:Shared}{R:Result->Shared->Prop}
def Uo{it l S:Addr}{items:Array Value}{c₀:Nat}{res:Value}(hh:A.in1.handled=none)(z:s.heap.IsRevIter it l ((items.size:Int) - 1))(hl:s.heap.IsList l items)(af:l≠it)(ab:S≠it)(ac:S≠l)(hn:items.size<=sizeLine)
  (hS:s.heap.get? S=some {cls:=.type "list",data:=.seq #[] c₀})
  (hR:∀s' q c',Moved [S,it] (λa b=>b=a) s s'->s'.heap.get? S=some {cls:=.type "list",dict:=none,data:=.seq q c',slots:= #[]}->ItemsOf (λi v=>items[items.size - 1 - i]? =some v) q items.size->R (.ok (.ret res)) s'):
  wpAny (model prog w) A.in1 (Builtin.List.listExtendWith (.ref S) (.ref it) res) (λad s'=>match ad with|.done f=>R (.ok f) s'|.again c'=>c'.quiet=true/\codeAny (model prog w) A c' R s') (λe s'=>R (.error e) s') s:=by
 have W:=Walks.listRev (prog:=prog) (w:=w) hh it l af items;have hT:=z.typeIs;unfold Builtin.List.listExtendWith;refine zd (wpAny_typeOf hT ?_);have h1:Builtin.List.listSameRef (.ref S) (.ref it)=false:=by simp[Builtin.List.listSameRef,ab]
 have h2:(Value.type "list_reverseiterator" ==Value.type "list")=false:=by decide
 have h3:(Value.type "list_reverseiterator" ==Value.type "tuple")=false:=by decide
 simp only[h1,h2,h3,Bool.or_false,zzd,if_false];refine zd (wpAny_pyIter_revIter z (zd (yW ?_)));unfold Builtin.List.listLengthHint;refine zd (yyL hT ahy ?_);show wpAny _ A.in1 (specialOf (Value.ref it) (Str.ofString "__length_hint__")>>=_) _ _ _
 refine zd (yyL hT ZL ?_);dsimp only;rw[show splitId "list_reverseiterator.__length_hint__" =some ("list_reverseiterator", "__length_hint__")from by kernel_rfl];dsimp only;refine zd (wpAny_isInstance (T:= "list_reverseiterator") (b:=true) hT YX ?_);rw[ze (by decide),zn (by kernel_rfl),ze (by decide)];refine yc ?_;rw[ze (by decide+kernel)];refine yc ⟨plainId_quiet F.plain_extend_loop _,codeAny_extend_loopS W.toS hn S (by simp[ab,ac]) res items.size 0 _ #[] c₀ rfl (yj _) ⟨yj _,?_,hl⟩ hS (ItemsOf.nil _) λs' q c' hm ae aa=>hR s' q c' hm ae aa⟩;rw[show((items.size:Int) - 1 - ((0:Nat):Int))=(items.size:Int) - 1 by omega];exact z
end
section
variable{prog:Program}{w:World}{A:Around}{E:Value->Shared->Prop}{s:Shared}
def Le{it l:Addr}{items:Array Value}{Q:Value->Shared->Prop}(hh:A.in1.in1.handled=none)(ad:s.heap.IsRevIter it l ((items.size:Int) - 1))(hl:s.heap.IsList l items)(ag:l≠it)(hn:items.size<=sizeLine)
  (hQ:∀s' q c',(∀b o,b≠it->s.heap.get? b=some o->s'.heap.get? b=some o)->s'.gens=s.gens->s'.drawn=s.drawn->s'.os=s.os->
   s'.heap.get? s.heap.objs.size=some {cls:=.type "list",dict:=none,data:=.seq q c',slots:= #[]}->ItemsOf (λi v=>items[items.size - 1 - i]? =some v) q items.size->Q (.ref s.heap.objs.size) s'):
  wpAny (model prog w) A (call (.type "list") [.ref it]) Q E s:=by
 have aa:it<s.heap.objs.size:=by obtain⟨o,e,_⟩:=ad;exact zt e
 have ab:l<s.heap.objs.size:=by obtain⟨o,e,_⟩:=hl;exact zt e
 refine callType_codes (Q₁:=λobj s₁=>obj=.ref s.heap.objs.size/\s₁={s with heap:=s.heap.push {cls:=.type "list",data:=.seq #[]}}) F.called_list (F.typeCall_list_1 _) F.entry_list_init (code_list_new _ ⟨rfl,rfl⟩) λobj s₁ h₁=>?_;obtain⟨rfl,rfl⟩:=h₁;have hS:(s.heap.push {cls:=.type "list",data:=.seq #[]}).get? s.heap.objs.size=some {cls:=.type "list",data:=.seq #[]}:=yb _ rfl;have ae:=zz6 (Obj.mapSeq (λ_=>(#[]:Array Value))) hS rfl
 have z:∀b o,b<s.heap.objs.size->s.heap.get? b=some o->((s.heap.push {cls:=.type "list",data:=.seq #[]}).update s.heap.objs.size (Obj.mapSeq (λ_=>(#[]:Array Value)))).get? b=some o:=λb o hb e=>
  (y0 _ _ (zzg hb)).trans (zb _ e)
 refine⟨⟨_,hS,rfl⟩,F.args_list_init_2 _ _,?_⟩;show wpAny _ A.in1.in1 (do let old<-Builtin.List.listItems (.ref s.heap.objs.size);Builtin.List.listUpdate (.ref s.heap.objs.size) (λ_=> #[]);letGo old.toList.reverse;Builtin.List.listExtendWith (.ref s.heap.objs.size) (.ref it) .none) _ _ _;refine zd ?_;unfold Builtin.List.listItems;refine zd (yyr hS rfl (yc ?_));show wpAny _ A.in1.in1 (updateSeq s.heap.objs.size (λ_=> #[])>>=λ_=>letGo (#[]:Array Value).toList.reverse>>=λ_=>Builtin.List.listExtendWith (.ref s.heap.objs.size) (.ref it) .none) _ _ _;refine zd (yyM hS rfl (zd (yyy ?_)));refine Uo (l:=l) (items:=items) hh (ad.at λo e=>z _ o aa e) (hl.at λo e=>z _ o ab e) ag (zzg aa) (zzg ab) hn ae λs' q c' hm af ac=>?_;refine⟨rfl,hQ s' q c' (λb o hb e=>hm.heap b o (by simp[hb,ye (zt e)]) (z b o (zt e) e)) hm.gens hm.drawn hm.os af ac⟩
end
section
variable{X:Cx}
noncomputable def FT(K:Fg_)(t:TA):TE:=λσ H Q=>t σ H λvs H1=>∃a ys,vs=[.ref a]/\SqL K H1 a ys/\∀l,H1 l=none->Q (.ref l) (upd H1 l (.lst ys.reverse))
def Ue{e:Expr}{t:TA}{p p2 pos aa:Pos}(hc:X.calm=true)(ah:Gl X "list") (ag:X.mg "list" =none) (af:Gl X "reversed") (ae:X.mg "reversed" =none) (ha:PA X [e] t)
  (hs:starEach [.Call (.Name "reversed" p2) [e] [] aa] X.env=[(false,eval (.Call (.Name "reversed" p2) [e] [] aa) X.env)]:=by rfl) (he:starEach [e] X.env=[(false,eval e X.env)]:=by rfl):
  PE X (.Call (.Name "list" p) [.Call (.Name "reversed" p2) [e] [] aa] [] pos) (FT X.K t):=by
 intro pins s σ H Q I h;refine yT (xH I ah ag (show bootBuiltins "list" =some (.type "list")from by decide+kernel) ?_);refine PyProof.Rows.callWith_type1 (T:= "list") ?_ (by rw[hs];rfl) rfl;rw[hs];show wpAny _ _ (spliced ((false,eval (.Call (.Name "reversed" p2) [e] [] aa) X.env)::backTo pos [])) _ _ s;refine Calls.spliced_cons (yT (xH I af ae (show bootBuiltins "reversed" =some (.type "reversed")from by decide+kernel) (PyProof.Rows.callWith_type1 (T:= "reversed") (thn (ha aa pins s σ H _ I h) λus s1 ⟨vs,H1,I1,r1,a,ys,ev,hq,q⟩=>?_) (by rw[he];rfl) rfl)));subst ev;obtain⟨u,rfl,ru⟩:=vals1 r1;cases ru;obtain⟨its,rv,pl,hz⟩:=I1.list hq;have hl:=pl.isList;have aj:a<s1.heap.objs.size:=by obtain⟨o,e,_⟩:=hl;exact zt e
 refine call_reversed_list hl (Calls.spliced_nil ?_);have I2:Inv X pins σ H1 {s1 with heap:=s1.heap.push (revObj a ((its.toArray.size:Int) - 1))}:=I1.kept (t':=s1.toks) λb o e=>zb _ e;have ai:(s1.heap.push (revObj a ((its.toArray.size:Int) - 1))).IsRevIter s1.heap.objs.size a ((its.toArray.size:Int) - 1):=⟨_,yb _ rfl,rfl,rfl⟩;have hf:QC X pins H1 s1.heap.objs.size:=I1.fpOk (zj _) (I1.hok.fresh (zj _));have hsz:its.toArray.size<=sizeLine:=by rw[zk,<-rv.length];exact hz
 refine Le (s:={s1 with heap:=s1.heap.push (revObj a ((its.toArray.size:Int) - 1))}) (I.ok.hd hc) ai (hl.at λo e=>zb _ e) (ye aj) hsz λs' acc c k1 k2 k3 k4 hS ab=>?_;obtain⟨h',g,d,tk,os⟩:=s';obtain rfl:g=s1.gens:=k2;obtain rfl:d=s1.drawn:=k3;obtain rfl:os=s1.os:=k4;have e1:(s1.heap.push (revObj a ((its.toArray.size:Int) - 1))).objs.size=s1.heap.objs.size+1:=zzZ ..;rw[show(({s1 with heap:=s1.heap.push (revObj a ((its.toArray.size:Int) - 1))}:Shared).heap.objs.size)=s1.heap.objs.size+1 from e1]at hS⊢
 have ac:acc.toList=its.reverse:=by
  refine zzH λi=>?_;by_cases hi:i<its.length
  ·have ad:i<acc.size:=by rw[ab.1,zk];exact hi
   have h2:its.toArray[its.toArray.size - 1 - i]? =some acc[i]:=ab.2 i acc[i] (zzP ad);rw[zzk,zzP ad,List.getElem?_reverse hi];rw[zz9,zk]at h2;exact h2.symm
  ·rw[yx (by rw[yN,ab.1,zk];omega),yx (by rw[List.length_reverse];omega)]
 refine⟨.ref (s1.heap.objs.size+1),_,I2.turnedT (t':=tk) (fp:=[s1.heap.objs.size]) (T:=s1.heap.objs.size+1) (o:=.lst ys.reverse) (λb hb=>by rw[zx.mp hb];exact hf) (yyG e1) (λb o hb e=>k1 b o (λz=>hb (by simp[z])) e) ?_,rfl,q _ (I1.hok.fresh (zzo _))⟩;refine⟨by rw[List.length_reverse];exact hz,its.reverse,c,Yq rv,?_⟩;rw[<-ac,Array.toArray_toList];exact hS
def QD{K:Fg_}{t:TA}{e:Expr}(q:X.K=K)(h:PE X e (FT X.K t)):PE X e (FT K t):=q▸h
def ap_tListRev{K:Fg_}{t:TA}{σ:St}{H:Hp}{Q:VK}:FT K t σ H Q=t σ H λvs H1=>∃a ys,vs=[.ref a]/\SqL K H1 a ys/\∀l,H1 l=none->Q (.ref l) (upd H1 l (.lst ys.reverse)):=rfl
end
end L2
namespace L2
open PySem PySem.W PySem.Spec PySem.Calls PyProof.Rows
section
variable{prog:Program}{w:World}{A:Around}{R:Result->Shared->Prop}{I:Addr}{fp wr:List Addr}{G:Array GenState->Array GenState->Prop}{n:Nat}{P:Nat->Value->Prop}{St:Nat->Shared->Prop}
def Vp(W:WalksS prog w A.in1 I fp wr G n P St)(bt:Nat->Nat->Bool)(ac:CmpOf prog w A.in1 .Lt P bt)(hb:∀j,0<j->j<n->bt j 0=false)(S:Addr)(ai:S∉fp)(dv v0:Value)(ak:P 0 v0):
  ∀(k j:Nat)(s:Shared)(c:Nat),n - (j+1)=k->j+1<=n->St (j+1) s->s.heap.get? S=some {cls:=.type "list",dict:=none,data:=.seq #[v0,v0] c,slots:= #[]}->
  (∀s',Moved (S::wr) G s s'->R (.ok (.ret v0)) s')->codeAny (model prog w) A (.builtin "min.loop" ⟨[.ref I,.none,.ref S],[("default",dv)]⟩) R s:=by
 have ab:S∉wr:=λh=>ai (W.sub _ h);have q:∀b∈wr,b∈S::wr:=λb hb=>ya _ hb
 have ag:(toString "min" ++toString ".loop" :String)= "min.loop" :=by decide
 have ad:∀{b:Addr},b∉S::wr->S≠b:=λhb h=>hb (h▸zm);intro k
 induction k with
 |zero=>
  intro j s c hk hj z hS hR;have ah:j+1=n:=by omega
  refine codeAny_builtin F.entry_min_loop ?_;rw[Around.under_plainId F.plain_min_loop _];show wpAny _ A.in1 (seqItems? (.ref S)>>=_) _ _ s
  refine zd (yyr hS rfl ?_);show wpAny _ A.in1 (tryCatch (pyNext (.ref I)) _>>=_) _ _ s
  refine zd (zzM (W.done s _ _ (ah▸z) λs' hm=>?_));have hS':=hm.heap S _ ab hS;show wpAny _ A.in1 (updateSeq S (λ_=> #[])>>=_) _ _ _
  refine zd (yyM hS' rfl (zd (yyy (yc (hR _ ((hm.mono q).then_heap (tk:=s'.toks) (zj _) λb o hb e=>(y0 _ _ (ad hb)).trans e))))))
 |succ k ih=>
  intro j s c hk hj z hS hR;have aa:j+1<n:=by omega
  refine codeAny_builtin F.entry_min_loop ?_;rw[Around.under_plainId F.plain_min_loop _];show wpAny _ A.in1 (seqItems? (.ref S)>>=_) _ _ s
  refine zd (yyr hS rfl ?_);show wpAny _ A.in1 (tryCatch (pyNext (.ref I)) _>>=_) _ _ s
  refine zd (zzM (W.item (j+1) s _ _ aa z λv s' hP af hm=>?_));have hS':=hm.heap S _ ab hS;show wpAny _ A.in1 (tryCatch (holding [v,v] (richCompare .Lt v v0>>=_)) _>>=_) _ _ _
  refine zd (zzM (yW (zd (ac (j+1) 0 v v0 _ _ _ hP ak (zd (yW (y6 (zd (yyy (yc ?_))))))))));rw[hb (j+1) (Nat.succ_pos _) aa];simp only[zzd,if_false];refine zd (yyy ?_);rw[ag];exact yc ⟨plainId_quiet F.plain_min_loop _,ih (j+1) _ c (by omega) aa af hS' λaj ae=>hR aj (Moved.trans W.gtrans (hm.mono q) ae)⟩
def TJ(W:WalksS prog w A.in1 I fp wr G n P St)(bt:Nat->Nat->Bool)(aa:CmpOf prog w A.in1 .Lt P bt)(hb:∀j,0<j->j<n->bt j 0=false)(S:Addr)(z:S∉fp)(dv:Value){s:Shared}{c:Nat}(ad:St 0 s)(hS:s.heap.get? S=some {cls:=.type "list",dict:=none,data:=.seq #[] c,slots:= #[]})
  (hR:∀v s',(n=0->v=dv)->(0<n->P 0 v)->Moved (S::wr) G s s'->R (.ok (.ret v)) s'):codeAny (model prog w) A (.builtin "min.loop" ⟨[.ref I,.none,.ref S],[("default",dv)]⟩) R s:=by
 have af:S∉wr:=λh=>z (W.sub _ h);have q:∀b∈wr,b∈S::wr:=λb hb=>ya _ hb
 have ah:(toString "min" ++toString ".loop" :String)= "min.loop" :=by decide
 have ab:∀{b:Addr},b∉S::wr->S≠b:=λhb h=>hb (h▸zm);refine codeAny_builtin F.entry_min_loop ?_;rw[Around.under_plainId F.plain_min_loop _];show wpAny _ A.in1 (seqItems? (.ref S)>>=_) _ _ s
 refine zd (yyr hS rfl ?_);show wpAny _ A.in1 (tryCatch (pyNext (.ref I)) _>>=_) _ _ s
 by_cases hn:n=0
 ·refine zd (zzM (W.done s _ _ (hn▸ad) λs' hm=>?_))
  show wpAny _ A.in1 (rule _>>=_) _ _ _;exact zd (wpAny_rule (yc (hR dv _ (λ_=>rfl) (λh=>absurd h (by omega)) (hm.mono q))))
 ·have hp:0<n:=by omega
  refine zd (zzM (W.item 0 s _ _ hp ad λv s' hP ae hm=>?_));have hS':=hm.heap S _ af hS;show wpAny _ A.in1 (updateSeq S (λ_=> #[v,v])>>=_) _ _ _
  refine zd (yyM hS' rfl ?_);rw[ah];refine yc ⟨plainId_quiet F.plain_min_loop _,Vp W bt aa hb S z dv v hP _ 0 _ _ rfl hp (W.frame _ s' _ s'.toks ae (zj _) λb ai o e=>(y0 _ _ (λh:S=b=>z (by rw[h];exact ai))).trans e) (zz6 _ hS' rfl) λag ac=>?_⟩;exact hR v ag (λh=>absurd h hn) (λ_=>hP) (Moved.trans W.gtrans ((hm.mono q).then_heap (by first|exact zj _|exact zzo _|omega) λb o hb e=>(y0 _ _ (ab hb)).trans e) ac)
end
def akD(a v:Value):argsOk "min" ⟨[a],[(Str.ofString "default",v)]⟩:=by unfold argsOk;kernel_rfl
section
variable{prog:Program}{w:World}{A:Around}{E:Value->Shared->Prop}{s:Shared}
def Ky{l:Addr}{its:List Value}{ns:List Int}{dv:Value}{Q:Value->Shared->Prop}(hh:A.in1.handled=none)(hl:s.heap.IsList l its.toArray)(hi:IntsAre its ns)(ad:ns.Pairwise (·<·))
  (hQ:∀v h' tk,(ns=[]->v=dv)->(∀n r,ns=n::r->∃t,v=.int n t)->(∀b o,s.heap.get? b=some o->h'.get? b=some o)->Q v {s with heap:=h',toks:=tk}):
  wpAny (model prog w) A (call (.builtin "min") [.ref l] [(Str.ofString "default",dv)]) Q E s:=by
 have ah:(toString "min" ++toString ".loop" :String)= "min.loop" :=by decide
 have ag:l<s.heap.objs.size:=by obtain⟨o,e,_⟩:=hl;exact zt e
 have aa:wpAny (model prog w) A.in1 (Builtin.«min» ⟨[.ref l],[(Str.ofString "default",dv)]⟩) (λai s'=>match ai with
   |.done f=>(match(Except.ok f:Result)with|.ok (.ret v)=>Q v s'|.ok _=>False|.error e=>E e s')
   |.again c'=>c'.quiet=true/\codeAny (model prog w) A c' (λr s'=>match r with|.ok (.ret v)=>Q v s'|.ok _=>False|.error e=>E e s') s') E s:=by
  show wpAny _ A.in1 (Builtin.Builtins.bindParams "min" ["key", "default"] 0 ⟨[],[(Str.ofString "default",dv)]⟩>>=_) _ _ s;refine zd (wpAny_of_eq (show Builtin.Builtins.bindParams "min" ["key", "default"] 0 ⟨[],[(Str.ofString "default",dv)]⟩=pure [none,some dv]from rfl) (zd (yc (zd (zzr hl ?_)))))
  have ia:∀(i:Nat) v,its.toArray[i]? =some v->∃t,v=.int (ns.getD i 0) t:=λi v e=>by
   rw[zz9]at e;have rv:=wz hi;have aj:i<its.length:=(zo.mp e).1;have af:i<ns.length:=by have:=rv.length;rw[za]at this;omega
   obtain⟨u,hu,ru⟩:=rv.get (show(ns.map V.int)[i]? =some (.int ns[i]) by rw[zh,zg af];rfl);rw[e]at hu;obtain rfl:=zw hu;obtain⟨t,rfl⟩:=ru;exact⟨t,by simp[af]⟩
  have q:its.length=ns.length:=by have:=(wz hi).length;rw[za]at this;exact this.symm
  refine zd (yyd ?_ (yj _));rw[ah];have W:=(Walks.list (prog:=prog) (w:=w) (A:=A.in1) hh s.heap.objs.size l (ye ag) its.toArray).toS;have e1:(s.heap.push {cls:=.type "list_iterator",data:=.fields #[.ref l,.int 0 0]}).objs.size=s.heap.objs.size+1:=zzZ ..;refine yc ⟨plainId_quiet F.plain_min_loop _,TJ W _ (CmpOf.ints_lt (λi=>ns.getD i 0) ia) (λj h0 hj=>?_) _ ?_ dv ?_ (yb _ rfl) λv s' h1 h2 hm=>?_⟩
  ·rw[zk,q]at hj
   have ae:0<ns.length:=by omega
   have:=y9.mp ad 0 j ae hj h0;have ej:ns.getD j 0=ns[j]:=by simp[hj]
   have e0:ns.getD 0 0=ns[0]:=by simp[ae]
   rw[ej,e0];exact ym (by omega)
  ·show(s.heap.push _).objs.size∉[s.heap.objs.size,l]
   rw[e1];simp only[zu,zl,or_false,not_or];exact⟨Nat.succ_ne_self _,λz=>absurd ag (Nat.not_lt.mpr (z▸zzo _))⟩
  ·exact⟨⟨_,zb _ (yb _ rfl),rfl,rfl⟩,hl.at λo e=>zb _ (zb _ e)⟩
  ·obtain⟨h',g,d,tk,os⟩:=s'
   obtain rfl:g=s.gens:=hm.gens;obtain rfl:d=s.drawn:=hm.drawn;obtain rfl:os=s.os:=hm.os;refine hQ v h' tk (λe=>h1 (by rw[zk,q,e];rfl)) (λn r e=>?_) λb o e=>hm.heap b o ?_ (zb _ (zb _ e))
   ·obtain⟨t,rfl⟩:=ia 0 v (h2 (by rw[zk,q,e];exact Nat.succ_pos _))
    exact⟨t,by rw[e];rfl⟩
   ·have ac:=zt e
    have e2:({s with heap:=s.heap.push {cls:=.type "list_iterator",data:=.fields #[.ref l,.int 0 0]}}:Shared).heap.objs.size=s.heap.objs.size+1:=e1;rw[e2];simp only[zu,zl,or_false,not_or];exact⟨λz=>absurd ac (Nat.not_lt.mpr (z▸zzo _)),ye ac⟩
 refine yyI (codeAny_call_builtin F.plain_min F.entry_min ?_);simp only[checkBuiltinCall,F.kind_min]
 cases ab:Manifest.signature? "min" with
 |none=>exact yc aa
 |some sig=>
  have ha':Bind.checkArgs "min" sig ⟨[.ref l],[(Str.ofString "default",dv)]⟩=pure ():=by simpa only[argsOk,ab] using akD (.ref l) dv
  simp only[ha'];exact yc aa
end
section
variable{X:Cx}
noncomputable def ZC(K:Fg_)(t:TA)(td:TE):TE:=λσ H Q=>t σ H λvs H1=>td σ H1 λy H2=>∃(a:Addr)(ns:List Int)(i:Int),vs=[.ref a]/\[y]=[.int i]/\SqL K H2 a (ns.map V.int)/\ns.Pairwise (·<·)/\Q (.int (ns.headD i)) H2
def ahL{e d:Expr}{t:TA}{td:TE}{p kpos pos:Pos}(hc:X.calm=true)(hg:Gl X "min") (hm:X.mg "min" =none) (ha:PA X [e] t) (hd:PE X d td)
  (he:backTo pos (starEach [e] X.env)=(false,eval e X.env)::backTo pos (starEach [] X.env):=by rfl) (hpl:(backTo pos (starEach [e] X.env)).any (·.1)=false:=by rfl):
  PE X (.Call (.Name "min" p) [e] [⟨some "default",d,kpos⟩] pos) (ZC X.K t td):=by
 intro pins s σ H Q I h;refine yT (xH I hg hm (show bootBuiltins "min" =some (.builtin "min")from by decide+kernel) ?_);refine callWith_kw (thn (ha pos pins s σ H _ I h) λus s1 ⟨vs,H1,I1,r,q1⟩=>?_) he hpl;have hk:PK X [⟨some "default",d,kpos⟩] (DG td Xj):=Vo hd agE;refine thn (hk pos pins s1 σ H1 (λzs H2=>∃(a:Addr)(ns:List Int)(i:Int),vs=[.ref a]/\zs=[.int i]/\SqL X.K H2 a (ns.map V.int)/\ns.Pairwise (·<·)/\Q (.int (ns.headD i)) H2) I1 q1) λws s2 ⟨zs,H2,I2,rz,a,ns,i,ev,ey,hS,z,q⟩=>?_;subst ev ey;obtain⟨u,rfl,ru⟩:=vals1 r;cases ru;obtain⟨v1,rfl,aa⟩:=vals1 rz;obtain⟨ab,rfl⟩:=aa;obtain⟨its,rv,pl,hz⟩:=I2.list hS;refine Ky (ns:=ns) (I.ok.hd hc) pl.isList (intsAre_of rv) z λv h' tk h1 h2 k=>⟨.int (ns.headD i),H2,I2.kept (t':=tk) k,?_,q⟩
 cases ns with
 |nil=>rw[h1 rfl];exact⟨_,rfl⟩
 |cons n r=>obtain⟨t,rfl⟩:=h2 n r rfl;exact⟨_,rfl⟩
def ap_tMinD{K:Fg_}{t:TA}{td:TE}{σ:St}{H:Hp}{Q:VK}:ZC K t td σ H Q=t σ H λvs H1=>td σ H1 λy H2=>∃(a:Addr)(ns:List Int)(i:Int),vs=[.ref a]/\[y]=[.int i]/\SqL K H2 a (ns.map V.int)/\ns.Pairwise (·<·)/\Q (.int (ns.headD i)) H2:=rfl
def Zc{K:Fg_}{t:TA}{td:TE}{e:Expr}(q:X.K=K)(h:PE X e (ZC X.K t td)):PE X e (ZC K t td):=q▸h
end
end L2
namespace L2
open PySem PySem.W PySem.Spec PyProof.Rows
section
variable{P:Program}{w:World}{A:Around}{E:Value->Shared->Prop}{s:Shared}
theorem Rw{b f:Bool}{Q:Bool->Shared->Prop}:∀(xs:List Value)(i:Nat),Q f s->KatLex P w A b f Q (xs.zip xs) i s
 |[],i,h=>h
 |x::xs,i,h=>kat_cons (SeqAt.EqAt.same x P w _ _ (kat_yes (Rw xs (i+1) h)))
end
def ap_break{D:Ends}{σ:St}{H:Hp}:agh D σ H=D.bk σ H:=rfl
section
variable{X:Cx}
def ahB{ys:List V}{ts:V->List Int}{m:Nat}(h1:∀y∈ys,(ts y).length=m)(h2:(ys.map ts).Nodup)(hn:1<=ys.length):
  Kok (λi j=>uY (ts (ys.getD i .non)) (ts (ys.getD j .non)) false) ys.length (λp=>Prm ys.length p/\SX ys ts p) (kas_sort ys.length):=by
 have hm:∀i,i<ys.length->(ts (ys.getD i .non)).length=m:=λi hi=>h1 _ (by simp[hi]);refine Kok.congr (λi j hi q=>?_) (XQ (ts:=ts) hn);rw[hm i hi,hm j q,ym (yM _)]
end
end L2
namespace L2
open PySem PySem.W PySem.Spec PySem.Calls PyProof.Rows
section
variable{X:Cx}
noncomputable def QX(K:Fg_):List V->Hp->VK->Prop:=λxs H Q=>∃(a:Addr)(ns:List Int),xs=[.ref a]/\SqL K H a (ns.map V.int)/\ns.length<64/\
 ∀p (ms:List Int),H p=none->ms.Perm ns->(ms.Pairwise λx y=>x<=y)->Q (.ref p) (upd H p (.lst (ms.map V.int)))
def Ua:mR X (.builtin "sorted") (QX X.K):=by
 intro pins s σ H xs us Q I r h;obtain⟨a,ns,rfl,hq,aa,q⟩:=h;obtain⟨u,rfl,rx⟩:=vals1 r;cases rx;obtain⟨its,z,pl,hz⟩:=I.list hq;have hi:IntsAre its ns:=intsAre_of z;have ab:its.length=ns.length:=by rw[<-z.length,za]
 refine sorted_ints pl.isList hi (by omega) λout ms h1 h2 h3=>?_;obtain⟨c,hc⟩:=sortedAll_at s.heap its out;refine⟨.ref (s.heap.objs.size+1),_,I.laid (t':=s.toks) (o:=.lst (ms.map V.int)) (λb o e=>sortedAll_old e) (zzo _) ?_,rfl,q _ _ (I.hok.fresh (zzo _)) h2 h3⟩;refine⟨by rw[za,h2.length_eq,zv];omega,out.toList,c,wz h1,?_⟩;rw[hc,Array.toArray_toList]
def Ax{K:Fg_}(q:X.K=K:=by rfl):mR X (.builtin "sorted") (QX K):=q▸Ua
def ap_rSortI{K:Fg_}{a:Addr}{H:Hp}{Q:VK}:QX K [.ref a] H Q=∃(ns:List Int),SqL K H a (ns.map V.int)/\ns.length<64/\
 ∀p (ms:List Int),H p=none->ms.Perm ns->(ms.Pairwise λx y=>x<=y)->Q (.ref p) (upd H p (.lst (ms.map V.int))):=by simp[QX]
end
end L2
namespace L2
open PySem PySem.W PySem.Spec PySem.Calls PyProof.Rows
noncomputable def Ft(v a:Addr):HO:=.ext λh=>h.IsItemsView v a
noncomputable def Iti(a:Addr)(o:Obj)(kvs:List (Key×V)):It:=⟨λi H=>H a=some (.frz o (.dK kvs))/\i<kvs.length,λi H x H'=>∃p k v,H p=none/\x=.ref p/\H'=upd H p (.tup [kV k,v])/\kvs[i]? =some (k,v),λi H=>H a=some (.frz o (.dK kvs))/\kvs.length<=i⟩
def YZ:entryFor table "dict_itemiterator.__iter__" =some Builtin.«dict_keyiterator.__iter__»:=entryFor_alias (id':= "dict_keyiterator.__iter__") (by kernel_rfl) (by decide+kernel) (by decide+kernel) (by kernel_rfl)
def Qv{P:Program}{w:World}{A:Around}{E:Value->Shared->Prop}{s:Shared}{it d:Addr}{i n ep:Nat}{ok ov:Value}{Q:Value->Shared->Prop}(q:IsItemIter s.heap it d i n ep ok ov)(h:Q (.ref it) s):wpAny (model P w) A (pyIter (.ref it)) Q E s:=by
 have z:s.TypeIs (.ref it) "dict_itemiterator" :=⟨_,q,rfl⟩;refine yyx z F.slot_dict_itemiterator_iter (yyc F.slot_dict_itemiterator_iter z YZ ?_ (F.args_dict_itemiterator_iter_1 _));show wpAny _ _ (ret (.ref it)) _ _ s;exact yc ⟨_,rfl, "dict_itemiterator",_,z,F.slot_dict_itemiterator_next.lookup,h⟩
def agm{P:Program}{w:World}{k:Key}{u:Value}(h:(jy P w).is k u=true):RelV (kV k) u:=by
 rcases kI h with⟨i,t,rfl,rfl⟩|⟨x,t,rfl,rfl⟩
 ·exact⟨t,rfl⟩
 ·exact⟨t,rfl⟩
def Uv{P:Program}{w:World}{K:Fg_}{elts:List Expr}{x1:Nat}{pos:Pos}{a it:Addr}{o:Obj}{kvs:List (Key×V)}{es:Array DictEntry}{ep:Nat}(ad:o.data=.dict es ep):Turn P w K (.Tuple elts x1 pos) (Iti a o kvs) [it] it (λi h=>∃ok ov,IsItemIter h it a i kvs.length ep ok ov) where
 mem:=by simp
 obj:=λi h st b hb=>by
  obtain rfl:b=it:=by simpa using hb
  obtain⟨ok,ov,e⟩:=st;exact⟨_,e,λv z=>by cases z⟩
 keep:=λi h h' st k=>let⟨ok,ov,e⟩:=st;⟨ok,ov,k it (by simp) _ e⟩
 item:=by
  intro X hP hw hK hc i pins s σ H E I hf st hg;subst hP hw hK;obtain⟨af,am⟩:=hg;obtain⟨vs,rel,ag⟩:=Kd I af ad;have ac:kvs.length=vs.length:=yG rel;obtain⟨⟨k0,v0⟩,hx⟩:∃q,vs[i]? =some q:=⟨_,zg (by omega)⟩;obtain⟨p,hp,e1,e2⟩:=sZ rel hx;obtain⟨ok,ov,aa⟩:=st;rw[ac]at aa;refine wpAny_pyNext_items_item aa ag (k:=k0) (v:=v0) hx λkey h' ah aj ak hsz ae=>?_;refine⟨_,rfl,wpAny_letOwnedTupleGo_items (s:={s with heap:=h'}) aj λal ab sb=>?_⟩;have an:s.heap.objs.size≠it:=zzg (zt aa)
  have k:∀c o,c∉[it]->s.heap.get? c=some o->al.get? c=some o:=λc o hc e=>by
   have hc':c≠it:=by simpa using hc
   exact(sb.2 c hc').trans (ae c o hc' e)
  have ai:al.get? s.heap.objs.size=some {cls:=.type "tuple",data:=.seq #[key,v0]}:=(sb.2 _ an).trans ak;rw[<-ac]at ab
  refine ⟨.ref s.heap.objs.size,upd H s.heap.objs.size (.tup [kV p.1,p.2]),I.turnedT (t':=s.toks) hf (zj _) k ⟨by rw[zv];simp,[key,v0],.cons (agm (by rw[show p.1=k0 from e1];exact ah)) (.cons e2 .nil),_,ai,rfl,_,rfl⟩,rfl,
   ⟨_,p.1,p.2,I.hok.fresh (zj _),rfl,rfl,hp⟩,⟨_,_,ab⟩,λc hb=>?_⟩
  obtain rfl:c=it:=by simpa using hb
  rw[iJ (ye (zt aa))];exact(hf c hb).1
 done:=by
  intro X hP hw hK hc i pins s σ H E I hf st hg;subst hP hw hK;obtain⟨af,am⟩:=hg;obtain⟨vs,rel,ag⟩:=Kd I af ad;have ac:kvs.length=vs.length:=yG rel;obtain⟨ok,ov,aa⟩:=st;rw[ac]at aa;obtain⟨f0,f1,f2,f3,f4,f5⟩:=hf it (by simp);exact wpAny_pyNext_items_end (I.ok.hd hc) aa ag (by simp;omega) λh' eb=>⟨rfl,I.turned (t':=s.toks) (λb o hb e=>eb b o hb e) f0 f1 f3 f4 f5⟩
 self:=λ_ _ _ _ _ ⟨_,_,st⟩ h=>Qv st h
section
variable{X:Cx}{elts:List Expr}{x1:Nat}{tpos:Pos}
noncomputable def ago(tl:TE):TI:=λσ H R=>tl σ H λx H1=>∃v a kvs,x=.ref v/\H1 v=some (Ft v a)/\H1 a=some (.dK kvs)/\∀o,R (Iti a o kvs) (upd H1 a (.frz o (.dK kvs)))
def Rj{l:Expr}{tl:TE}(hl:PE X l tl):PI X (.Tuple elts x1 tpos) l (ago tl):=by
 intro pins s σ H R I h;refine thn (hl pins s σ H _ I h) λu s1 ⟨x,H1,I1,r1,v,a,kvs,ex,hv,ha,q⟩=>?_;subst ex;cases r1;obtain⟨aa,_,_⟩:=(show lC X.prog X.w H1 s1.heap v (Ft v a)from I1.hok v _ hv);obtain⟨z,ab,vs,rel,o,es,ep,q1,q2,q3,q4⟩:=(show lC X.prog X.w H1 s1.heap a (.dK kvs)from I1.hok a _ ha);have ad:kvs.length=vs.length:=yG rel;have ac:s1.heap.DictAt (jy X.prog X.w) a vs ep:=⟨o,es,q1,q2,q3,q4⟩;refine wpAny_pyIter_items aa ac ?_;have I2:Inv X pins σ (upd H1 a (.frz o (.dK kvs))) s1:=I1.write (t':=s1.toks) (h':=s1.heap) (by rw[ha];exact True.intro) (.inl rfl) (λb u _ e=>e) ⟨o,q1⟩ (show lC X.prog X.w _ s1.heap a (.frz o (.dK kvs))from⟨q1,z,ab,vs,rel,o,es,ep,q1,q2,q3,q4⟩);refine⟨s1.heap.objs.size,[s1.heap.objs.size],_,_,_,rfl,I2.kept (t':=s1.toks) λb o e=>zb _ e,Uv q3,⟨.none,.none,by rw[ad];exact yb _ rfl⟩,λb hb=>?_,q o⟩;obtain rfl:b=s1.heap.objs.size:=by simpa using hb
 exact I2.fpOk (zj _) (I2.hok.fresh (zj _))
noncomputable def Vh:V->List V->Hp->VK->Prop:=λx vs H Q=>∃a kvs,x=.ref a/\vs=[]/\H a=some (.dK kvs)/\∀v,H v=none->Q (.ref v) (upd H v (Ft v a))
def RD:MtR X "dict.items" Vh:=by
 intro pins s σ H x vs v us Q I rx rv h;obtain⟨a,kvs,rfl,rfl,ha,q⟩:=h;cases rx;have ab:=rv.zero;subst ab;obtain⟨z,aa,ws,rel,dd⟩:=Us I.hok ha;refine zzz zzW dd.typeIs PySem.F.entry_dict_items (PySem.F.args_dict_items_1 _) (meets_dict_items (jy X.prog X.w) a aa) ⟨⟨ws,dd⟩,?_⟩;have hg:(s.heap.push {cls:=.type "dict_items",data:=.fields #[.ref a]}).IsItemsView s.heap.objs.size a:=⟨_,yb _ rfl,rfl,rfl⟩;exact⟨.ref s.heap.objs.size,_,I.laid (a:=s.heap.objs.size) (o:=Ft s.heap.objs.size a) (t':=s.toks) (λb o e=>zb _ e) (zj _) ⟨hg,⟨_,yb _ rfl⟩,λh1 h2 ⟨ov,e1,e2⟩ k=>⟨ov,k ov e1,e2⟩⟩,rfl,q _ (I.hok.fresh (zj _))⟩
end
section
variable{K:Fg_}{σ:St}{H:Hp}{Q:VK}{R:It->Hp->Prop}{tl:TE}{g:TG}{tt:TT}{te:TE}{cap:List (Option Nat)}{a:Addr}{o:Obj}{kvs:List (Key×V)}
def ap_iItems:ago tl σ H R=tl σ H λx H1=>∃v a kvs,x=.ref v/\H1 v=some (Ft v a)/\H1 a=some (.dK kvs)/\∀o,R (Iti a o kvs) (upd H1 a (.frz o (.dK kvs))):=rfl
def ap_rItems:Vh (.ref a) [] H Q=∃kvs,H a=some (.dK kvs)/\∀v,H v=none->Q (.ref v) (upd H v (Ft v a)):=by simp[Vh]
def jZ.itemsF(Sσ:St->Prop)(q:Key×V->Bool)(F:Key×V->V->Hp->Prop)(hH:H a=some (.frz o (.dK kvs)))(h0:Sσ (pI σ cap))(hz:kvs.length<=sizeLine)
  (hs:∀(D:Addr)(i:Nat)(z:Key×V),kvs[i]? =some z->∀(σ:St)(H5:Hp)(p:Addr)(R1:St->VK)(R2:St->Hp->Prop),Sσ σ->Same H H5->H D=Option.none->(∃acc,H5 D=some (.lst acc))->H5 p=Option.none->
   (q z=true->∀v σ4 H6,Sσ σ4->Same (upd H5 p (.tup [kV z.1,z.2])) H6->(∀H',But D H6 H'->F z v H')->R1 σ4 v H6)->(q z=false->∀σ4 H6,Sσ σ4->Same (upd H5 p (.tup [kV z.1,z.2])) H6->R2 σ4 H6)->
   g (.ref p) σ (upd H5 p (.tup [kV z.1,z.2])) λσ4 H4=>tt σ4 H4 λb H5=>if b=true then te σ4 H5 (R1 σ4)else R2 σ4 H5)
  (k:∀D H' acc,H D=Option.none->Same H H'->H' D=some (.lst acc)->acc.length=(kvs.filter q).length->(∀(i:Nat) v,acc[i]? =some v->∃z,(kvs.filter q)[i]? =some z/\F z v H')->Q (.ref D) H'):jZ cap (Iti a o kvs) g tt te σ H Q:=by
 intro D hD;refine⟨λi m acc σ H2=>m=kvs.length - i/\i<=kvs.length/\Sσ σ/\Same H H2/\acc.length=((kvs.take i).filter q).length/\∀(j:Nat) v,acc[j]? =some v->∃z,((kvs.take i).filter q)[j]? =some z/\∀H',But D H2 H'->F z v H',⟨kvs.length,rfl,yj _,h0,iG hD,rfl,λj v e=>by simp at e⟩,?_⟩;rintro i m acc σ1 H2 ⟨rfl,hi,hσ,sm,ad,hF⟩ hA;by_cases af:i<kvs.length
 ·refine .inr ⟨⟨sm _ _ hH,af⟩,λy H3 hy=>?_⟩
  obtain⟨p,k0,v0,hp,rfl,rfl,ag⟩:=hy;have htk:kvs.take (i+1)=kvs.take i++[(k0,v0)]:=by rw[yk,ag];rfl
  have al:((kvs.take i).filter q).length<=i:=yw (yV _ _) (by rw[yD];omega);have sn:=iG (o:=.tup [kV k0,v0]) hp;refine hs D i (k0,v0) ag σ1 H2 p _ _ hσ sm hD ⟨_,hA⟩ hp (λhf v σ4 H6 ae s6 aj=>?_) λhf σ4 H6 ae s6=>?_
  ·have ab:=sn.trans s6
   have ak:=ab _ _ hA;have ac:(kvs.take (i+1)).filter q=(kvs.take i).filter q++[(k0,v0)]:=by rw[htk,yS,yZ hf];rfl
   refine⟨acc,ak,by omega,kvs.length - (i+1),by omega,rfl,af,ae,(sm.trans ab).upd hD,by rw[yd,ad,ac,yd];rfl,λj u hj=>?_⟩;rw[ac];by_cases ah:j<acc.length
   ·rw[yL ah]at hj
    obtain⟨z,h1,h2⟩:=hF j u hj;refine⟨z,?_,λH' hb=>h2 H' λb o aa e=>hb b o aa ((iJ aa).trans (ab _ _ e))⟩;rw[yL (by omega)];exact h1
   ·rw[yI (by omega)]at hj
    have ai:j - acc.length=0:=by
     have:=(zo.mp hj).1;simp at this;omega
    rw[ai]at hj;cases hj;refine⟨(k0,v0),?_,λH' hb=>aj H' λb o aa e=>hb b o aa ((iJ aa).trans e)⟩;rw[yI (by omega),show j - ((kvs.take i).filter q).length=0 by omega];rfl
  ·have ab:=sn.trans s6
   have ac:(kvs.take (i+1)).filter q=(kvs.take i).filter q:=by rw[htk,yS,yR (by rw[hf];decide)];simp
   refine⟨kvs.length - (i+1),by omega,acc,ab _ _ hA,rfl,af,ae,sm.trans ab,by rw[ac,ad],λj u hj=>?_⟩;rw[ac];obtain⟨z,h1,h2⟩:=hF j u hj;exact⟨z,h1,λH' hb=>h2 H' λb o aa e=>hb b o aa (ab _ _ e)⟩
 ·obtain rfl:i=kvs.length:=by omega
  rw[yJ]at ad hF;refine .inl ⟨⟨sm _ _ hH,zj _⟩,k D H2 acc hD sm hA ad λj v e=>?_⟩;obtain⟨z,h1,h2⟩:=hF j v e;exact⟨z,h1,h2 H2 λb o _ e=>e⟩
end
end L2
namespace L2
open PySem PySem.W PySem.Spec PySem.Calls PyProof.Rows
noncomputable def Alike(ka kb:List (Key×V)):Prop:=ka.length=kb.length/\∀kv∈ka,∃i:Int,kv.2=.int i/\nY kb kv.1=some (.int i)
def ahv{A:Around}{s:Shared}{kb:List (Key×V)}{vb:List (Key×Value)}(rb:KV kb vb):∀{ka:List (Key×V)}{va:List (Key×Value)},KV ka va->(∀kv∈ka,∃i:Int,kv.2=.int i/\nY kb kv.1=some (.int i))->PySem.W.KeqHits A s vb va true:=by
 intro ka va r
 induction r with
 |nil=>intro _;exact .nil
 | @cons p q ps qs h t ih=>
  intro z;obtain⟨i,e1,e2⟩:=z p zm;obtain⟨h1,h2⟩:=h;rw[e1]at h2;obtain⟨t1,e3⟩:=(show∃t,q.2=Value.int i t from h2);obtain⟨y,hy,ry⟩:=Jy.some_of (v:=.int i) (o:=valueAt vb p.1) (by rw[<-e2];exact rb.val p.1);obtain⟨t2,e4⟩:=(show∃t,y=Value.int i t from ry);subst e4;have hh:PySem.W.KeqHits A s vb ((q.1,q.2)::qs) ((i==i) && true):=.hit (by rw[<-h1];exact hy) (by rw[e3];exact SeqAt.EqAt.int_int i t1 i t2) (ih λkv aa=>z kv (ya _ aa))
  simpa using hh
section
variable{X:Cx}
noncomputable def ajL:R2:=λx y H Q=>∃(a b:Addr)(ka kb:List (Key×V)),x=.ref a/\y=.ref b/\Rd H a (.dK ka)/\Rd H b (.dK kb)/\Alike ka kb/\Q (.bl false) H
def aic{k:Nat}(hr:qM k X.A):OpR X (compareOp .NotEq) ajL:=by
 intro pins s σ H x y v u Q I rx ry h;obtain⟨a,b,ka,kb,rfl,rfl,h1,h2,⟨hl,z⟩,q⟩:=h;have hr':=hr.units;cases rx;cases ry;obtain⟨_,s1,va,ra,da⟩:=KJ I.hok h1;obtain⟨_,s2,vb,rb,db⟩:=KJ I.hok h2;refine PySem.W.keq_ne s1 s2 da db (by omega) (λ_=>ahv rb ra z) ⟨.bl false,H,I,?_,q⟩;rw[<-ra.length,<-rb.length,hl];simp;rfl
def ap_neM{a b:Addr}{H:Hp}{Q:VK}:ajL (.ref a) (.ref b) H Q=∃(ka kb:List (Key×V)),Rd H a (.dK ka)/\Rd H b (.dK kb)/\Alike ka kb/\Q (.bl false) H:=by simp[ajL]
end
end L2
namespace L2
open PySem PySem.W PySem.Spec PySem.Calls PyProof.Rows
noncomputable def Itk(a:Addr)(o:Obj)(kvs:List (Key×V)):It:=⟨λi H=>H a=some (.frz o (.dK kvs))/\i<kvs.length,λi H x H'=>H'=H/\∃kv,kvs[i]? =some kv/\x=kV kv.1,λi H=>H a=some (.frz o (.dK kvs))/\kvs.length<=i⟩
def Yi{P:Program}{w:World}{A:Around}{E:Value->Shared->Prop}{s:Shared}{it d:Addr}{i n z:Nat}{Q:Value->Shared->Prop}(q:s.heap.IsKeyIter it d i n z)(h:Q (.ref it) s):wpAny (model P w) A (pyIter (.ref it)) Q E s:=by
 refine yyx q.typeIs F.slot_dict_keyiterator_iter (yyc F.slot_dict_keyiterator_iter q.typeIs F.entry_dict_keyiterator_iter ?_ (F.args_dict_keyiterator_iter_1 _));show wpAny _ _ (ret (.ref it)) _ _ s;exact yc ⟨_,rfl, "dict_keyiterator",_,q.typeIs,F.slot_dict_keyiterator_next.lookup,h⟩
def Wg{P:Program}{w:World}{K:Fg_}{tg:Expr}{a it:Addr}{o:Obj}{kvs:List (Key×V)}{es:Array DictEntry}{ep:Nat}(ab:o.data=.dict es ep):Turn P w K tg (Itk a o kvs) [it] it (λi h=>h.IsKeyIter it a i kvs.length ep) where
 mem:=by simp
 obj:=λi h st b hb=>by
  obtain rfl:b=it:=by simpa using hb
  obtain⟨oi,e,c,dd⟩:=st;exact⟨oi,e,λv z=>by rw[dd]at z;cases z⟩
 keep:=λi h h' st k=>let⟨oi,e,r⟩:=st;⟨oi,k it (by simp) oi e,r⟩
 item:=by
  intro X hP hw hK hc i pins s σ H E I hf st hg;subst hP hw hK;obtain⟨ad,ag⟩:=hg;obtain⟨vs,rel,ae⟩:=Kd I ad ab;have aa:kvs.length=vs.length:=yG rel;obtain⟨f0,f1,f2,f3,f4,f5⟩:=hf it (by simp);obtain⟨⟨k0,v0⟩,hx⟩:∃q,vs[i]? =some q:=⟨_,zg (by omega)⟩;obtain⟨p,hp,e1,e2⟩:=sZ rel hx;rw[aa]at st;refine wpAny_pyNext_dict_item st ae (k:=k0) (v:=v0) hx λkey h' af ac sb=>?_;have I1:Inv X pins σ H {s with heap:=h'}:=I.turned (t':=s.toks) (λb o hb e=>(sb.2 b hb).trans e) f0 f1 f3 f4 f5;obtain⟨oi,e,c,dd⟩:=id ac;rw[<-aa]at ac;exact⟨_,rfl,Uk (s:={s with heap:=h'}) e c dd (by decide) ⟨kV p.1,H,I1,agm (by rw[show p.1=k0 from e1];exact af),⟨rfl,p,hp,rfl⟩,ac,λb hb=>(hf b hb).1⟩⟩
 done:=by
  intro X hP hw hK hc i pins s σ H E I hf st hg;subst hP hw hK;obtain⟨ad,ag⟩:=hg;obtain⟨vs,rel,ae⟩:=Kd I ad ab;have aa:kvs.length=vs.length:=yG rel;obtain⟨f0,f1,f2,f3,f4,f5⟩:=hf it (by simp);rw[aa]at st;exact wpAny_pyNext_dict_end (I.ok.hd hc) st ae (by simp;omega) λh' eb=>⟨rfl,I.turned (t':=s.toks) (λb o hb e=>eb b o hb e) f0 f1 f3 f4 f5⟩
 self:=λ_ _ _ _ _ st h=>Yi st h
section
variable{X:Cx}{tg:Expr}
noncomputable def aii(tl:TE):TI:=λσ H R=>tl σ H λx H1=>∃a kvs,x=.ref a/\H1 a=some (.dK kvs)/\∀o,R (Itk a o kvs) (upd H1 a (.frz o (.dK kvs)))
def ahe{l:Expr}{tl:TE}(hl:PE X l tl):PI X tg l (aii tl):=by
 intro pins s σ H R I h;refine thn (hl pins s σ H _ I h) λu s1 ⟨x,H1,I1,r1,a,kvs,ex,ha,q⟩=>?_;subst ex;cases r1;obtain⟨z,aa,vs,rel,o,es,ep,q1,q2,q3,q4⟩:=(show lC X.prog X.w H1 s1.heap a (.dK kvs)from I1.hok a _ ha);have ac:kvs.length=vs.length:=yG rel;have ab:s1.heap.DictAt (jy X.prog X.w) a vs ep:=⟨o,es,q1,q2,q3,q4⟩;refine wpAny_pyIter_dict aa ab ?_;have I2:Inv X pins σ (upd H1 a (.frz o (.dK kvs))) s1:=I1.write (t':=s1.toks) (h':=s1.heap) (by rw[ha];exact True.intro) (.inl rfl) (λb u _ e=>e) ⟨o,q1⟩ (show lC X.prog X.w _ s1.heap a (.frz o (.dK kvs))from⟨q1,z,aa,vs,rel,o,es,ep,q1,q2,q3,q4⟩);refine⟨s1.heap.objs.size,[s1.heap.objs.size],_,_,_,rfl,I2.kept (t':=s1.toks) λb o e=>zb _ e,Wg q3,⟨_,yb _ rfl,rfl,by rw[ac];rfl⟩,λb hb=>?_,q o⟩;obtain rfl:b=s1.heap.objs.size:=by simpa using hb
 exact I2.fpOk (zj _) (I2.hok.fresh (zj _))
end
section
variable{K:Fg_}{σ:St}{H:Hp}{R:It->Hp->Prop}{tl:TE}{g:TG}{tb:TS}{D:Ends}{a:Addr}{o:Obj}{kvs:List (Key×V)}
def ap_iKeys:aii tl σ H R=tl σ H λx H1=>∃a kvs,x=.ref a/\H1 a=some (.dK kvs)/\∀o,R (Itk a o kvs) (upd H1 a (.frz o (.dK kvs))):=rfl
end
end L2
namespace L2
open PySem PySem.W PySem.Spec PySem.Calls PyProof.Rows
section
variable{X:Cx}
def Inv.thaw{pins:List (Addr×Obj)}{σ:St}{H:Hp}{s:Shared}{a:Addr}{o:Obj}{kvs:List (Key×V)}(I:Inv X pins σ H s)(hH:H a=some (.frz o (.dK kvs)))(hn:∀o u,X.H₀ a≠some (.frz o u)):Inv X pins σ (upd H a (.dK kvs)) s:=by
 have ne:∀b,H b=none->b≠a:=λb n z=>by rw[z,hH]at n;cases n
 have nt:∀b xs,H b=some (.tup xs)->b≠a:=λb xs n z=>by rw[z,hH]at n;cases n
 have nw:∀b y,H b=some (.own y)->b≠a:=λb y n z=>by rw[z,hH]at n;cases n
 have aa:∀b ps,H b=some (.tbl ps)->b≠a:=λb y n z=>by rw[z,hH]at n;cases n
 refine⟨I.ok,I.os,I.bare,⟨I.base.keep,I.base.slot,λb ob q n hx=>?_,I.base.there,λb xs q=>?_,λb ob u q=>?_,λb ps q=>?_⟩,I.loc,I.cell,?_,λx c e=>?_,λp hp=>?_,λb u e=>?_,I.len⟩
 ·have h:=I.base.free b ob q n hx;rw[iJ (ne b h)];exact h
 ·have h:=I.base.tups b xs q;rw[iJ (nt b xs h)];exact h
 ·have h:=I.base.frzs b ob u q;rw[iJ (λz:b=a=>hn ob u (by rw[<-z];exact q))];exact h
 ·obtain⟨m,h⟩:=I.base.tbls b ps q;exact⟨m,by rw[iJ (aa b _ h)];exact h⟩
 ·rw[iJ (ne _ I.free)];exact I.free
 ·rw[iJ (ne _ (I.freeC x c e))];exact I.freeC x c e
 ·obtain⟨p1,p2,p3⟩:=I.pin p hp;exact⟨p1,by rw[iJ (ne _ p2)];exact p2,p3⟩
 ·by_cases hb:b=a
  ·subst hb
   rw[iC]at e;cases e;obtain⟨_,q⟩:=(show lC X.prog X.w H s.heap b (.frz o (.dK kvs))from I.hok b _ hH);exact lC.stay q (λ_ _ _ q=>q) (λc q=>by rw[iJ (nw c _ q)];exact q) λc xs q=>by rw[iJ (nt c xs q)];exact q
  ·rw[iJ hb]at e
   exact(I.hok b u e).stay (λ_ _ _ q=>q) (λc q=>by rw[iJ (nw c _ q)];exact q) λc xs q=>by rw[iJ (nt c xs q)];exact q
end
end L2
namespace L2
open PySem PySem.Spec PyProof.Rows
section
variable{prog:Program}{w:World}{A:Around}{E:Value->Shared->Prop}{h:Heap}{g:Array GenState}{d:Drawn}{t:Nat}{os:OsState}{a:Addr}{o:Obj}
 {nm q:Str} {C N:Addr} {bs bm bmB:List Value} {hdct:Bool} {sn:List Str} {sub:List Value} {ab:Bool} {col:Option Bool} {dd:Option Addr} {k0 k1 k2 k3 k5:Option Value} {B newId initId:String} {K:Fg_}
end
end L2
namespace L2
open PySem PySem.Spec PyProof.Rows
structure akI(K:Fg_)(C fI:Addr):Prop where
 ex:∃(nm qn:Str)(N:Addr)(bs bm:List Value)(sn:List Str)(sub:List Value)(ab:Bool)(col:Option Bool)(dd:Option Addr)(k0 k1 k2 k3 k5:Option Value),K.lookup C=some (excClassObj nm qn C N bs bm true sn sub ab col dd k0 k1 k2 k3 k5 "ValueError.__new__")/\PySem.W.tailIn K [.type "ValueError",.type "Exception",.type "BaseException",.type "object"] bm=true
 ini:PySem.W.findIn K (.ref C) "__init__" =some (some (.ref fI))
 fn:PySem.W.isFn K (.ref fI)=true
 sa:PySem.W.findIn K (.ref C) "__setattr__" =some (some (.builtin "object.__setattr__"))
 kp:PySem.W.keepIn K (.ref C)=true
section
variable{X:Cx}{CX:CXT}{k:Nat}{f C:Addr}{fd:FuncData}{ps ks:List Str}{sp:Sp}{dvs:List V}{ds:List Value}{E:XK}{x m fn:Str}{p np cpos pos apos:Pos}{e o:Expr}{es:List Expr}{ta tv:TE}{t tk:TA}
structure akM(K:Fg_)(B:Addr):Prop where
 ga:PySem.W.specialIn K (.ref B) "__getattribute__" =some (some (.builtin "type.__getattribute__"))
 rd:PySem.W.readsIn K B (.type "type")=true
 fi:PySem.W.findCls K (.ref B) (.type "type") "__init__" =some (.val (.builtin "ValueError.__init__"))
end
end L2
namespace L2
open PySem PySem.W PySem.Spec PyProof.Rows
section
variable{X:Cx}{K:Fg_}{a:Addr}{kvs:List (Key×V)}{pins:List (Addr×Obj)}{σ:St}{H:Hp}{s:Shared}
def Ud{t:TS}{z aa:List Stmt}{x:Option Expr}{n:Option Str}{ab pos:Pos}(h:PSs X.nox z t):PS X.nox (.Try z [.ExceptHandler x n aa ab] [] [] pos) t:=by
 intro pins s σ H D I hw;refine wpAny_Try_except (yP (h pins s σ H D I hw) (λf s1 q=>?_) λev s' hx=>hx.elim)
 cases f with
 |next=>exact yyg q
 |brk=>exact q
 |cont=>exact q
 |ret u=>exact q
variable{td ty:TE}{Q:VK}{w:World}
end
end L2
namespace HT
open PySem PyProof.Rows
noncomputable def lexLe:List Int->List Int->Bool
 |[],_=>true
 |_::_,[]=>false
 |x::xs,y::ys=>if x=y then lexLe xs ys else decide (x<=y)
def Yv(A:Around)(s:Shared)(a:Int)(t:Tok)(c:Int)(u:Tok)(prog:Program)(w:World)(E:Value->Shared->Prop)(Q:Value->Shared->Prop)(h:Q (.bool (decide (a<=c))) s):
  wpAny (model prog w) A (richCompare .LtE (.int a t) (.int c u)) Q E s:=
 (PyProof.Rows.le_int h:wpAny (model prog w) A (compareOp .LtE (.int a t) (.int c u)) Q E s)
section
open PySem.SeqAt
open PySem.AutoSeq1 (wpAny_loadPart')
open PySem.MeetsSeq PySem.MeetsSeq2 PySem.MeetsSeq3
def LC(l b:Addr)(xa xb:Array Value)(na nb:Nat)(da db:Option Addr)(sa sb:Array (Option Value))(ns ms:List Int)(hi:IntsAre xa.toList ns)(hj:IntsAre xb.toList ms):
  Meets (Builtin.«tuple.__le__» ⟨[.ref l,.ref b],[]⟩)
   (λ_ R s=>s.heap.get? l=some {cls:=.type "tuple",dict:=da,data:=.seq xa na,slots:=sa}/\s.heap.get? b=some {cls:=.type "tuple",dict:=db,data:=.seq xb nb,slots:=sb}/\
    R (.ok (.ret (.bool (lexLe ns ms)))) s):=
 .of_wp λprog w A R s h=>by
  obtain⟨hp,g,d,tk,os⟩:=s;obtain⟨hl,hb,h⟩:=h;have f2:=AutoSeq1.sub_tuple_tuple;have z1:xa.size=ns.length:=by rw[<-hi.length];simp
  have z2:xb.size=ms.length:=by rw[<-hj.length];simp
  wp_walk using wpAny_loadPart' hl,wpAny_loadPart' hb,wpAny_forIn_list _ (λrest b s'=>b.1=none/\s'=⟨hp,g,d,tk,os⟩/\∃(vs ws:List Value)(np mp:List Int),rest=vs.zip ws/\
   IntsAre vs np/\IntsAre ws mp/\np.length+xb.size=mp.length+xa.size/\R (.ok (.ret (.bool (lexLe np mp)))) ⟨hp,g,d,tk,os⟩) _
  case turn=>
   rintro⟨y,x⟩ rest b s'⟨ad,rfl,vs,ws,np,mp,hz,ab,ac,z,hR⟩
   cases ab with
   |nil=>rw[List.zip_nil_left]at hz;cases hz
   |cons a t hvi'=>cases ac with
    |nil=>rw[List.zip_nil_right]at hz;cases hz
    |cons c u hwi'=>
     rw[zzV]at hz;injection hz with hyx hrest
     injection hyx with hy hx
     subst hy hx;unfold lexLe at hR;simp only[yo]at z;obtain⟨e,he,aa⟩:=Yw A.in1 ⟨hp,g,d,tk,os⟩ a t c u;refine zd (he prog w _ _ ?_)
     cases e with
     |true=>
      rw[zn (aa.mp rfl)]at hR
      wp_walk
      exact⟨rfl,rfl,_,_,_,_,hrest,hvi',hwi',by omega,hR⟩
     |false=>
      rw[ze (λq=>absurd (aa.mpr q) yp)]at hR;have ae:=Yv A.in1 ⟨hp,g,d,tk,os⟩ a t c u prog w
      wp_walk using ae
      exact⟨_,rfl,by simpa using hR⟩
  case fin=>
   rintro⟨b1,b2⟩ s'⟨ad,rfl,vs,ws,np,mp,hz,ab,ac,z,hR⟩;simp only at ad;subst ad
   have hv:lexLe np mp=decide (xa.size<=xb.size):=by
    cases ab with
    |nil=>
     simp only[zzC]at z;unfold lexLe;exact(yf (by omega)).symm
    |cons a t hv=>cases ac with
     |nil=>
      simp only[zzC,yo]at z;unfold lexLe;exact(ym (by omega)).symm
     |cons c u hw=>rw[zzV]at hz;cases hz
   rw[hv]at hR
   wp_walk
   exact⟨_,rfl,by simpa [Builtin.Tuple.tupleCompareSizes] using hR⟩
  case h=>exact⟨rfl,rfl,xa.toList,xb.toList,ns,ms,rfl,hi,hj,by omega,h⟩
end
section
variable{prog:Program}{w:World}{A:Around}{E:Value->Shared->Prop}{s:Shared}
def le_tupInts{l b:Addr}{xa xb:Array Value}{ns z:List Int}{Q:Value->Shared->Prop}(hl:IsTup s.heap l xa)(hb:IsTup s.heap b xb)(hi:IntsAre xa.toList ns)(hj:IntsAre xb.toList z)(hu:A.units<cLine)
  (h:Q (.bool (lexLe ns z)) s):wpAny (model prog w) A (compareOp .LtE (.ref l) (.ref b)) Q E s:=by
 obtain⟨⟨cls,dd,data,sl⟩,ho,hc,n,hd⟩:=id hl;obtain⟨⟨af,ae,ac,ad⟩,ab,q,n2,aa⟩:=id hb;simp only at hc hd q aa;subst hc hd q aa
 exact richCompare_meets_room (op:=.LtE) ⟨_,ho,rfl⟩ ⟨_,ab,rfl⟩ PySem.F.slot_tuple_le PySem.F.entry_tuple_le (PySem.F.args_tuple_le_2 _ _) (LC l b xa xb n n2 dd ae sl ad ns z hi hj)
  ⟨ho,ab,show Value.bool (lexLe ns z)≠Value.notImplemented/\Q (.bool (lexLe ns z)) s from⟨(λx=>nomatch x),h⟩⟩ hu
end
end HT
namespace L2
open PySem PySem.W PySem.Spec PySem.Calls PyProof.Rows
section
variable{X:Cx}
noncomputable def akE(K:Fg_):R2:=λx y H Q=>∃a b ns ms,x=.ref a/\y=.ref b/\SqT K H a (ns.map V.int)/\SqT K H b (ms.map V.int)/\Q (.bl (HT.lexLe ns ms)) H
def agT{K:Fg_}{k:Nat}(hr:qM k X.A)(hK:X.K=K:=by rfl):OpR X (compareOp .LtE) (akE K):=by
 subst hK;intro pins s σ H x y v u Q I rx ry h;obtain⟨a,b,ns,ms,rfl,rfl,ha,hb,q⟩:=h;cases rx;cases ry;obtain⟨its,r1,p1,_⟩:=I.tuple ha;obtain⟨z,r2,p2,_⟩:=I.tuple hb;exact HT.le_tupInts p1 p2 (show IntsAre its.toArray.toList ns from intsAre_of r1) (show IntsAre z.toArray.toList ms from intsAre_of r2) hr.units0 ⟨.bl (HT.lexLe ns ms),H,I,rfl,q⟩
noncomputable def agz(H0:Hp)(t:TE):TE:=λσ H Q=>t σ H λv H1=>∃a o kvs,H1 a=some (.frz o (.dK kvs))/\(∀o u,H0 a≠some (.frz o u))/\Q v (upd H1 a (.dK kvs))
def Qj{e:Expr}{t:TE}(h:PE X e t):PE X e (agz X.H₀ t):=by
 intro pins s σ H Q I q;exact thn (h pins s σ H _ I q) λv s1 ⟨x,H1,I1,z,a,o,kvs,h1,h2,h3⟩=>⟨x,_,I1.thaw h1 h2,z,h3⟩
def ap_thawV{H0:Hp}{t:TE}{σ:St}{H:Hp}{Q:VK}:agz H0 t σ H Q=t σ H λv H1=>∃a o kvs,H1 a=some (.frz o (.dK kvs))/\(∀o u,H0 a≠some (.frz o u))/\Q v (upd H1 a (.dK kvs)):=rfl
end
end L2
namespace L2
open PySem PySem.W PySem.Spec PySem.Calls PyProof.Rows
section
variable{X:Cx}
theorem Sv(f:Nat->Int):∀k:Nat,argBest (λi j=>decide (f i>f j)) k<=k/\∀i,i<=k->f i<=f (argBest (λi j=>decide (f i>f j)) k)
 |0=>⟨by simp[argBest],λi hi=>by cases Nat.le_zero.mp hi;simp[argBest]⟩
 |k+1=>by
  obtain⟨h1,h2⟩:=Sv f k;rw[argBest];by_cases h:f (k+1)>f (argBest (λi j=>decide (f i>f j)) k)
  ·rw[zn (yf h)]
   refine⟨zj _,λi hi=>?_⟩;rcases Nat.lt_or_ge i (k+1)with q|q
   ·have:=h2 i (by omega);omega
   ·have:i=k+1:=by omega
    subst this;exact zzX _
  ·rw[ze (by simpa using h)]
   refine⟨by omega,λi hi=>?_⟩;rcases Nat.lt_or_ge i (k+1)with q|q
   ·exact h2 i (by omega)
   ·have:i=k+1:=by omega
    subst this;omega
noncomputable def Zz(K:Fg_):List V->Hp->VK->Prop:=λxs H Q=>∃(a:Addr)(ns:List Int),xs=[.ref a]/\SqL K H a (ns.map V.int)/\ns≠[]/\∀m,m∈ns->(∀x∈ns,x<=m)->Q (.int m) H
def WP(hc:X.calm=true):mR X (.builtin "max") (Zz X.K):=by
 intro pins s σ H xs us Q I r h;obtain⟨a,ns,rfl,hq,ac,q⟩:=h;obtain⟨u,rfl,rx⟩:=vals1 r;cases rx;obtain⟨its,rv,pl,hz⟩:=I.list hq;have ae:its.length=ns.length:=by rw[<-rv.length,za]
 have hl:=pl.isList;have ab:a<s.heap.objs.size:=by obtain⟨o,e,_⟩:=hl;exact zt e
 have af:0<ns.length:=y8.mpr ac
 have ia:∀(i:Nat) v,its.toArray[i]? =some v->∃t,v=.int (ns.getD i 0) t:=λi v e=>by
  rw[zz9]at e;have hi:i<its.length:=(zo.mp e).1;have aa:i<ns.length:=by omega
  obtain⟨u,hu,ru⟩:=rv.get (show(ns.map V.int)[i]? =some (.int ns[i]) by rw[zh,zg aa];rfl);rw[e]at hu;obtain rfl:=zw hu;obtain⟨t,rfl⟩:=ru;exact⟨t,by simp[aa]⟩
 refine call_max_walk (zzr hl ?_);refine⟨_,_,_,_,_,_,_,rfl,Walks.list (prog:=X.prog) (w:=X.w) (A:=X.A.in1) (I.ok.hd hc) s.heap.objs.size a (ye ab) its.toArray,?_,?_,by rw[zk];omega,CmpOf.ints_gt (λi=>ns.getD i 0) ia,λv h' tk hP hk=>?_⟩
 ·exact⟨⟨_,yb _ rfl,rfl,rfl⟩,hl.at λo e=>zb _ e⟩
 ·intro b hb
  rw[zzZ];simp only[zu,zl,or_false]at hb;rcases hb with rfl|rfl
  ·exact yya _
  ·exact yyv ab
 ·obtain⟨t,rfl⟩:=ia _ v hP
  have hb:=Sv (λi=>ns.getD i 0) (its.toArray.size - 1);rw[zk]at hb;have ad:argBest (λi j=>decide (ns.getD i 0>ns.getD j 0)) (its.length - 1)<ns.length:=by have:=hb.1;omega
  refine⟨.int _,H,I.kept (t':=tk) (λb o e=>hk b o (λz=>?_) (zb _ e)),⟨_,rfl⟩,q _ ?_ λx hx=>?_⟩
  ·simp only[zu,zl,or_false]at z
   subst z;exact absurd (zt e) (yM _)
  ·rw[zk]
   have e:∀k0,k0<ns.length->ns.getD k0 0∈ns:=λk0 h=>by
    have:ns.getD k0 0=ns[k0]:=by simp[h]
    rw[this];exact zzi h
   exact e _ ad
  ·obtain⟨j,hj,ej⟩:=yC hx
   have:=hb.2 j (by omega);rw[zk];have e:ns.getD j 0=x:=by simp[hj,ej]
   rw[<-e];exact this
def Tr{K:Fg_}(z:X.calm=true)(q:X.K=K:=by rfl):mR X (.builtin "max") (Zz K):=q▸WP z
def ap_rMaxL{K:Fg_}{a:Addr}{H:Hp}{Q:VK}:Zz K [.ref a] H Q=∃(ns:List Int),SqL K H a (ns.map V.int)/\ns≠[]/\∀m,m∈ns->(∀x∈ns,x<=m)->Q (.int m) H:=by simp[Zz]
end
section
variable{P:Program}{w:World}{A:Around}{E:Value->Shared->Prop}{s:Shared}
theorem Wm{b f:Bool}{Q:Bool->Shared->Prop}:∀{ms ns:List Int}{r r':List V}{xs ys:List Value},Vals (ms.map V.int++r) xs->Vals (ns.map V.int++r') ys->ms.length=ns.length->ms≠ns->∀i,Q (uY ms ns false) s->KatLex P w A b f Q (xs.zip ys) i s
 |[],[],_,_,_,_,_,_,_,hne,_,_=>(hne rfl).elim
 |[],_::_,_,_,_,_,_,_,hl,_,_,_=>by simp at hl
 |_::_,[],_,_,_,_,_,_,hl,_,_,_=>by simp at hl
 |m::ms,n::ns,_,_,_,_,r,r',hl,hne,i,h=>by
  rw[zf,zzN]at r r'
  cases r with
  |cons a1 a2=>
  cases r' with
  |cons b1 b2=>
  obtain⟨t,rfl⟩:=a1;obtain⟨t',rfl⟩:=b1;rw[zzV];refine kat_cons (yyE ?_);by_cases e:m=n
  ·rw[show(m==n)=true by simp[e]]
   refine kat_yes (Wm a2 b2 (by simpa using hl) (λz=>hne (by rw[e,z])) (i+1) ?_)
   rwa [uY,zn e]at h
  ·rw[show(m==n)=false by simp[e]]
   refine kat_no ?_;rw[uY,ze e]at h
   cases q:(b && i==0)with
   |true=>exact oneLt_int h
   |false=>exact kat_one _ _ (lt_int h)
def Yo{G:Array Nat->Prop}{a:Addr}{us:List Value}{n m0:Nat}{R:PySem.Fin->Shared->Prop}(ks:Nat->List Int)(ab:s.heap.get? a=some (seqObj "list" us.toArray n)) (ae:us.length<64)
  (hT:∀i,i<us.length->(ks i).length=m0+1/\∃b o xs m r,us.getD i Value.none=.ref b/\b≠a/\s.heap.get? b=some o/\o.cls=.type "tuple" /\o.data=.seq xs m/\Vals ((ks i).map V.int++r) xs.toList)
  (an:∀i j,i<us.length->j<us.length->i≠j->ks i≠ks j)
  (hG:0<us.length->Kok (λi j=>uY (ks i) (ks j) false) us.length G (kas_sort us.length)) (aj:us.length<2->G (List.range us.length).toArray) (al:∀p,G p->Prm us.length p)
  (af:∀p:Array Nat,G p->R (.done (.ret .none)) {s with heap:=sortedHeap s.heap a us (List.toArray (p.toList.map λi=>us.getD i Value.none))}):
  wpAny (model P w) A (Builtin.«list.sort» ⟨[.ref a],[]⟩) R E s:=by
 have av:a<s.heap.objs.size:=zt ab;have ag:us.toArray.size=us.length:=by simp
 rw[list_sort_plain];refine zd (listItems_at ab rfl ?_);refine zd (listUpdate_at ab rfl ?_ (by rw[ag,zv];omega) (yj _));obtain⟨e1,ac⟩:∃e1,(s.heap.update a (Obj.mapSeq λ_=> #[])).get? a=some (seqObj "list" #[] e1):=⟨_,get?_update_seq ab (λ_=> #[])⟩;refine zd (seqEpoch_at ac rfl ?_);refine zd (wpAny_newTuple ?_ (by show us.length<=_;rw[zv];omega));refine zd (yyd ?_ (yj _));refine yW ?_
 have keep:∀b o,b≠a->s.heap.get? b=some o->(((s.heap.update a (Obj.mapSeq λ_=> #[])).push (seqObj "tuple" us.toArray 0)).push (seqObj "list" #[] 0)).get? b=some o:=λb o hb e=>
  zb _ (zb _ ((yO _ _ _ _ hb).trans e))
 have ap:∀b xs,b≠a->s.heap.IsTuple b xs->(((s.heap.update a (Obj.mapSeq λ_=> #[])).push (seqObj "tuple" us.toArray 0)).push (seqObj "list" #[] 0)).IsTuple b xs:=λb xs hb ⟨o,e,r⟩=>⟨o,keep b o hb e,r⟩;have q:(((s.heap.update a (Obj.mapSeq λ_=> #[])).push (seqObj "tuple" us.toArray 0)).push (seqObj "list" #[] 0)).get? a=some (seqObj "list" #[] e1):=zb _ (zb _ ac);show wpAny (model P w) A _ R E {s with heap:=((s.heap.update a (Obj.mapSeq λ_=> #[])).push (seqObj "tuple" us.toArray 0)).push (seqObj "list" #[] 0)};dsimp only;by_cases h2:us.toArray.size<2
 ·rw[zn h2,zn h2]
  refine zd (yc ?_);rw[StateT.run_pure];refine zd (yc ?_);dsimp only
  have ad:=kat_snds (ks:=us) (vs:=us) rfl (st:=SortSt.mk' general' (us.toArray.zip us.toArray) #[] 7 none) (p:=(List.range us.length).toArray) (by
   have e:=kas_range (us.toArray.zip us.toArray);rw[show(us.toArray.zip us.toArray).size=us.length by simp]at e;exact e.symm)
  rw[ad];refine zd (seqEpoch_at q rfl ?_);refine zd (listUpdate_at q rfl ?_ (yj _) (by rw[zv];simp;omega));simp only[bne_self_eq_false,zzd,if_false];exact yc (af _ (aj (by rw[<-ag];exact h2)))
 ·rw[ze h2,ze h2]
  have hn:0<us.length:=by omega
  obtain ⟨ff,k1,k2,k3⟩:=Qs (h:=((s.heap.update a (Obj.mapSeq λ_=> #[])).push (seqObj "tuple" us.toArray 0)).push (seqObj "list" #[] 0)) (us:=us) (by
   intro v hv;obtain⟨i,hi,e⟩:=yC hv;obtain⟨g0,b,o,xs,m,r,g1,g2,g3,g4,g5,g6⟩:=hT i hi;have e2:us.getD i Value.none=v:=by rw[<-e];simp[hi]
   cases hq:ks i with
   |nil=>rw[hq]at g0;cases g0
   |cons z zs=>
    rw[hq,zf,zzN]at g6
    cases hx:xs.toList with
    |nil=>rw[hx]at g6;cases g6
    |cons u ur=>
     rw[hx]at g6
     cases g6 with
     |cons r1 r2=>
     obtain⟨t,rfl⟩:=r1;refine⟨b,o,xs,m,z,t,e2.symm.trans g1,keep _ _ g2 g3,g4,g5,?_⟩;rw[<-zzk,hx];rfl)
  refine zd (kat_kind k1 (by omega) (λv hv=>?_) (T:=.type "int") rfl ?_)
  ·obtain⟨i,t,rfl⟩:=k3 v hv
   exact Looks.of_pure rfl
  refine zd (yP (kat_run (ks:=us) (vs:=us) (Q:=λaa s'=>∃p:Array Nat,arrOf aa=p.map (kas_item (us.toArray.zip us.toArray))/\failedOf aa=none/\G p/\s'={s with heap:=((s.heap.update a (Obj.mapSeq λ_=> #[])).push (seqObj "tuple" us.toArray 0)).push (seqObj "list" #[] 0)})
   (G:=λp s'=>G p/\s'={s with heap:=((s.heap.update a (Obj.mapSeq λ_=> #[])).push (seqObj "tuple" us.toArray 0)).push (seqObj "list" #[] 0)}) rfl (by omega) ae (λp aa s' a1 a2 a3 a4=>⟨p,a2,a3,a4.1,a4.2⟩)
   (Kok.wp (lt:=λi j=>uY (ks i) (ks j) false) (λi j C hi hj hC=>?_) (hG hn) λp hp=>⟨hp,rfl⟩)) ?_ λ_ _ e=>e)
  ·obtain⟨l1,b,o,xs,m,r,g1,g2,g3,g4,g5,g6⟩:=hT i hi
   obtain⟨l2,b',o',as,m',r',aq,ao,ak,au,ar,am⟩:=hT j hj;show wpAny _ _ (keyLt' _ (us.getD i Value.none) (us.getD j Value.none)) _ _ _;by_cases ah:i=j
   ·subst ah
    rw[g1];refine kat_lt (keep _ _ g2 g3) g5 (keep _ _ g2 g3) g5 (Rw _ 0 ?_);rw[PB]at hC;rw[ym (yM _)];exact hC
   ·rw[g1,aq]
    exact kat_lt (keep _ _ g2 g3) g5 (keep _ _ ao ak) ar (Wm g6 am (l1.trans l2.symm) (an i j hi hj ah) 0 hC)
  ·rintro⟨⟨⟩,aa⟩ s'⟨p,ad,hf,hp,rfl⟩
   dsimp only;rw[kat_snds (ks:=us) (vs:=us) rfl ad];have ai:p.toList.length=us.length:=by rw[(al p hp).length_eq];simp
   refine zd (seqEpoch_at q rfl ?_);refine zd (listUpdate_at q rfl ?_ (yj _) (by rw[zv];simp at ai⊢;omega));rw[hf];simp only[bne_self_eq_false,zzd,if_false];exact yc (af p hp)
end
section
variable{X:Cx}
noncomputable def Ro(K:Fg_):List V->Hp->VK->Prop:=λxs H Q=>∃(a:Addr)(ys:List V)(ts:V->List Int)(m:Nat),xs=[.ref a]/\SqL K H a ys/\ys.length<64/\(ys.map ts).Nodup/\
 (∀y∈ys,(ts y).length=m+1/\∃b r,y=.ref b/\SqT K H b ((ts y).map V.int++r))/\
 ∀p zs,H p=none->zs.Perm ys->(zs.Pairwise λy z=>uY (ts y) (ts z) false=true)->Q (.ref p) (upd H p (.lst zs))
def TF:mR X (.builtin "sorted") (Ro X.K):=by
 intro pins s σ H xs us Q I r h;obtain⟨a,ys,ts,m0,rfl,hq,ak,ac,hT,q⟩:=h;obtain⟨u,rfl,rx⟩:=vals1 r;cases rx;obtain⟨its,rv,pl,hz⟩:=I.list hq;have z:ys.length=its.length:=rv.length;have hl:=pl.isList;refine Calls.call_function_entry kind_sorted plain_sorted entry_sorted (args_sorted1 _) ?_;unfold Builtin.«sorted»;refine zd (m:=checkCount "sorted" 1 1 _) (yc ?_);refine zd (collect_list hl ?_ (by omega));refine zd (yyd ?_ (by omega));have hsz:((s.heap.push (seqObj "list" #[] 0)).update s.heap.objs.size (Obj.mapSeq (·++its.toArray))).objs.size=s.heap.objs.size+1:=by rw[yyD,size_push']
 have ad:(((s.heap.push (seqObj "list" #[] 0)).update s.heap.objs.size (Obj.mapSeq (·++its.toArray))).push (seqObj "list" its.toArray 0)).get? (s.heap.objs.size+1)=some (seqObj "list" its.toArray 0):=by rw[<-hsz];exact yb _ rfl
 have keep:∀b o,s.heap.get? b=some o->(((s.heap.push (seqObj "list" #[] 0)).update s.heap.objs.size (Obj.mapSeq (·++its.toArray))).push (seqObj "list" its.toArray 0)).get? b=some o:=λb o e=>
  zb _ ((yO _ _ _ _ (ye (zt e))).trans (zb _ e))
 show wpAny _ _ _ _ _ {s with heap:=((s.heap.push (seqObj "list" #[] 0)).update s.heap.objs.size (Obj.mapSeq (·++its.toArray))).push (seqObj "list" its.toArray 0)};rw[hsz];have af:∀y∈ys,(ts y).length=m0+1:=λy hy=>(hT y hy).1;refine zd (yW (yyc slot_list_sort ⟨_,ad,rfl⟩ entry_list_sort (Yo (m0:=m0) (G:=λp=>Prm its.length p/\SX ys ts p) (λi=>ts (ys.getD i .non)) ad (by omega) (λi hi=>?_) (λi j hi hj ab e=>ab ?_) (λhn=>z▸ahB af ac (by omega)) (λh2=>⟨zz3 _,λm _ _ a b ah hb=>absurd ah (by omega)⟩) (λp hp=>hp.1) λp ai=>⟨_,rfl,yc ⟨_,rfl,?_⟩⟩) (args_list_sort _)))
 ·have hm:ys.getD i .non∈ys:=by
   have:i<ys.length:=by omega
   simp[this]
  obtain⟨g0,b,rr,e,hb⟩:=hT _ hm;obtain⟨tv,rt,it,al⟩:=I.tuple hb;obtain⟨o,ho,hc,m,hd⟩:=it;refine⟨g0,b,o,tv.toArray,m,rr,?_,?_,keep _ _ ho,hc,hd,rt⟩
  ·have:=Bw rv (i:=i) (by omega)
   rw[e]at this;exact this
  ·exact ye (yyv (zt ho))
 ·refine(zz1 (by rw[za];omega) ac).mp ?_
  rw[zh,zh,zg (show i<ys.length by omega),zg (show j<ys.length by omega)];have q1:ys.getD i .non=ys[i]'(by omega):=by simp[show i<ys.length by omega]
  have q2:ys.getD j .non=ys[j]'(by omega):=by simp[show j<ys.length by omega]
  rw[q1,q2]at e;exact congrArg some e
 ·obtain⟨hp,ae⟩:=ai
  have aj:∀i∈p.toList,i<ys.length:=λi hi=>by
   have:=y4.mp (hp.mem_iff.mp hi);omega
  have aa:p.toList.length=its.length:=by rw[hp.length_eq];simp
  have ag:(p.toList.map λi=>ys.getD i V.non).Perm ys:=by
   have:=hp.map λi=>ys.getD i V.non;rw[<-z,Iz]at this;exact this
  have kp:∀b o,s.heap.get? b=some o->(sortedAll s.heap its (List.toArray (p.toList.map λi=>its.getD i Value.none))).get? b=some o:=λb o e=>by
   have hb:b≠s.heap.objs.size+1:=ye (yyv (zt e));exact(yO _ _ _ _ hb).trans (zb _ (zb _ ((yO _ _ _ _ hb).trans (keep b o e))))
  obtain ⟨c,hc⟩:∃c,(sortedAll s.heap its (List.toArray (p.toList.map λi=>its.getD i Value.none))).get? (s.heap.objs.size+1)=some (seqObj "list" (List.toArray (p.toList.map λi=>its.getD i Value.none)) c):=
   ⟨_,get?_update_seq (zb _ (zb _ (get?_update_seq ad (λ_=> #[])))) _⟩
  refine⟨.ref (s.heap.objs.size+1),_,I.laid (t':=s.toks) kp (zzo _) (show lC X.prog X.w _ _ _ (.lst (p.toList.map λi=>ys.getD i V.non))from⟨?_,_,c,Gx rv aj,hc⟩),rfl,q _ _ (I.hok.fresh (zzo _)) ag ?_⟩
  rotate_left
  ·refine y9.mpr λi j hi hj ab=>?_
   rw[za,aa,<-z]at hj;have h3:=ae (m0+1) af ac i j ab hj;have hs:p.size=ys.length:=by rw[<-yN,aa,z]
   have e1:p.getD i 0=p.toList[i]'(by rw[yN];omega):=by simp[Array.getD,show i<p.size by omega]
   have e2:p.getD j 0=p.toList[j]'(by rw[yN];omega):=by simp[Array.getD,show j<p.size by omega]
   rw[e1,e2]at h3;rw[zzj,zzj];exact h3
  rw[za,aa,zv];omega
def QR{K:Fg_}(q:X.K=K:=by rfl):mR X (.builtin "sorted") (Ro K):=q▸TF
def ap_rSortP{K:Fg_}{a:Addr}{H:Hp}{Q:VK}:Ro K [.ref a] H Q=∃(ys:List V)(ts:V->List Int)(m:Nat),SqL K H a ys/\ys.length<64/\(ys.map ts).Nodup/\
 (∀y∈ys,(ts y).length=m+1/\∃b r,y=.ref b/\SqT K H b ((ts y).map V.int++r))/\
 ∀p zs,H p=none->zs.Perm ys->(zs.Pairwise λy z=>uY (ts y) (ts z) false=true)->Q (.ref p) (upd H p (.lst zs)):=by simp[Ro]
end
end L2
namespace L2
open PySem PySem.Spec PyProof.Rows
section
variable{K:Fg_}{H:Hp}{Q:VK}{σ:St}{v:V}{a0 a1 a2 a3 a4 a5 a6 a7 a8 a9:Option V}
def rd{x C dx:Addr}{fs:List (Str×V)}{f:Str}{R:V->Prop}(h:H x=some (.ins C dx fs))(c:Cls K C)(n:iU K C f)(l:List.lookup f fs=some v)(k:R v):∃C dx fs,H x=some (.ins C dx fs)/\Cls K C/\iU K C f/\∃v,List.lookup f fs=some v/\R v:=⟨C,dx,fs,h,c,n,v,l,k⟩
def sw{x C dx:Addr}{fs:List (Str×V)}{f:Str}{R:Addr->Addr->List (Str×V)->Prop}(h:H x=some (.ins C dx fs))(c:Cls K C)(n:iU K C f)(l:fs.length<1000)(k:R C dx fs):∃C dx fs,H x=some (.ins C dx fs)/\Cls K C/\iU K C f/\fs.length<1000/\R C dx fs:=⟨C,dx,fs,h,c,n,l,k⟩
def sz{n:Nat}(h:n<=1000:=by decide):n<=sizeLine:=by rw[zv];omega
def md{x C dx:Addr}{fs:List (Str×V)}{m:Str}{tab:List (Addr×Sp)}{sp:Sp}{R:Sp->Prop}(h:H x=some (.ins C dx fs))(i:(C,sp)∈tab)(l:List.lookup m fs=Option.none)(k:R sp):∃C dx fs,H x=some (.ins C dx fs)/\∃sp,(C,sp)∈tab/\List.lookup m fs=Option.none/\R sp:=⟨C,dx,fs,h,sp,i,l,k⟩
def ln0{α:Type}{P:List α->Prop}(h:P []):∀us:List α,us.length=0->P us:=by
 intro us e
 cases us with
 |nil=>exact h
 |cons=>cases e
def lnS{α:Type}{P:List α->Prop}{n:Nat}(h:∀a us,us.length=n->P (a::us)):∀us:List α,us.length=n+1->P us:=by
 intro us e
 cases us with
 |nil=>cases e
 |cons a us=>exact h a us (Nat.succ.inj e)
def ln1{α:Type}{P:List α->Prop}(h:∀a0,P [a0]):∀us:List α,us.length=1->P us:=lnS λa=>ln0 (h a)
def ln2{α:Type}{P:List α->Prop}(h:∀a0 a1,P [a0,a1]):∀us:List α,us.length=2->P us:=lnS λa=>ln1 (h a)
def ln3{α:Type}{P:List α->Prop}(h:∀a0 a1 a2,P [a0,a1,a2]):∀us:List α,us.length=3->P us:=lnS λa=>ln2 (h a)
def ln4{α:Type}{P:List α->Prop}(h:∀a0 a1 a2 a3,P [a0,a1,a2,a3]):∀us:List α,us.length=4->P us:=lnS λa=>ln3 (h a)
def ln5{α:Type}{P:List α->Prop}(h:∀a0 a1 a2 a3 a4,P [a0,a1,a2,a3,a4]):∀us:List α,us.length=5->P us:=lnS λa=>ln4 (h a)
def ln6{α:Type}{P:List α->Prop}(h:∀a0 a1 a2 a3 a4 a5,P [a0,a1,a2,a3,a4,a5]):∀us:List α,us.length=6->P us:=lnS λa=>ln5 (h a)
def ln7{α:Type}{P:List α->Prop}(h:∀a0 a1 a2 a3 a4 a5 a6,P [a0,a1,a2,a3,a4,a5,a6]):∀us:List α,us.length=7->P us:=lnS λa=>ln6 (h a)
def ln8{α:Type}{P:List α->Prop}(h:∀a0 a1 a2 a3 a4 a5 a6 a7,P [a0,a1,a2,a3,a4,a5,a6,a7]):∀us:List α,us.length=8->P us:=lnS λa=>ln7 (h a)
end
end L2
namespace L2
open PySem PySem.Spec PyProof.Rows
section
variable{X:Cx}{K:Fg_}{H:Hp}{Q:VK}{σ:St}{v:V}{a0 a1 a2 a3 a4 a5 a6 a7 a8 a9 a10 a11 a12 a13 a14:Option V}{P:V->Prop}{R:Addr->Prop}{i:Nat}{f m:Str}{tab:List (Addr×Sp)}{E:XK}{t:TA}{tv:TE}{D:Ends}{e:Expr}{tg:Expr}{st:Stmt}{a:Addr}
noncomputable def atV(σ:St)(i:Nat)(P:V->Prop):Prop:=match σ[i]? with
 |some (some v)=>P v
 |_=>False
noncomputable def onR(x:V)(P:Addr->Prop):Prop:=match x with
 |.ref a=>P a
 |_=>False
def atV_iff:atV σ i P=∃v,σ[i]? =some (some v)/\P v:=by
 unfold atV;split
 ·next v e=>exact propext ⟨λh=>⟨v,e,h⟩,fun⟨w,q,h⟩=>by rw[e]at q;cases q;exact h⟩
 ·next n=>exact propext ⟨λh=>h.elim,fun⟨w,q,_⟩=>(n w q).elim⟩
def Lf{x:V}:onR x R=∃a,x=.ref a/\R a:=propext ⟨λh=>by
 cases x<;>first|exact h.elim|exact⟨_,rfl,h⟩,fun⟨a,e,h⟩=>by rw[e];exact h⟩
noncomputable def tV(i:Nat):TE:=λσ H Q=>atV σ i λv=>Q v H
noncomputable def tFV(K:Fg_)(i:Nat)(f:Str):TE:=λσ H Q=>atV σ i λx=>onR x λa=>∃C dx fs,H a=some (.ins C dx fs)/\Cls K C/\iU K C f/\∃v,List.lookup f fs=some v/\Q v H
noncomputable def tMV(tab:List (Addr×Sp))(m:Str)(E:XK)(i:Nat)(t:TA):TE:=λσ H Q=>atV σ i λx=>onR x λa=>∃C dx fs,H a=some (.ins C dx fs)/\∃sp,(C,sp)∈tab/\List.lookup m fs=none/\t σ H λvs H2=>sp (.ref a::vs) H2 Q E
noncomputable def sFV(K:Fg_)(i:Nat)(tv:TE)(f:Str):TS:=λD σ H=>tv σ H λy H1=>atV σ i λx=>onR x λa=>∃C dx fs,H1 a=some (.ins C dx fs)/\Cls K C/\iU K C f/\fs.length<1000/\D.nx σ (upd H1 a (.ins C dx (CN f y fs)))
noncomputable def iLV(K:Fg_)(i:Nat):TI:=λσ H R=>atV σ i λx=>onR x λa=>(∃xs,SqL K H a xs)/\R (Itl K a) H
def akd:Mr i=tV i:=funext λσ=>funext λH=>funext λQ=>atV_iff.symm
def ail:aiF K (Mr i) f=tFV K i f:=by
 funext σ H Q;unfold tFV aiF Mr;rw[atV_iff];simp only[Lf,exists_and_left]
def agf:Nk tab m E (Mr i) t=tMV tab m E i t:=by
 funext σ H Q;unfold tMV Nk Mr;rw[atV_iff];simp only[Lf];refine propext ⟨fun⟨v,e,a,C,dx,fs,sp,q,h1,h2,h3,z⟩=>⟨v,e,a,q,C,dx,fs,h1,sp,h2,h3,q▸z⟩,fun⟨v,e,a,q,C,dx,fs,h1,sp,h2,h3,z⟩=>⟨v,e,a,C,dx,fs,sp,q,h1,h2,h3,q▸z⟩⟩
def aif:aip K (Mr i) tv f=sFV K i tv f:=by
 funext D σ H;unfold sFV aip Mr;simp only[atV_iff,Lf,exists_and_left]
def ajv:Wf K (Mr i)=iLV K i:=by
 funext σ H R;unfold iLV Wf Mr;rw[atV_iff];simp only[Lf]
noncomputable def ahV(x:Str):Bool:=!(x==("__debug__" :Str)) && !(x==("__classdict__" :Str))
def orl{α:Sort _}{a:α}{p:Prop}:a=a\/p:=Or.inl rfl
def orr{α:Sort _}{a:α}{p:Prop}:p\/a=a:=Or.inr rfl
def nd1{x:Str}:[x].Nodup:=yq.mpr ⟨zl,List.nodup_nil⟩
def nm1{x:Str}(h:ahV x=true):(x==("__debug__" :Str))=false:=by unfold ahV at h;revert h;cases x==("__debug__" :Str)<;>simp
def nm2{x:Str}(h:ahV x=true):(x==("__classdict__" :Str))=false:=by unfold ahV at h;revert h;cases x==("__classdict__" :Str)<;>simp
def pvD(i:Nat){x:Str}{pos:Pos}(q:X.N[i]? =some x:=by rfl)(hv:Vis X.env.scope x:=by walk_at "o") (hd:ahV x=true:=by rfl):PE X (.Name x pos) (tV i):=akd▸pv i q hv (nm1 hd) (nm2 hd)
def pav(i:Nat){x:Str}{pos:Pos}{es:List Expr}{t:TA}(q:PA X es t)(z:X.N[i]? =some x:=by rfl)(hv:Vis X.env.scope x:=by walk_at "o") (hd:ahV x=true:=by rfl) (hs:starEach (.Name x pos::es) X.env=(false,eval (.Name x pos) X.env)::starEach es X.env:=by rfl):PA X (.Name x pos::es) (DG (tV i) t):=ig (pvD i z hv hd) q hs
def ahE{pos:Pos}(q:PE X e (Mr i))(hb:attributeBase e f X.env (eval e X.env)=eval e X.env)(z:X.K=K:=by rfl):PE X (.Attribute e f pos) (tFV K i f):=ail▸ahb q hb z
def jk{o value:Expr}{pos pos':Pos}(ha:PE X o (Mr i))(z:PE X value tv)(q:swapsWith value (some (.Attribute o f pos')) pos.line X.env=pure false)(hK:X.K=K:=by rfl):PS X (.Assign [.Attribute o f pos'] value pos) (sFV K i tv f):=aif▸aht ha z q hK
def jG(q:PE X e (Mr i))(z:X.K=K:=by rfl):PI X tg e (iLV K i):=ajv▸lN q z
def jq{CX:CXT}{pos apos:Pos}{o:Expr}{es:List Expr}{pl:Sem Bool}(he:PE X o (Mr i))(T:Xr X CX m tab)(z:xr CX X E)(ha:PA X (e::es) t)
  (q:starEach (e::es) X.env=(false,eval e X.env)::starEach es X.env:=by rfl) (hpl:(backTo pos (starEach es X.env)).any (·.1)=false:=by rfl)
  (ht:eval (.Call (.Attribute o m apos) (e::es) [] pos) X.env=(do
   let ov<-eval o X.env
   standAt apos.atName
   let(f,first)<-holding [ov] (getMethod ov m pl)
   callWith pos f first (backTo pos (starEach (e::es) X.env)) (backToKw pos (keywordEach [] X.env))):=by rfl):
  PE X (.Call (.Attribute o m apos) (e::es) [] pos) (tMV tab m E i t):=agf▸Zf (pl:=pl) he T z ha q hpl ht
def lG{CX:CXT}{pos apos:Pos}{o:Expr}{pl:Sem Bool}(he:PE X o (Mr i))(T:Xr X CX m tab)(z:xr CX X E)
  (q:eval (.Call (.Attribute o m apos) [] [] pos) X.env=(do
   let ov<-eval o X.env
   standAt apos.atName
   let(f,first)<-holding [ov] (getMethod ov m pl)
   callWith pos f first (backTo pos (starEach [] X.env)) (backToKw pos (keywordEach [] X.env))):=by rfl):
  PE X (.Call (.Attribute o m apos) [] [] pos) (tMV tab m E i Xj):=agf▸Xx (pl:=pl) he T z q
def av_V:tV i σ H Q=atV σ i λv=>Q v H:=rfl
def av_F:tFV K i f σ H Q=atV σ i λx=>onR x λa=>∃C dx fs,H a=some (.ins C dx fs)/\Cls K C/\iU K C f/\∃v,List.lookup f fs=some v/\Q v H:=rfl
def av_M:tMV tab m E i t σ H Q=atV σ i λx=>onR x λa=>∃C dx fs,H a=some (.ins C dx fs)/\∃sp,(C,sp)∈tab/\List.lookup m fs=none/\t σ H λvs H2=>sp (.ref a::vs) H2 Q E:=rfl
def av_S:sFV K i tv f D σ H=tv σ H λy H1=>atV σ i λx=>onR x λa=>∃C dx fs,H1 a=some (.ins C dx fs)/\Cls K C/\iU K C f/\fs.length<1000/\D.nx σ (upd H1 a (.ins C dx (CN f y fs))):=rfl
def av_L{R:It->Hp->Prop}:iLV K i σ H R=atV σ i λx=>onR x λa=>(∃xs,SqL K H a xs)/\R (Itl K a) H:=rfl
def av_r:onR (.ref a) R=R a:=rfl
def av0:atV (some v::σ) 0 P=P v:=rfl
def av1:atV (a0::some v::σ) 1 P=P v:=rfl
def av2:atV (a0::a1::some v::σ) 2 P=P v:=rfl
def av3:atV (a0::a1::a2::some v::σ) 3 P=P v:=rfl
def av4:atV (a0::a1::a2::a3::some v::σ) 4 P=P v:=rfl
def av5:atV (a0::a1::a2::a3::a4::some v::σ) 5 P=P v:=rfl
def av6:atV (a0::a1::a2::a3::a4::a5::some v::σ) 6 P=P v:=rfl
def av7:atV (a0::a1::a2::a3::a4::a5::a6::some v::σ) 7 P=P v:=rfl
def av8:atV (a0::a1::a2::a3::a4::a5::a6::a7::some v::σ) 8 P=P v:=rfl
def av9:atV (a0::a1::a2::a3::a4::a5::a6::a7::a8::some v::σ) 9 P=P v:=rfl
def av10:atV (a0::a1::a2::a3::a4::a5::a6::a7::a8::a9::some v::σ) 10 P=P v:=rfl
def av11:atV (a0::a1::a2::a3::a4::a5::a6::a7::a8::a9::a10::some v::σ) 11 P=P v:=rfl
def av12:atV (a0::a1::a2::a3::a4::a5::a6::a7::a8::a9::a10::a11::some v::σ) 12 P=P v:=rfl
def av13:atV (a0::a1::a2::a3::a4::a5::a6::a7::a8::a9::a10::a11::a12::some v::σ) 13 P=P v:=rfl
def mc{CX:CXT}{C f:Addr}{fd:FuncData}{ps:List Str}{sp:Sp}{k n:Nat}{r:List (Addr×Sp)}(c:Cls X.K C)(hm:Meth X.K C m f)(F:jE X.prog X.w X.K X.mg X.base CX k f fd ps sp)(z:qM n X.A)(hb:Binds X.K fd ps [])(t:Xr X CX m r)(q:k<=n:=by decide):Xr X CX m ((C,sp)::r):=.cons c hm F (z.mono q) hb t
end
end L2
namespace L2
open PySem PySem.Spec PyProof.Rows
structure FG(K:Fg_)(mg:Str->Option Value)(x:Str)(st:Stmt)(f:Addr)(fd:FuncData):Prop where
 m:mg x=some (.ref f)
 k:PySem.W.keepIn K (.ref f)=true
 F:Fun K x x st f fd
section
variable{X:Cx}{t:TA}{e:Expr}
def pcg{k n:Nat}{f:Addr}{fd:FuncData}{ps:List Str}{sp:Sp}{x:Str}{st:Stmt}{p pos:Pos}{es:List Expr}(F:jE X.prog X.w X.K X.mg X.base CX0 k f fd ps sp)(z:qM n X.A)(g:FG X.K X.mg x st f fd)(hb:Binds X.K fd ps [])(ha:PA X (e::es) t)(q:k<=n:=by decide)(hg:Gl X x:=by rfl)(hd:(x==("__debug__" :Str))=false:=by decide)
  (hst:starEach (e::es) X.env=(false,eval e X.env)::starEach es X.env:=by rfl) (hpl:(backTo pos (starEach es X.env)).any (·.1)=false:=by rfl):PE X (.Call (.Name x p) (e::es) [] pos) (YT sp [] E0 t):=ahK F (z.mono q) hg g.m g.k hb .nil jw ha hd hst hpl
end
end L2
local macro_rules | `(tactic| walk_at "u") => `(tactic| (rename_i h; first | (cases h; subst_vars; rfl) | (obtain ⟨e, _⟩ := h; subst e; rfl) | (obtain ⟨_, h⟩ := h; walk_at "u")))
local macro_rules | `(tactic| walk_at "v") => `(tactic| (intros; walk_at "u"))
local macro_rules | `(tactic| walk_at "k") => `(tactic| first | exact L2.CapOk.nil | (refine L2.CapOk.own ?_; walk_at "k") | (refine L2.CapOk.take (by with_unfolding_all rfl) (by first | exact Or.inl (by with_unfolding_all rfl) | exact Or.inr (by with_unfolding_all rfl)) (by first | exact Or.inl (by with_unfolding_all rfl) | exact Or.inr (by with_unfolding_all rfl)) (by with_unfolding_all rfl) ?_; walk_at "k"))
local macro_rules | `(tactic| walk_at "c") => `(tactic| (refine ⟨?c1, ?c3, ?c0, ?c4, ?c5, ?c6, ?c7⟩; (case c1 => with_unfolding_all rfl); (case c3 => walk_at "k"); (case c0 => rfl); (case c4 => decide +kernel); (case c5 => decide +kernel); (case c6 => with_unfolding_all rfl); (case c7 => (intro _; rfl))))
local macro_rules | `(tactic| walk_at "q") => `(tactic| simp only [↓L2.av_V, ↓L2.av_F, ↓L2.av_M, ↓L2.av_S, ↓L2.av_L, ↓L2.av0, ↓L2.av1, ↓L2.av2, ↓L2.av3, ↓L2.av4, ↓L2.av5, ↓L2.av6, ↓L2.av7, ↓L2.av8, ↓L2.av9, ↓L2.av10, ↓L2.av11, ↓L2.av12, ↓L2.av13, L2.av_r, L2.ap_iStr, L2.ap_fldK, L2.ap_sFld, L2.ap_methD, L2.ap_make, L2.ap_dget2, L2.ap_dget, L2.ap_dput, L2.ap_dnewK, L2.ap_dictOf, L2.ap_leS, L2.ap_rIsC, L2.ap_ixT, L2.ap_lenS, L2.ap_new0, L2.ap_dictPairs, L2.ap_iVals, L2.ap_rVals, L2.ap_dget1, L2.ap_tSortK, L2.ap_rSortK, L2.ap_setOf, L2.ap_lenSet, L2.ap_tListRev, L2.ap_tMinD, L2.ap_break, L2.ap_rSortI, L2.ap_iItems, L2.ap_rItems, L2.ap_neM, L2.ap_iKeys, L2.ap_thawV, L2.ap_rMaxL, L2.ap_rSortP, L2.ap_iZip, L2.ap_iEnum, L2.ap_next, L2.ap_asg, L2.ap_name, L2.ap_var, L2.ap_c, L2.ap_op, L2.ap_un, L2.ap_rI, L2.ap_rI0, L2.ap_rU, L2.ap_rEq, L2.ap_rNe, L2.ap_ret, L2.ap_retN, L2.ap_drop, L2.ap_if, L2.ap_test, L2.ap_tB, L2.ap_and, L2.ap_or, L2.ap_not, L2.ap_andV, L2.ap_notV, L2.ap_ifE, L2.ap_call, L2.ap_nil, L2.ap_cons, L2.ap_cb, L2.ap_lst, L2.ap_tup, L2.ap_chain, L2.ap_sl, L2.ap_noPart, L2.ap_part, L2.ap_gNil, L2.ap_gCons, L2.ap_gTup, L2.ap_bm, L2.ap_bm0, L2.ap_ixL, L2.ap_slL, L2.ap_rLen, L2.ap_rSum, L2.ap_rAny, L2.ap_rAll, L2.ap_rListOf, L2.ap_rIsT, L2.ap_append, L2.ap_rCat, L2.ap_comp, L2.ap_iList, L2.ap_iRng1, L2.ap_noIf, L2.ap_rMin, L2.scal_int, L2.scal_str, L2.scal_bl, L2.start_eq, List.map_cons, List.map_nil, List.length_cons, List.length_nil, List.cons_append, List.nil_append, List.append_nil, List.replicate_succ, List.replicate_zero, Nat.reduceAdd, Nat.reduceSub, Nat.sub_self, List.set_cons_zero, List.set_cons_succ, List.getElem?_cons_zero, List.getElem?_cons_succ, Option.some.injEq, L2.V.int.injEq, L2.V.bl.injEq, L2.V.str.injEq, L2.V.ref.injEq, L2.V.ty.injEq, List.cons.injEq, exists_eq_left', exists_eq_left, exists_and_left, exists_eq', exists_eq, true_and, and_true, and_assoc, exists_const, Bool.not_true, Bool.not_false, if_true, if_false, Bool.false_eq_true, decide_true, decide_false, reduceCtorEq, Bool.not_eq_true', decide_eq_true_eq, decide_eq_false_iff_not])
local macro_rules | `(tactic| walk_at "i") => `(tactic| try walk_at "q")
local macro_rules | `(tactic| walk_at "a") => `(tactic| (repeat (first | simp only [L2.ap_seq, L2.ap_for] | walk_at "q")))
namespace L2
open PySem PySem.Spec PyProof.Rows
def fv{X:Cx}(K:Fg_)(i:Nat){x f:Str}{pos pos':PySem.Pos}(q:X.N[i]? =some x:=by rfl)(hv:Vis X.env.scope x:=by first|exact Or.inl rfl|exact Or.inr (Or.inl rfl)|exact Or.inr (Or.inr rfl))(hd:(x==("__debug__" :Str))=false:=by decide) (hcd:(x==("__classdict__" :Str))=false:=by decide) (hb:PySem.attributeBase (.Name x pos') f X.env (PySem.eval (.Name x pos') X.env)=PySem.eval (.Name x pos') X.env:=by rfl) (hK:X.K=K:=by rfl):PE X (.Attribute (.Name x pos') f pos) (tFV K i f):=ahE (pv i q hv hd hcd) hb hK
end L2
namespace My
open PySem L2 PyProof.Rows
open PySem.W (codeIn findCls findIn fnOf hasDictIn isFn keepIn kitOne makesIn mg_none_of mg_of mroIn nsIn plainGet plainOver readsIn specialIn takesIn)
noncomputable def top(i:Nat):Stmt:=PySem.Challenge.pw_lotledger_k63_whole_nothing_left.main.body.getD i (.Pass ⟨0,0,0,0⟩)
abbrev rn:Stmt:=top 90
abbrev qT:Stmt:=top 79
abbrev tU:Stmt:=top 96
abbrev Ad:Stmt:=top 95
abbrev vg:Stmt:=top 97
abbrev vG:Stmt:=top 81
abbrev qU:Stmt:=top 82
abbrev Am:Stmt:=top 80
abbrev oO:Stmt:=top 87
abbrev qi:Stmt:=top 88
abbrev Bb:Stmt:=top 86
abbrev wB:Stmt:=top 85
abbrev tY:Stmt:=top 84
abbrev Dl:Stmt:=top 89
abbrev Dk:Stmt:=top 83
abbrev qR:Stmt:=top 91
abbrev rN:Stmt:=top 40
abbrev Dw:Stmt:=top 39
abbrev CG:Stmt:=top 38
abbrev tO:Stmt:=inClass (top 67) 14
abbrev pY:Stmt:=inClass (top 67) 12
abbrev qZ:Stmt:=top 48
abbrev rJ:Stmt:=inClass (top 46) 0
abbrev qb:Stmt:=inClass (top 46) 3
abbrev Df:Stmt:=top 47
abbrev CT:Stmt:=inClass (top 67) 10
abbrev tH:Stmt:=inClass (top 67) 4
abbrev qm:Stmt:=top 70
abbrev xX:Stmt:=inClass (top 66) 1
abbrev rF:Stmt:=top 75
abbrev lQ:Stmt:=inClass (top 74) 2
abbrev pR:Stmt:=inClass (top 66) 0
abbrev rE:Stmt:=top 76
abbrev mO:Stmt:=inClass (top 74) 1
abbrev tZ:Stmt:=inClass (top 67) 3
abbrev qX:Stmt:=inClass (top 67) 5
abbrev oU:Stmt:=top 44
abbrev Jc:Stmt:=top 42
abbrev Qa:Stmt:=top 43
abbrev Ij:Stmt:=top 68
abbrev rB:Stmt:=inClass (top 57) 0
abbrev Ip:Stmt:=top 51
abbrev qw:Stmt:=inClass (top 61) 1
abbrev Ao:Stmt:=inClass (top 46) 2
abbrev um:Stmt:=top 49
abbrev qx:Stmt:=top 62
abbrev rC:Stmt:=inClass (top 58) 1
abbrev rK:Stmt:=inClass (top 59) 1
abbrev qg:Stmt:=inClass (top 46) 4
abbrev pP:Stmt:=top 63
abbrev qj:Stmt:=inClass (top 60) 1
abbrev Ak:Stmt:=top 64
abbrev oW:Stmt:=inClass (top 67) 11
abbrev rA:Stmt:=inClass (top 67) 6
abbrev qY:Stmt:=top 54
abbrev Bd:Stmt:=top 53
abbrev qp:Stmt:=inClass (top 67) 8
abbrev vW:Stmt:=top 55
abbrev nQ:Stmt:=inClass (top 67) 9
abbrev nW:Stmt:=inClass (top 67) 2
abbrev Ay:Stmt:=top 34
abbrev oM:Stmt:=top 35
abbrev nZ:Stmt:=inClass (top 20) 3
abbrev ou:Stmt:=top 36
abbrev nj:Stmt:=inClass (top 21) 3
abbrev mY:Stmt:=inClass (top 22) 3
abbrev mQ:Stmt:=inClass (top 24) 3
abbrev lU:Stmt:=inClass (top 25) 3
abbrev xW:Stmt:=top 50
abbrev Aj:Stmt:=inClass (top 67) 13
abbrev Gw:Stmt:=inClass (top 67) 1
abbrev qe:Stmt:=top 72
abbrev pZ:Stmt:=inClass (top 67) 0
abbrev lV:Stmt:=inClass (top 74) 0
abbrev oR:Stmt:=top 77
abbrev nT:Stmt:=top 26
abbrev rm:Stmt:=top 27
abbrev Ga:Stmt:=top 29
abbrev vZ:Stmt:=top 28
abbrev oV:Stmt:=inClass (top 19) 0
abbrev nH:Stmt:=inClass (top 25) 0
abbrev uh:Stmt:=top 30
abbrev lJ:Stmt:=inClass (top 20) 0
abbrev tE:Stmt:=top 31
abbrev wH:Stmt:=top 32
abbrev lq:Stmt:=inClass (top 21) 0
abbrev pQ:Stmt:=inClass (top 22) 0
abbrev oY:Stmt:=inClass (top 24) 0
abbrev wj:Stmt:=top 92
abbrev Ba:Stmt:=inClass (top 67) 17
abbrev rG:Stmt:=inClass (top 66) 2
abbrev rD:Stmt:=top 69
abbrev vL:Stmt:=inClass (top 67) 15
abbrev Ai:Stmt:=top 98
abbrev Dj:Stmt:=top 93
abbrev Gb:Stmt:=top 71
abbrev nP:Stmt:=inClass (top 74) 3
abbrev YL:Stmt:=top 99
set_option genInjectivity false in
structure Adr where
 zy:Addr
 zA:Addr
 zB:Addr
 zC:Addr
 zD:Addr
 zE:Addr
 zF:Addr
 zG:Addr
 zH:Addr
 zI:Addr
 zJ:Addr
 zK:Addr
 zL:Addr
 zM:Addr
 zN:Addr
 zO:Addr
 zP:Addr
 zQ:Addr
 zR:Addr
 zS:Addr
 zT:Addr
 zU:Addr
 zV:Addr
 zW:Addr
 zX:Addr
 zY:Addr
 zZ:Addr
 z0:Addr
 z3:Addr
 z4:Addr
 z5:Addr
 z6:Addr
 z7:Addr
 z8:Addr
 z9:Addr
 aaa:Addr
 aab:Addr
 aac:Addr
 aad:Addr
 aae:Addr
 aaf:Addr
 aag:Addr
 aah:Addr
 aai:Addr
 aaj:Addr
 aak:Addr
 aal:Addr
 aam:Addr
 aan:Addr
 aao:Addr
 aap:Addr
 aaq:Addr
 aar:Addr
 aas:Addr
 aat:Addr
 aau:Addr
 aav:Addr
 aaw:Addr
 aax:Addr
 aay:Addr
 aaz:Addr
 aaA:Addr
 aaB:Addr
 aaC:Addr
 aaD:Addr
 aaE:Addr
 aaF:Addr
 aaG:Addr
 aaH:Addr
 aaI:Addr
 aaJ:Addr
 aaK:Addr
 aaL:Addr
 aaM:Addr
 aaN:Addr
 aaO:Addr
 aaP:Addr
 aaQ:Addr
 aaR:Addr
 aaS:Addr
 aaT:Addr
 aaU:Addr
 aaV:Addr
 aaW:Addr
 aaX:Addr
 aaY:Addr
 aaZ:Addr
 aa0:Addr
 aa1:Addr
 aa2:Addr
 aa3:Addr
 aa4:Addr
 aa5:Addr
 aa6:Addr
 aa7:Addr
 aa8:Addr
 aa9:Addr
 law:Addr
 aba:Addr
 abb:Addr
 abc:Addr
 abd:Addr
 abe:Addr
 abf:Addr
 abg:Addr
 abh:Addr
 abi:Addr
 abj:Addr
 abk:Addr
 abl:Addr
 abm:Addr
 abn:Addr
 abo:Addr
 abp:Addr
 abq:Addr
 abr:Tok
 abt:Tok
 abu:Tok
 abv:Tok
 abw:Tok
 abx:Tok
 aby:Tok
 abz:Tok
 abA:Tok
set_option genInjectivity false in
structure Fds where
 zy:FuncData
 zA:FuncData
 zB:FuncData
 zC:FuncData
 zD:FuncData
 zE:FuncData
 zF:FuncData
 zG:FuncData
 zH:FuncData
 zI:FuncData
 zJ:FuncData
 zK:FuncData
 zL:FuncData
 zM:FuncData
 zN:FuncData
 zO:FuncData
 zP:FuncData
 zQ:FuncData
 zR:FuncData
 zS:FuncData
 zT:FuncData
 zU:FuncData
 zV:FuncData
 zW:FuncData
 zX:FuncData
 zY:FuncData
 zZ:FuncData
 z0:FuncData
 z3:FuncData
 z4:FuncData
 z5:FuncData
 z6:FuncData
 z7:FuncData
 z8:FuncData
 z9:FuncData
 aaa:FuncData
 aab:FuncData
 aac:FuncData
 aad:FuncData
 aae:FuncData
 aaf:FuncData
 aag:FuncData
 aah:FuncData
 aai:FuncData
 aaj:FuncData
 aak:FuncData
 aal:FuncData
 aam:FuncData
 aan:FuncData
 aao:FuncData
 aap:FuncData
 aaq:FuncData
 aar:FuncData
 aas:FuncData
 aat:FuncData
 aau:FuncData
 aav:FuncData
 aaw:FuncData
 aax:FuncData
 aay:FuncData
 aaz:FuncData
 aaA:FuncData
 aaB:FuncData
 aaC:FuncData
 aaD:FuncData
 aaE:FuncData
 aaF:FuncData
 aaG:FuncData
 aaH:FuncData
 aaI:FuncData
 aaJ:FuncData
 aaK:FuncData
 aaL:FuncData
 aaM:FuncData
 aaN:FuncData
 aaO:FuncData
 aaP:FuncData
 aaQ:FuncData
 aaR:FuncData
 aaS:FuncData
 aaT:FuncData
 aaU:FuncData
 aaV:FuncData
 aaW:FuncData
 aaX:FuncData
 aaY:FuncData
 aaZ:FuncData
 aa0:FuncData
 aa1:FuncData
 aa2:FuncData
 aa3:FuncData
 aa4:FuncData
 aa5:FuncData
 aa6:FuncData
 aa7:FuncData
 aa8:FuncData
 aa9:FuncData
 law:FuncData
structure Txt(K:Fg_)(mg:Str->Option Value)(A:Adr)(D:Fds):Prop where
 abB:FG K mg "_law_counted" rn A.zy D.zy
 abC:FG K mg "_law_cell_at" qT A.zA D.zA
 abD:FG K mg "_law_closed" tU A.zB D.zB
 abE:FG K mg "_law_days" Ad A.zC D.zC
 abF:FG K mg "_law_gains" vg A.zD D.zD
 abG:FG K mg "_law_mixed" vG A.zE D.zE
 abH:FG K mg "_law_sources" qU A.zF D.zF
 abI:FG K mg "_law_take" Am A.zG D.zG
 abJ:FG K mg "_law_split_row" oO A.zH D.zH
 abK:FG K mg "_law_part_row" qi A.zI D.zI
 abL:FG K mg "_law_some" Bb A.zJ D.zJ
 abM:FG K mg "_law_price" wB A.zK D.zK
 abN:FG K mg "_law_pieces" tY A.zL D.zL
 abO:FG K mg "_law_row" Dl A.zM D.zM
 abP:FG K mg "_law_raw" Dk A.zN D.zN
 abQ:FG K mg "_law_history" qR A.zO D.zO
 abR:FG K mg "refuse_twice" rN A.zP D.zP
 abS:FG K mg "place_of" Dw A.zQ D.zQ
 abT:FG K mg "in_order" CG A.zR D.zR
 abU:Fun K "row_of" "Book.row_of" tO A.zS D.zS
 abV:Fun K "keep_row" "Book.keep_row" pY A.zT D.zT
 abW:FG K mg "place_in_row" qZ A.zU D.zU
 abX:Fun K "__init__" "Lot.__init__" rJ A.zV D.zV
 abY:Fun K "with_more" "Lot.with_more" qb A.zW D.zW
 abZ:FG K mg "row_with" Df A.zX D.zX
 ab0:Fun K "put" "Book.put" CT A.zY D.zY
 ab1:Fun K "lay_on" "Book.lay_on" tH A.zZ D.zZ
 ab2:FG K mg "cost_of_parts" qm A.z0 D.z0
 ab3:Fun K "gain" "Sale.gain" xX A.z3 D.z3
 ab4:FG K mg "is_open_loss" rF A.z4 D.z4
 ab5:Fun K "may_take" "LayingBook.may_take" lQ A.z5 D.z5
 ab6:Fun K "__init__" "Sale.__init__" pR A.z6 D.z6
 ab7:FG K mg "sale_laid_on" rE A.z7 D.z7
 ab8:Fun K "lay_on" "LayingBook.lay_on" mO A.z8 D.z8
 ab9:Fun K "do_buy" "Book.do_buy" tZ A.z9 D.z9
 aca:Fun K "do_gift" "Book.do_gift" qX A.aaa D.aaa
 acb:FG K mg "sum_of_weights" oU A.aab D.aab
 acd:FG K mg "part_of" Jc A.aac D.aac
 ace:FG K mg "dealt" Qa A.aad D.aad
 acf:FG K mg "sale_of" Ij A.aae D.aae
 acg:Fun K "levelled" "Way.levelled" rB A.aaf D.aaf
 ach:FG K mg "cost_in" Ip A.aag D.aag
 aci:Fun K "levelled" "Mean.levelled" qw A.aah D.aah
 acj:Fun K "taken" "Lot.taken" Ao A.aai D.aai
 ack:FG K mg "row_without" um A.aaj D.aaj
 acl:FG K mg "picks_in_turn" qx A.aak D.aak
 acm:Fun K "picks" "Eldest.picks" rC A.aal D.aal
 acn:Fun K "picks" "Newest.picks" rK A.aam D.aam
 aco:Fun K "is_dearer" "Lot.is_dearer" qg A.aan D.aan
 acp:FG K mg "dearest_first" pP A.aao D.aao
 acq:Fun K "picks" "Dearest.picks" qj A.aap D.aap
 acr:FG K mg "gone_from" Ak A.aaq D.aaq
 acs:Fun K "taken_for" "Book.taken_for" oW A.aar D.aar
 act:Fun K "do_sell" "Book.do_sell" rA A.aas D.aas
 acu:FG K mg "pieces_split" qY A.aat D.aat
 acv:FG K mg "row_split" Bd A.aau D.aau
 acw:Fun K "do_split" "Book.do_split" qp A.aav D.aav
 acx:FG K mg "row_parted" vW A.aaw D.aaw
 acy:Fun K "do_parting" "Book.do_parting" nQ A.aax D.aax
 acz:Fun K "do_by_kind" "Book.do_by_kind" nW A.aay D.aay
 acA:FG K mg "held_with" Ay A.aaz D.aaz
 acB:FG K mg "held_with_more" oM A.aaA D.aaA
 acC:Fun K "held_behind" "Buy.held_behind" nZ A.aaB D.aaB
 acD:FG K mg "held_with_fewer" ou A.aaC D.aaC
 acE:Fun K "held_behind" "Sell.held_behind" nj A.aaD D.aaD
 acF:Fun K "held_behind" "Gift.held_behind" mY A.aaE D.aaE
 acG:Fun K "held_behind" "Split.held_behind" mQ A.aaF D.aaF
 acH:Fun K "held_behind" "Parting.held_behind" lU A.aaG D.aaG
 acI:FG K mg "pieces_in" xW A.aaH D.aaH
 acJ:Fun K "held" "Book.held" Aj A.aaI D.aaI
 acK:Fun K "do" "Book.do" Gw A.aaJ D.aaJ
 acL:FG K mg "with_all_done" qe A.aaK D.aaK
 acM:Fun K "__init__" "Book.__init__" pZ A.aaL D.aaL
 acN:Fun K "__init__" "LayingBook.__init__" lV A.aaM D.aaM
 acO:FG K mg "laying_book_of" oR A.aaN D.aaN
 acP:FG K mg "is_whole_number" nT A.aaO D.aaO
 acQ:FG K mg "check_number" rm A.aaP D.aaP
 acR:FG K mg "is_name" Ga A.aaQ D.aaQ
 acS:FG K mg "check_name" vZ A.aaR D.aaR
 acT:Fun K "__init__" "Entry.__init__" oV A.aaS D.aaS
 acU:Fun K "__init__" "Parting.__init__" nH A.aaT D.aaT
 acV:FG K mg "check_trade" uh A.aaU D.aaU
 acW:Zy K "__init__" "Buy.__init__" lJ A.aaV D.aaV [V.int 0]
 acX:FG K mg "check_named" tE A.aaW D.aaW
 acY:FG K mg "named_copy" wH A.aaX D.aaX
 acZ:Zy K "__init__" "Sell.__init__" lq A.aaY D.aaY [V.int 0,V.non]
 ac0:Fun K "__init__" "Gift.__init__" pQ A.aaZ D.aaZ
 ac1:Fun K "__init__" "Split.__init__" oY A.aa0 D.aa0
 ac2:FG K mg "_law_entry" wj A.aa1 D.aa1
 ac3:Fun K "sums" "Book.sums" Ba A.aa2 D.aa2
 ac4:Fun K "counted" "Sale.counted" rG A.aa3 D.aa3
 ac5:FG K mg "copy_of_sale" rD A.aa4 D.aa4
 ac6:Fun K "sales" "Book.sales" vL A.aa5 D.aa5
 ac7:FG K mg "_law_good" Ai A.aa6 D.aa6
 ac8:FG K mg "_law_way" Dj A.aa7 D.aa7
 ac9:FG K mg "book_of" Gb A.aa8 D.aa8
 ada:Fun K "laid" "LayingBook.laid" nP A.aa9 D.aa9
 adb:FG K mg "law" YL A.law D.law
 adc:mg "dict" =none
 add:mg "len" =none
 ade:mg "list" =none
 adf:mg "range" =none
 adg:mg "sorted" =none
 adh:mg "max" =none
 adi:mg "zip" =none
 adj:mg "any" =none
 adk:mg "sum" =none
 adl:mg "min" =none
 adm:mg "reversed" =none
 adn:mg "enumerate" =none
 ado:mg "isinstance" =none
 adp:mg "int" =none
 adq:mg "bool" =none
 adr:mg "all" =none
 ads:mg "str" =none
 adt:mg "set" =none
 adu:mg "Book" =some (.ref A.aba)
 adv:mg "Lot" =some (.ref A.abb)
 adw:mg "LayingBook" =some (.ref A.abc)
 adx:mg "Sale" =some (.ref A.abd)
 ady:mg "Mean" =some (.ref A.abf)
 adz:mg "Eldest" =some (.ref A.abg)
 adA:mg "Newest" =some (.ref A.abh)
 adB:mg "Dearest" =some (.ref A.abi)
 adC:mg "Buy" =some (.ref A.abk)
 adD:mg "Gift" =some (.ref A.abl)
 adE:mg "Sell" =some (.ref A.abm)
 adF:mg "Give" =some (.ref A.abn)
 adG:mg "Split" =some (.ref A.abo)
 adH:mg "Parting" =some (.ref A.abp)
 adI:mg "Entry" =some (.ref A.abq)
 adJ:mg "MOST_LETTERS" =some (.int 8 A.abr)
 adK:mg "MOST_DAY" =some (.int 1000000 A.abt)
 adL:mg "MOST_NUMBER" =some (.int 1000000 A.abu)
 adM:mg "MOST_WHOLE" =some (.int 1000000 A.abv)
 adN:mg "MOST_PIECES" =some (.int 1000000000 A.abw)
 adO:mg "MOST_PRICE" =some (.int 1000000000 A.abx)
 adP:mg "MOST_FEE" =some (.int 1000000000 A.aby)
 adQ:mg "MOST_GIFT_COST" =some (.int 1000000000000000000 A.abz)
 adR:mg "MOST_SPLIT" =some (.int 1000 A.abA)
 adS:Cls K A.aba
 adT:iU K A.aba "way"
 adU:iU K A.aba "rows"
 adV:iU K A.aba "last_place"
 adW:iU K A.aba "paid"
 adX:iU K A.aba "brought"
 adY:iU K A.aba "sales_done"
 adZ:iU K A.aba "givings_done"
 ad0:Cls K A.abb
 ad1:iU K A.abb "number"
 ad2:iU K A.abb "since"
 ad3:iU K A.abb "pieces"
 ad4:iU K A.abb "cost"
 ad5:Cls K A.abc
 ad6:iU K A.abc "way"
 ad7:iU K A.abc "rows"
 ad8:iU K A.abc "last_place"
 ad9:iU K A.abc "paid"
 aea:iU K A.abc "brought"
 aeb:iU K A.abc "sales_done"
 aec:iU K A.abc "givings_done"
 aed:iU K A.abc "days"
 aee:iU K A.abc "layings"
 aef:Cls K A.abd
 aeg:iU K A.abd "number"
 aeh:iU K A.abd "day"
 aei:iU K A.abd "ware"
 aej:iU K A.abd "proceeds"
 aek:iU K A.abd "parts"
 ael:iU K A.abd "laid_on"
 aem:Cls K A.abf
 aen:Cls K A.abg
 aeo:Cls K A.abh
 aep:Cls K A.abi
 aeq:Cls K A.abk
 aer:Qm K A.abk
 aes:iU K A.abk "day"
 aet:iU K A.abk "number"
 aeu:iU K A.abk "ware"
 aev:iU K A.abk "pieces"
 aew:iU K A.abk "price"
 aex:iU K A.abk "fee"
 aey:iU K A.abk "cost"
 aez:Cls K A.abl
 aeA:Qm K A.abl
 aeB:iU K A.abl "day"
 aeC:iU K A.abl "number"
 aeD:iU K A.abl "ware"
 aeE:iU K A.abl "pieces"
 aeF:iU K A.abl "cost"
 aeG:iU K A.abl "since"
 aeH:Cls K A.abm
 aeI:Qm K A.abm
 aeJ:iU K A.abm "day"
 aeK:iU K A.abm "number"
 aeL:iU K A.abm "ware"
 aeM:iU K A.abm "pieces"
 aeN:iU K A.abm "price"
 aeO:iU K A.abm "fee"
 aeP:iU K A.abm "named"
 aeQ:iU K A.abm "proceeds"
 aeR:Cls K A.abo
 aeS:Qm K A.abo
 aeT:iU K A.abo "day"
 aeU:iU K A.abo "number"
 aeV:iU K A.abo "ware"
 aeW:iU K A.abo "many"
 aeX:iU K A.abo "of"
 aeY:Cls K A.abp
 aeZ:Qm K A.abp
 ae0:iU K A.abp "day"
 ae1:iU K A.abp "number"
 ae2:iU K A.abp "ware"
 ae3:iU K A.abp "other"
 ae4:iU K A.abp "share"
 ae5:iU K A.abp "whole"
 ae6:Mk K A.abb A.zV
 ae7:Mk K A.abd A.z6
 ae8:Mk K A.abc A.aaM
 ae9:Mk K A.abp A.aaT
 afa:Mk K A.abk A.aaV
 afb:Mk K A.abm A.aaY
 afc:Mk K A.abl A.aaZ
 afd:Mk K A.abo A.aa0
 afe:Mk K A.aba A.aaL
 aff:Mk0 K A.abg
 afg:Mk0 K A.abh
 afh:Mk0 K A.abi
 afi:Mk0 K A.abf
 afj:Meth K A.abb "with_more" A.zW
 afk:Meth K A.aba "row_of" A.zS
 afl:Meth K A.abc "row_of" A.zS
 afm:Meth K A.aba "keep_row" A.zT
 afn:Meth K A.abc "keep_row" A.zT
 afo:Meth K A.abd "gain" A.z3
 afp:Meth K A.abc "may_take" A.z5
 afq:Meth K A.aba "put" A.zY
 afr:Meth K A.abc "put" A.zY
 afs:Meth K A.aba "lay_on" A.zZ
 aft:Meth K A.abc "lay_on" A.z8
 afu:Meth K A.abb "taken" A.aai
 afv:Meth K A.abb "is_dearer" A.aan
 afw:Meth K A.abg "levelled" A.aaf
 afx:Meth K A.abh "levelled" A.aaf
 afy:Meth K A.abi "levelled" A.aaf
 afz:Meth K A.abf "levelled" A.aah
 afA:Meth K A.abg "picks" A.aal
 afB:Meth K A.abh "picks" A.aam
 afC:Meth K A.abi "picks" A.aap
 afD:Meth K A.abf "picks" A.aal
 afE:Meth K A.aba "taken_for" A.aar
 afF:Meth K A.abc "taken_for" A.aar
 afG:Meth K A.aba "do_buy" A.z9
 afH:Meth K A.abc "do_buy" A.z9
 afI:Meth K A.aba "do_gift" A.aaa
 afJ:Meth K A.abc "do_gift" A.aaa
 afK:Meth K A.aba "do_sell" A.aas
 afL:Meth K A.abc "do_sell" A.aas
 afM:Meth K A.aba "do_split" A.aav
 afN:Meth K A.abc "do_split" A.aav
 afO:Meth K A.aba "do_parting" A.aax
 afP:Meth K A.abc "do_parting" A.aax
 afQ:Meth K A.aba "do_by_kind" A.aay
 afR:Meth K A.abc "do_by_kind" A.aay
 afS:Meth K A.abk "held_behind" A.aaB
 afT:Meth K A.abm "held_behind" A.aaD
 afU:Meth K A.abl "held_behind" A.aaE
 afV:Meth K A.abo "held_behind" A.aaF
 afW:Meth K A.abp "held_behind" A.aaG
 afX:Meth K A.aba "held" A.aaI
 afY:Meth K A.abc "held" A.aaI
 afZ:Meth K A.aba "do" A.aaJ
 af0:Meth K A.abc "do" A.aaJ
 af1:Meth K A.aba "sums" A.aa2
 af2:Meth K A.abc "sums" A.aa2
 af3:Meth K A.abd "counted" A.aa3
 af4:Meth K A.aba "sales" A.aa5
 af5:Meth K A.abc "sales" A.aa5
 af6:Meth K A.abc "laid" A.aa9
 af7:ahh K A.aba "__init__" A.aaL
 af8:ahh K A.abq "__init__" A.aaS
 af9:kitOne K (.ref A.abk) (.ref A.abm)=some false/\kitOne K (.ref A.abk) (.ref A.abl)=some false/\kitOne K (.ref A.abk) (.ref A.abn)=some false/\kitOne K (.ref A.abk) (.ref A.abo)=some false/\kitOne K (.ref A.abk) (.ref A.abp)=some false
 aga:kitOne K (.ref A.abm) (.ref A.abk)=some false/\kitOne K (.ref A.abm) (.ref A.abl)=some false/\kitOne K (.ref A.abm) (.ref A.abn)=some false/\kitOne K (.ref A.abm) (.ref A.abo)=some false/\kitOne K (.ref A.abm) (.ref A.abp)=some false
 agb:kitOne K (.ref A.abl) (.ref A.abk)=some false/\kitOne K (.ref A.abl) (.ref A.abm)=some false/\kitOne K (.ref A.abl) (.ref A.abn)=some false/\kitOne K (.ref A.abl) (.ref A.abo)=some false/\kitOne K (.ref A.abl) (.ref A.abp)=some false
 agc:kitOne K (.ref A.abo) (.ref A.abk)=some false/\kitOne K (.ref A.abo) (.ref A.abm)=some false/\kitOne K (.ref A.abo) (.ref A.abl)=some false/\kitOne K (.ref A.abo) (.ref A.abn)=some false/\kitOne K (.ref A.abo) (.ref A.abp)=some false
 agd:kitOne K (.ref A.abp) (.ref A.abk)=some false/\kitOne K (.ref A.abp) (.ref A.abm)=some false/\kitOne K (.ref A.abp) (.ref A.abl)=some false/\kitOne K (.ref A.abp) (.ref A.abn)=some false/\kitOne K (.ref A.abp) (.ref A.abo)=some false
local macro_rules | `(tactic| walk_at "s") => `(tactic| exact ⟨rfl, rfl, rfl, by decide +kernel, rfl, by decide +kernel, by decide +kernel⟩)
def lR:iI ["_law_counts", "_law_row_here", "_law_word", "_law_ware", "_law_here", "_law_after"] ["_law_counts", "_law_row_here"] (iD rn):=by walk_at "s"
def Ho:iI ["_law_script", "_law_k"] ["_law_script", "_law_k"] (iD qT):=by walk_at "s"
def jW:iI ["_law_rows", "_law_script", "_law_counts", "_law_row_here", "_law_found", "_law_k", "_law_ware", "_law_price_here"] ["_law_rows", "_law_script"] (iD tU):=by walk_at "s"
def Em:iI ["_law_script", "_law_cell"] ["_law_script"] (iD Ad):=by walk_at "s"
def mj:iI ["_law_rows", "_law_total", "_law_row_here"] ["_law_rows"] (iD vg):=by walk_at "s"
def mq:iI ["_law_cell", "_law_k", "_law_number", "_law_j", "_law_here"] ["_law_cell", "_law_k"] (iD vG):=by walk_at "s"
def nF:iI ["_law_script", "_law_cells", "_law_many"] ["_law_script"] (iD qU):=by walk_at "s"
def Eg:iI ["_law_digits", "_law_many", "_law_found"] ["_law_digits", "_law_many"] (iD Am):=by walk_at "s"
def nU:iI ["_law_day", "_law_number", "_law_ware", "_law_digits", "_law_here", "_law_many", "_law_of"] ["_law_day", "_law_number", "_law_ware", "_law_digits", "_law_here"] (iD oO):=by walk_at "s"
def lE:iI ["_law_day", "_law_number", "_law_wares", "_law_digits", "_law_counts", "_law_ware", "_law_other", "_law_whole", "_law_share"] ["_law_day", "_law_number", "_law_wares", "_law_digits", "_law_counts"] (iD qi):=by walk_at "s"
def Ol:iI ["_law_digits", "_law_here"] ["_law_digits", "_law_here"] (iD Bb):=by walk_at "s"
def Kz:iI ["_law_digits"] ["_law_digits"] (iD wB):=by walk_at "s"
def JH:iI ["_law_digits"] ["_law_digits"] (iD tY):=by walk_at "s"
def jT:iI ["_law_raw_here", "_law_counts", "_law_giving", "_law_day", "_law_number", "_law_kind", "_law_at", "_law_rest", "_law_digits", "_law_wares", "_law_ware", "_law_here", "_law_other", "_law_cost"] ["_law_raw_here", "_law_counts", "_law_giving"] (iD Dl):=by walk_at "s"
def mU:iI ["_law_source", "_law_k", "_law_digits", "_law_kind", "_law_at", "_law_day", "_law_number"] ["_law_source", "_law_k"] (iD Dk):=by walk_at "s"
def jQ:iI ["_law_script", "_law_giving", "_law_counts", "_law_rows", "_law_sources_here", "_law_raw_here", "_law_row_here", "_law_more"] ["_law_script", "_law_giving"] (iD qR):=by walk_at "s"
def nq:iI ["numbers", "rising", "ahead", "behind"] ["numbers"] (iD rN):=by walk_at "s"
def Qy:iI ["entry"] ["entry"] (iD Dw):=by walk_at "s"
def Qo:iI ["entries"] ["entries"] (iD CG):=by walk_at "s"
def Jw:iI ["self", "ware"] ["self", "ware"] (iD tO):=by walk_at "s"
def Fo:iI ["self", "ware", "row"] ["self", "ware", "row"] (iD pY):=by walk_at "s"
def Gf:iI ["lot"] ["lot"] (iD qZ):=by walk_at "s"
def Io:iI ["self", "number", "since", "pieces", "cost"] ["self", "number", "since", "pieces", "cost"] (iD rJ):=by walk_at "s"
def Ey:iI ["self", "pieces", "cost"] ["self", "pieces", "cost"] (iD qb):=by walk_at "s"
def PQ:iI ["lots", "lot"] ["lots", "lot"] (iD Df):=by walk_at "s"
def tR:iI ["self", "ware", "lots", "row", "lot"] ["self", "ware", "lots"] (iD CT):=by walk_at "s"
def Js:iI ["self", "entry"] ["self", "entry"] (iD tH):=by walk_at "s"
def Et:iI ["parts"] ["parts"] (iD qm):=by walk_at "s"
def Pq:iI ["self"] ["self"] (iD xX):=by walk_at "s"
def HF:iI ["sale"] ["sale"] (iD rF):=by walk_at "s"
def uV:iI ["self", "entry", "sale"] ["self", "entry", "sale"] (iD lQ):=by walk_at "s"
def Fv:iI ["self", "number", "day", "ware", "proceeds", "parts", "laid_on"] ["self", "number", "day", "ware", "proceeds", "parts", "laid_on"] (iD pR):=by walk_at "s"
def HJ:iI ["sale", "number"] ["sale", "number"] (iD rE):=by walk_at "s"
def ph:iI ["self", "entry", "taken"] ["self", "entry"] (iD mO):=by walk_at "s"
def xU:iI ["self", "entry", "cost"] ["self", "entry"] (iD tZ):=by walk_at "s"
def Il:iI ["self", "entry"] ["self", "entry"] (iD qX):=by walk_at "s"
def sS:iI ["weights", "whole"] ["weights"] (iD oU):=by walk_at "s"
def Ul:iI ["amount", "part", "whole"] ["amount", "part", "whole"] (iD Jc):=by walk_at "s"
def pC:iI ["amount", "weights", "whole", "shares", "weight_till_here", "dealt_till_here", "weight", "dealt_with_it"] ["amount", "weights"] (iD Qa):=by walk_at "s"
def Cy:iI ["entry", "lots", "shares", "parts"] ["entry", "lots"] (iD Ij):=by walk_at "s"
def IV:iI ["self", "lots"] ["self", "lots"] (iD rB):=by walk_at "s"
def Tw:iI ["lots"] ["lots"] (iD Ip):=by walk_at "s"
def ux:iI ["self", "lots", "costs"] ["self", "lots"] (iD qw):=by walk_at "s"
def wG:iI ["self", "pieces", "cost", "gone"] ["self", "pieces"] (iD Ao):=by walk_at "s"
def kJ:iI ["lots", "picks", "left", "taken", "number", "pieces", "lot", "parts"] ["lots", "picks"] (iD um):=by walk_at "s"
def kh:iI ["lots", "pieces", "picks", "wanted", "lot", "going"] ["lots", "pieces"] (iD qx):=by walk_at "s"
def Gg:iI ["self", "lots", "pieces"] ["self", "lots", "pieces"] (iD rC):=by walk_at "s"
def Iv:iI ["self", "lots", "pieces"] ["self", "lots", "pieces"] (iD rK):=by walk_at "s"
def Fq:iI ["self", "other"] ["self", "other"] (iD qg):=by walk_at "s"
def mL:iI ["lots", "turn", "lot", "cheaper"] ["lots"] (iD pP):=by walk_at "s"
def Fb:iI ["self", "lots", "pieces"] ["self", "lots", "pieces"] (iD qj):=by walk_at "s"
def vB:iI ["way", "lots", "pieces", "named", "row", "picks"] ["way", "lots", "pieces", "named"] (iD Ak):=by walk_at "s"
def sE:iI ["self", "entry", "gone"] ["self", "entry"] (iD oW):=by walk_at "s"
def Gy:iI ["self", "entry"] ["self", "entry"] (iD rA):=by walk_at "s"
def jP:iI ["lots", "many", "of", "counts", "pieces_till_here", "split_till_here", "lot", "split_with_it"] ["lots", "many", "of"] (iD qY):=by walk_at "s"
def lw:iI ["lots", "many", "of", "row", "cost_of_gone", "lot", "pieces", "last"] ["lots", "many", "of"] (iD Bd):=by walk_at "s"
def Fx:iI ["self", "entry"] ["self", "entry"] (iD qp):=by walk_at "s"
def pH:iI ["lots", "share", "whole", "parts", "going_on", "second"] ["lots", "share", "whole"] (iD vW):=by walk_at "s"
def qJ:iI ["self", "entry", "rows"] ["self", "entry"] (iD nQ):=by walk_at "s"
def Bq:iI ["self", "entry"] ["self", "entry"] (iD nW):=by walk_at "s"
def DW:iI ["held", "ware", "pieces", "changed"] ["held", "ware", "pieces"] (iD Ay):=by walk_at "s"
def Du:iI ["held", "ware", "pieces"] ["held", "ware", "pieces"] (iD oM):=by walk_at "s"
def Bj:iI ["self", "held"] ["self", "held"] (iD nZ):=by walk_at "s"
def qK:iI ["held", "ware", "pieces", "before"] ["held", "ware", "pieces"] (iD ou):=by walk_at "s"
def Al:iI ["self", "held"] ["self", "held"] (iD nj):=by walk_at "s"
def Az:iI ["self", "held"] ["self", "held"] (iD mY):=by walk_at "s"
def mC:iI ["self", "held", "before", "behind"] ["self", "held"] (iD mQ):=by walk_at "s"
def uW:iI ["self", "held"] ["self", "held"] (iD lU):=by walk_at "s"
def MK:iI ["lots"] ["lots"] (iD xW):=by walk_at "s"
def Mu:iI ["self"] ["self"] (iD Aj):=by walk_at "s"
def Te:iI ["self", "entry"] ["self", "entry"] (iD Gw):=by walk_at "s"
def uQ:iI ["book", "entries", "entry"] ["book", "entries"] (iD qe):=by walk_at "s"
def Fl:iI ["self", "way"] ["self", "way"] (iD pZ):=by walk_at "s"
def uR:iI ["self", "way", "days"] ["self", "way", "days"] (iD lV):=by walk_at "s"
def CP:iI ["way", "days", "entries"] ["way", "days", "entries"] (iD oR):=by walk_at "s"
def BX:iI ["value"] ["value"] (iD nT):=by walk_at "s"
def Jb:iI ["what", "value", "least", "most"] ["what", "value", "least", "most"] (iD rm):=by walk_at "s"
def Tu:iI ["value"] ["value"] (iD Ga):=by walk_at "s"
def Ld:iI ["what", "value"] ["what", "value"] (iD vZ):=by walk_at "s"
def CJ:iI ["self", "day", "number", "ware"] ["self", "day", "number", "ware"] (iD oV):=by walk_at "s"
def Ag:iI ["self", "day", "number", "ware", "other", "share", "whole"] ["self", "day", "number", "ware", "other", "share", "whole"] (iD nH):=by walk_at "s"
def JC:iI ["pieces", "price", "fee"] ["pieces", "price", "fee"] (iD uh):=by walk_at "s"
def Gi:iI ["self", "day", "number", "ware", "pieces", "price", "fee"] ["self", "day", "number", "ware", "pieces", "price", "fee"] (iD lJ):=by walk_at "s"
def JB:iI ["named", "pieces", "seen", "lot", "lot_pieces"] ["named", "pieces"] (iD tE):=by walk_at "s"
def Ly:iI ["named"] ["named"] (iD wH):=by walk_at "s"
def Fd:iI ["self", "day", "number", "ware", "pieces", "price", "fee", "named"] ["self", "day", "number", "ware", "pieces", "price", "fee", "named"] (iD lq):=by walk_at "s"
def Fz:iI ["self", "day", "number", "ware", "pieces", "cost", "since"] ["self", "day", "number", "ware", "pieces", "cost", "since"] (iD pQ):=by walk_at "s"
def Dp:iI ["self", "day", "number", "ware", "many", "of"] ["self", "day", "number", "ware", "many", "of"] (iD oY):=by walk_at "s"
def Lp:iI ["_law_row_here"] ["_law_row_here"] (iD wj):=by walk_at "s"
def Oq:iI ["self"] ["self"] (iD Ba):=by walk_at "s"
def GZ:iI ["self"] ["self"] (iD rG):=by walk_at "s"
def HS:iI ["sale"] ["sale"] (iD rD):=by walk_at "s"
def Lh:iI ["self"] ["self"] (iD vL):=by walk_at "s"
def DQ:iI ["_law_book", "_law_due", "_law_sums"] ["_law_book", "_law_due"] (iD Ai):=by walk_at "s"
def Qt:iI ["_law_cell"] ["_law_cell"] (iD Dj):=by walk_at "s"
def UG:iI ["way", "entries"] ["way", "entries"] (iD Gb):=by walk_at "s"
def Cd:iI ["self"] ["self"] (iD nP):=by walk_at "s"
def DY:iI ["_law_script", "_law_rows", "_law_days_here", "_law_due", "_law_k", "_law_entries", "_law_book", "_law_laid"] ["_law_script"] (iD YL):=by walk_at "s"
section
variable{P:Program}{w:World}{K:Fg_}{mg:Str->Option Value}{base:Heap}{A:Adr}{D:Fds}
def xT(T:Txt K mg A D):Binds K D.zy ["_law_counts", "_law_row_here"] []:=T.abB.F.binds λ_ _ _ _ _ _=>ln2 λ_ _=>rfl
def mD(T:Txt K mg A D):Binds K D.zA ["_law_script", "_law_k"] []:=T.abC.F.binds λ_ _ _ _ _ _=>ln2 λ_ _=>rfl
def Ls(T:Txt K mg A D):Binds K D.zB ["_law_rows", "_law_script"] []:=T.abD.F.binds λ_ _ _ _ _ _=>ln2 λ_ _=>rfl
def Qi(T:Txt K mg A D):Binds K D.zC ["_law_script"] []:=T.abE.F.binds λ_ _ _ _ _ _=>ln1 λ_=>rfl
def OD(T:Txt K mg A D):Binds K D.zD ["_law_rows"] []:=T.abF.F.binds λ_ _ _ _ _ _=>ln1 λ_=>rfl
def Ms(T:Txt K mg A D):Binds K D.zE ["_law_cell", "_law_k"] []:=T.abG.F.binds λ_ _ _ _ _ _=>ln2 λ_ _=>rfl
def Jl(T:Txt K mg A D):Binds K D.zF ["_law_script"] []:=T.abH.F.binds λ_ _ _ _ _ _=>ln1 λ_=>rfl
def je(T:Txt K mg A D):Binds K D.zG ["_law_digits", "_law_many"] []:=T.abI.F.binds λ_ _ _ _ _ _=>ln2 λ_ _=>rfl
def Fg(T:Txt K mg A D):Binds K D.zH ["_law_day", "_law_number", "_law_ware", "_law_digits", "_law_here"] []:=T.abJ.F.binds λ_ _ _ _ _ _=>ln5 λ_ _ _ _ _=>rfl
def Hr(T:Txt K mg A D):Binds K D.zI ["_law_day", "_law_number", "_law_wares", "_law_digits", "_law_counts"] []:=T.abK.F.binds λ_ _ _ _ _ _=>ln5 λ_ _ _ _ _=>rfl
def Hi(T:Txt K mg A D):Binds K D.zJ ["_law_digits", "_law_here"] []:=T.abL.F.binds λ_ _ _ _ _ _=>ln2 λ_ _=>rfl
def Eh(T:Txt K mg A D):Binds K D.zK ["_law_digits"] []:=T.abM.F.binds λ_ _ _ _ _ _=>ln1 λ_=>rfl
def Bf(T:Txt K mg A D):Binds K D.zL ["_law_digits"] []:=T.abN.F.binds λ_ _ _ _ _ _=>ln1 λ_=>rfl
def UV(T:Txt K mg A D):Binds K D.zM ["_law_raw_here", "_law_counts", "_law_giving"] []:=T.abO.F.binds λ_ _ _ _ _ _=>ln3 λ_ _ _=>rfl
def Uy(T:Txt K mg A D):Binds K D.zN ["_law_source", "_law_k"] []:=T.abP.F.binds λ_ _ _ _ _ _=>ln2 λ_ _=>rfl
def Ju(T:Txt K mg A D):Binds K D.zO ["_law_script", "_law_giving"] []:=T.abQ.F.binds λ_ _ _ _ _ _=>ln2 λ_ _=>rfl
def Jq(T:Txt K mg A D):Binds K D.zP ["numbers"] []:=T.abR.F.binds λ_ _ _ _ _ _=>ln1 λ_=>rfl
def Dm(T:Txt K mg A D):Binds K D.zQ ["entry"] []:=T.abS.F.binds λ_ _ _ _ _ _=>ln1 λ_=>rfl
def Ut(T:Txt K mg A D):Binds K D.zR ["entries"] []:=T.abT.F.binds λ_ _ _ _ _ _=>ln1 λ_=>rfl
def jO(T:Txt K mg A D):Binds K D.zS ["self", "ware"] []:=T.abU.binds λ_ _ _ _ _ _=>ln2 λ_ _=>rfl
def jR(T:Txt K mg A D):Binds K D.zT ["self", "ware", "row"] []:=T.abV.binds λ_ _ _ _ _ _=>ln3 λ_ _ _=>rfl
def JK(T:Txt K mg A D):Binds K D.zU ["lot"] []:=T.abW.F.binds λ_ _ _ _ _ _=>ln1 λ_=>rfl
def jM(T:Txt K mg A D):Binds K D.zV ["self", "number", "since", "pieces", "cost"] []:=T.abX.binds λ_ _ _ _ _ _=>ln5 λ_ _ _ _ _=>rfl
def wg(T:Txt K mg A D):Binds K D.zW ["self", "pieces", "cost"] []:=T.abY.binds λ_ _ _ _ _ _=>ln3 λ_ _ _=>rfl
def Uq(T:Txt K mg A D):Binds K D.zX ["lots", "lot"] []:=T.abZ.F.binds λ_ _ _ _ _ _=>ln2 λ_ _=>rfl
def pK(T:Txt K mg A D):Binds K D.zY ["self", "ware", "lots"] []:=T.ab0.binds λ_ _ _ _ _ _=>ln3 λ_ _ _=>rfl
def KN(T:Txt K mg A D):Binds K D.zZ ["self", "entry"] []:=T.ab1.binds λ_ _ _ _ _ _=>ln2 λ_ _=>rfl
def vI(T:Txt K mg A D):Binds K D.z0 ["parts"] []:=T.ab2.F.binds λ_ _ _ _ _ _=>ln1 λ_=>rfl
def qu(T:Txt K mg A D):Binds K D.z3 ["self"] []:=T.ab3.binds λ_ _ _ _ _ _=>ln1 λ_=>rfl
def Jk(T:Txt K mg A D):Binds K D.z4 ["sale"] []:=T.ab4.F.binds λ_ _ _ _ _ _=>ln1 λ_=>rfl
def oH(T:Txt K mg A D):Binds K D.z5 ["self", "entry", "sale"] []:=T.ab5.binds λ_ _ _ _ _ _=>ln3 λ_ _ _=>rfl
def pU(T:Txt K mg A D):Binds K D.z6 ["self", "number", "day", "ware", "proceeds", "parts", "laid_on"] []:=T.ab6.binds λ_ _ _ _ _ _=>ln7 λ_ _ _ _ _ _ _=>rfl
def Jj(T:Txt K mg A D):Binds K D.z7 ["sale", "number"] []:=T.ab7.F.binds λ_ _ _ _ _ _=>ln2 λ_ _=>rfl
def Ar(T:Txt K mg A D):Binds K D.z8 ["self", "entry"] []:=T.ab8.binds λ_ _ _ _ _ _=>ln2 λ_ _=>rfl
def BK(T:Txt K mg A D):Binds K D.z9 ["self", "entry"] []:=T.ab9.binds λ_ _ _ _ _ _=>ln2 λ_ _=>rfl
def xq(T:Txt K mg A D):Binds K D.aaa ["self", "entry"] []:=T.aca.binds λ_ _ _ _ _ _=>ln2 λ_ _=>rfl
def Er(T:Txt K mg A D):Binds K D.aab ["weights"] []:=T.acb.F.binds λ_ _ _ _ _ _=>ln1 λ_=>rfl
def HX(T:Txt K mg A D):Binds K D.aac ["amount", "part", "whole"] []:=T.acd.F.binds λ_ _ _ _ _ _=>ln3 λ_ _ _=>rfl
def Wr(T:Txt K mg A D):Binds K D.aad ["amount", "weights"] []:=T.ace.F.binds λ_ _ _ _ _ _=>ln2 λ_ _=>rfl
def Wn(T:Txt K mg A D):Binds K D.aae ["entry", "lots"] []:=T.acf.F.binds λ_ _ _ _ _ _=>ln2 λ_ _=>rfl
def qW(T:Txt K mg A D):Binds K D.aaf ["self", "lots"] []:=T.acg.binds λ_ _ _ _ _ _=>ln2 λ_ _=>rfl
def HD(T:Txt K mg A D):Binds K D.aag ["lots"] []:=T.ach.F.binds λ_ _ _ _ _ _=>ln1 λ_=>rfl
def Gh(T:Txt K mg A D):Binds K D.aah ["self", "lots"] []:=T.aci.binds λ_ _ _ _ _ _=>ln2 λ_ _=>rfl
def QM(T:Txt K mg A D):Binds K D.aai ["self", "pieces"] []:=T.acj.binds λ_ _ _ _ _ _=>ln2 λ_ _=>rfl
def Lq(T:Txt K mg A D):Binds K D.aaj ["lots", "picks"] []:=T.ack.F.binds λ_ _ _ _ _ _=>ln2 λ_ _=>rfl
def qd(T:Txt K mg A D):Binds K D.aak ["lots", "pieces"] []:=T.acl.F.binds λ_ _ _ _ _ _=>ln2 λ_ _=>rfl
def xx(T:Txt K mg A D):Binds K D.aal ["self", "lots", "pieces"] []:=T.acm.binds λ_ _ _ _ _ _=>ln3 λ_ _ _=>rfl
def Jp(T:Txt K mg A D):Binds K D.aam ["self", "lots", "pieces"] []:=T.acn.binds λ_ _ _ _ _ _=>ln3 λ_ _ _=>rfl
def Hw(T:Txt K mg A D):Binds K D.aan ["self", "other"] []:=T.aco.binds λ_ _ _ _ _ _=>ln2 λ_ _=>rfl
def GQ(T:Txt K mg A D):Binds K D.aao ["lots"] []:=T.acp.F.binds λ_ _ _ _ _ _=>ln1 λ_=>rfl
def GD(T:Txt K mg A D):Binds K D.aap ["self", "lots", "pieces"] []:=T.acq.binds λ_ _ _ _ _ _=>ln3 λ_ _ _=>rfl
def Px(T:Txt K mg A D):Binds K D.aaq ["way", "lots", "pieces", "named"] []:=T.acr.F.binds λ_ _ _ _ _ _=>ln4 λ_ _ _ _=>rfl
def uw(T:Txt K mg A D):Binds K D.aar ["self", "entry"] []:=T.acs.binds λ_ _ _ _ _ _=>ln2 λ_ _=>rfl
def xQ(T:Txt K mg A D):Binds K D.aas ["self", "entry"] []:=T.act.binds λ_ _ _ _ _ _=>ln2 λ_ _=>rfl
def JN(T:Txt K mg A D):Binds K D.aat ["lots", "many", "of"] []:=T.acu.F.binds λ_ _ _ _ _ _=>ln3 λ_ _ _=>rfl
def Qx(T:Txt K mg A D):Binds K D.aau ["lots", "many", "of"] []:=T.acv.F.binds λ_ _ _ _ _ _=>ln3 λ_ _ _=>rfl
def wF(T:Txt K mg A D):Binds K D.aav ["self", "entry"] []:=T.acw.binds λ_ _ _ _ _ _=>ln2 λ_ _=>rfl
def Nr(T:Txt K mg A D):Binds K D.aaw ["lots", "share", "whole"] []:=T.acx.F.binds λ_ _ _ _ _ _=>ln3 λ_ _ _=>rfl
def rW(T:Txt K mg A D):Binds K D.aax ["self", "entry"] []:=T.acy.binds λ_ _ _ _ _ _=>ln2 λ_ _=>rfl
def sW(T:Txt K mg A D):Binds K D.aay ["self", "entry"] []:=T.acz.binds λ_ _ _ _ _ _=>ln2 λ_ _=>rfl
def Aw(T:Txt K mg A D):Binds K D.aaz ["held", "ware", "pieces"] []:=T.acA.F.binds λ_ _ _ _ _ _=>ln3 λ_ _ _=>rfl
def oX(T:Txt K mg A D):Binds K D.aaA ["held", "ware", "pieces"] []:=T.acB.F.binds λ_ _ _ _ _ _=>ln3 λ_ _ _=>rfl
def Cu(T:Txt K mg A D):Binds K D.aaB ["self", "held"] []:=T.acC.binds λ_ _ _ _ _ _=>ln2 λ_ _=>rfl
def Cv(T:Txt K mg A D):Binds K D.aaC ["held", "ware", "pieces"] []:=T.acD.F.binds λ_ _ _ _ _ _=>ln3 λ_ _ _=>rfl
def Bs(T:Txt K mg A D):Binds K D.aaD ["self", "held"] []:=T.acE.binds λ_ _ _ _ _ _=>ln2 λ_ _=>rfl
def BW(T:Txt K mg A D):Binds K D.aaE ["self", "held"] []:=T.acF.binds λ_ _ _ _ _ _=>ln2 λ_ _=>rfl
def Aa(T:Txt K mg A D):Binds K D.aaF ["self", "held"] []:=T.acG.binds λ_ _ _ _ _ _=>ln2 λ_ _=>rfl
def vH(T:Txt K mg A D):Binds K D.aaG ["self", "held"] []:=T.acH.binds λ_ _ _ _ _ _=>ln2 λ_ _=>rfl
def QF(T:Txt K mg A D):Binds K D.aaH ["lots"] []:=T.acI.F.binds λ_ _ _ _ _ _=>ln1 λ_=>rfl
def tM(T:Txt K mg A D):Binds K D.aaI ["self"] []:=T.acJ.binds λ_ _ _ _ _ _=>ln1 λ_=>rfl
def Nf(T:Txt K mg A D):Binds K D.aaJ ["self", "entry"] []:=T.acK.binds λ_ _ _ _ _ _=>ln2 λ_ _=>rfl
def vU(T:Txt K mg A D):Binds K D.aaK ["book", "entries"] []:=T.acL.F.binds λ_ _ _ _ _ _=>ln2 λ_ _=>rfl
def wu(T:Txt K mg A D):Binds K D.aaL ["self", "way"] []:=T.acM.binds λ_ _ _ _ _ _=>ln2 λ_ _=>rfl
def vM(T:Txt K mg A D):Binds K D.aaM ["self", "way", "days"] []:=T.acN.binds λ_ _ _ _ _ _=>ln3 λ_ _ _=>rfl
def Ew(T:Txt K mg A D):Binds K D.aaN ["way", "days", "entries"] []:=T.acO.F.binds λ_ _ _ _ _ _=>ln3 λ_ _ _=>rfl
def Dd(T:Txt K mg A D):Binds K D.aaO ["value"] []:=T.acP.F.binds λ_ _ _ _ _ _=>ln1 λ_=>rfl
def ju(T:Txt K mg A D):Binds K D.aaP ["what", "value", "least", "most"] []:=T.acQ.F.binds λ_ _ _ _ _ _=>ln4 λ_ _ _ _=>rfl
def Xc(T:Txt K mg A D):Binds K D.aaQ ["value"] []:=T.acR.F.binds λ_ _ _ _ _ _=>ln1 λ_=>rfl
def DX(T:Txt K mg A D):Binds K D.aaR ["what", "value"] []:=T.acS.F.binds λ_ _ _ _ _ _=>ln2 λ_ _=>rfl
def lF(T:Txt K mg A D):Binds K D.aaS ["self", "day", "number", "ware"] []:=T.acT.binds λ_ _ _ _ _ _=>ln4 λ_ _ _ _=>rfl
def Bg(T:Txt K mg A D):Binds K D.aaT ["self", "day", "number", "ware", "other", "share", "whole"] []:=T.acU.binds λ_ _ _ _ _ _=>ln7 λ_ _ _ _ _ _ _=>rfl
def Cm(T:Txt K mg A D):Binds K D.aaU ["pieces", "price", "fee"] []:=T.acV.F.binds λ_ _ _ _ _ _=>ln3 λ_ _ _=>rfl
def KH(T:Txt K mg A D):Binds K D.aaW ["named", "pieces"] []:=T.acX.F.binds λ_ _ _ _ _ _=>ln2 λ_ _=>rfl
def Ow(T:Txt K mg A D):Binds K D.aaX ["named"] []:=T.acY.F.binds λ_ _ _ _ _ _=>ln1 λ_=>rfl
def Ih(T:Txt K mg A D):Binds K D.aaZ ["self", "day", "number", "ware", "pieces", "cost", "since"] []:=T.ac0.binds λ_ _ _ _ _ _=>ln7 λ_ _ _ _ _ _ _=>rfl
def Fe(T:Txt K mg A D):Binds K D.aa0 ["self", "day", "number", "ware", "many", "of"] []:=T.ac1.binds λ_ _ _ _ _ _=>ln6 λ_ _ _ _ _ _=>rfl
def OJ(T:Txt K mg A D):Binds K D.aa1 ["_law_row_here"] []:=T.ac2.F.binds λ_ _ _ _ _ _=>ln1 λ_=>rfl
def Hl(T:Txt K mg A D):Binds K D.aa2 ["self"] []:=T.ac3.binds λ_ _ _ _ _ _=>ln1 λ_=>rfl
def Jv(T:Txt K mg A D):Binds K D.aa3 ["self"] []:=T.ac4.binds λ_ _ _ _ _ _=>ln1 λ_=>rfl
def Jr(T:Txt K mg A D):Binds K D.aa4 ["sale"] []:=T.ac5.F.binds λ_ _ _ _ _ _=>ln1 λ_=>rfl
def vd(T:Txt K mg A D):Binds K D.aa5 ["self"] []:=T.ac6.binds λ_ _ _ _ _ _=>ln1 λ_=>rfl
def Gz(T:Txt K mg A D):Binds K D.aa6 ["_law_book", "_law_due"] []:=T.ac7.F.binds λ_ _ _ _ _ _=>ln2 λ_ _=>rfl
def Kp(T:Txt K mg A D):Binds K D.aa7 ["_law_cell"] []:=T.ac8.F.binds λ_ _ _ _ _ _=>ln1 λ_=>rfl
def Vj(T:Txt K mg A D):Binds K D.aa8 ["way", "entries"] []:=T.ac9.F.binds λ_ _ _ _ _ _=>ln2 λ_ _=>rfl
def CK(T:Txt K mg A D):Binds K D.aa9 ["self"] []:=T.ada.binds λ_ _ _ _ _ _=>ln1 λ_=>rfl
def uP(T:Txt K mg A D):∃ds,Binds K D.aaV ["self", "day", "number", "ware", "pieces", "price", "fee"] ds/\Vals (([V.int 0]:List V).drop 1) ds:=T.acW.binds (ps:=["self", "day", "number", "ware", "pieces", "price", "fee"]) 1 λTd kV q pm an aa ct its us h1 h2=>by
  revert us;revert h1;revert its;refine ln1 λi0 us h2=>?_;have z:us.length=7:=by simpa using h2
  clear h2;revert z;revert us;exact ln7 λ_ _ _ _ _ _ _=>⟨_,rfl,rfl⟩
def sy(T:Txt K mg A D):∃ds,Binds K D.aaY ["self", "day", "number", "ware", "pieces", "price", "fee", "named"] ds/\Vals (([V.int 0,V.non]:List V).drop 2) ds:=T.acZ.binds (ps:=["self", "day", "number", "ware", "pieces", "price", "fee", "named"]) 2 λTd kV q pm an aa ct its us h1 h2=>by
  revert us;revert h1;revert its;refine ln2 λi0 i1 us h2=>?_;have z:us.length=8:=by simpa using h2
  clear h2;revert z;revert us;exact ln8 λ_ _ _ _ _ _ _ _=>⟨_,rfl,rfl⟩
end
end My
namespace My
open PySem L2 PyProof.Rows
open PySem.W (codeIn findCls findIn fnOf hasDictIn isFn keepIn kitOne makesIn mg_none_of mg_of mroIn nsIn plainGet plainOver readsIn specialIn takesIn)
end My
namespace My
open PySem L2 PyProof.Rows
open PySem.W (codeIn findCls findIn fnOf hasDictIn isFn keepIn kitOne makesIn mg_none_of mg_of mroIn nsIn plainGet plainOver readsIn specialIn takesIn)
section
variable{P:Program}{w:World}{K:Fg_}{mg:Str->Option Value}{base:Heap}{A:Adr}{D:Fds}
def jC{t u:TS}{D:_}{σ:L2.St}{H:Hp}(h:∀v,v=u->Xb t v D σ H):Xb t u D σ H:=h u rfl
def Lg{wi:TI}{g:TG}{tb:TS}{D:_}{σ:L2.St}{H:Hp}(h:∀v,v=tb->ajA wi g v D σ H):ajA wi g tb D σ H:=h tb rfl
def Jf.listN{K:Fg_}{a:Addr}{xs:List V}{g:TG}{tb:TS}{D:_}{σ:L2.St}{H:Hp}(z:Nat->L2.St->Hp->Prop)(h0:z 0 σ H)(hl:∀i σ H,i<=xs.length->z i σ H->SqL K H a xs)(hs:∀i x σ H,xs[i]? =some x->z i σ H->∀N:L2.St->Hp->Prop,(∀σ H,z (i+1) σ H->N σ H)->g x σ H λσ2 H2=>tb {D with nx:=N,ct:=N,bk:=D.nx} σ2 H2)(hd:∀σ H,z xs.length σ H->D.nx σ H):Jf (Itl K a) g tb D σ H:=
 wJ z h0 hl (λi x σ H h p=>hs i x σ H h p _ λ_ _ q=>q) hd
def Jf.rangeN{lo:Int}{n:Nat}{g:TG}{tb:TS}{D:_}{σ:L2.St}{H:Hp}(z:Nat->L2.St->Hp->Prop)(h0:z 0 σ H)(hs:∀i σ H,i<n->z i σ H->∀N:L2.St->Hp->Prop,(∀σ H,z (i+1) σ H->N σ H)->g (.int (lo+i)) σ H λσ2 H2=>tb {D with nx:=N,ct:=N,bk:=D.nx} σ2 H2)(hd:∀σ H,z n σ H->D.nx σ H):Jf (Itr lo n) g tb D σ H:=
 Jf.range z h0 (λi σ H h p=>hs i σ H h p _ λ_ _ q=>q) hd
def Zw{x:Int}{m k:Nat}(q:x.natAbs<2^m)(h:m<=k):x.natAbs<2^k:=yi q (zzp (by decide) h)
def Dh{ns:List Int}{i:Nat}{y:V}(h:(ns.map V.int)[i]? =some y):∃z,y=V.int z/\ns[i]? =some z:=by
 rw[zh]at h
 cases e:ns[i]? with
 |none=>rw[e]at h;cases h
 |some z=>rw[e]at h;exact⟨z,(zw h).symm,rfl⟩
def tyL{K:Fg_}{H:Hp}{p:Addr}{xs:List V}(h:SqL K H p xs):tyV K "list" (.ref p) H:=.inl ⟨rfl,_,h⟩
inductive vV(K:Fg_)(vs:List V)(H:Hp)(Q:VK)(E:XK):Prop
 |mk (a:Addr) (ns:List Int) (k:Nat) (_:vs=[.ref a,.int k]) (_:SqL K H a (ns.map V.int)) (_:Q (.int (ns.getD k 0)) H):vV K vs H Q E
def lW(T:Txt K mg A D):jE P w K mg base CX0 1 A.zA D.zA ["_law_script", "_law_k"] (vV K):=by
 refine T.abC.F.okv Ho λ_ _ _ _ H vs Q E hr h=>?_
 ·obtain⟨a,ns,q,rfl,z,k⟩:=h
  refine ⟨_,(iu (jK (iR (Mi) (pvD 1) (jc (mG (K:=K)) (by rfl) T.add (by decide+kernel) (pav 0 iy)) (iY _)) (iz (iM (jm (kW (K:=K)) (pvD 0) (pvD 1) (λ_ _=>rfl)))) jd)
   (iz (iM iB))),?_⟩
  walk_at "a";refine⟨_,.inl z,?_⟩;rw[za];by_cases h:q<ns.length
  ·rw[zn (by omega)]
   refine⟨_,z,_,Cz (j:=q) (v:=.int (ns.getD q 0)) ?_,k⟩;rw[zh,zg h,yyp,zg h];rfl
  ·rw[ze (by omega)]
   rw[yyp,yx (by omega)]at k;exact k
def ZQ(xs:List V)(n:Nat):Ym xs (some (n:Int)) none=xs.drop n:=by
 unfold Ym;rw[HT.sIx_none,HT.sIx_nat];rcases Nat.le_total n xs.length with h|h
 ·rw[Nat.min_eq_left h,yr (by rw[zzh];exact zj _)]
 ·rw[Nat.min_eq_right h,zz4 (zj _),zz4 h,List.take_nil]
noncomputable def Nm(z:Str):Prop:=1<=z.length/\z.length<=8/\∀c∈z.cps.toList,97<=c/\c<=122
inductive qG(vs:List V)(H:Hp)(Q:VK)(E:XK):Prop
 |mk (i:Int) (_:vs=[.int i]) (_:Q (.bl true) H):qG vs H Q E
def Bl(T:Txt K mg A D):jE P w K mg base CX0 1 A.aaO D.aaO ["value"] qG:=by
 refine T.acP.F.okv BX λ_ _ _ _ H vs Q E q h=>?_
 ·obtain⟨i,rfl,k⟩:=h
  refine⟨_,(iz (iM (Ka (jc (Gk (K:=K)) (by rfl) T.ado (by decide+kernel) (pav 0 (ig (ahC "int" (by rfl) T.adp (by decide+kernel)) iy))) (Rn (aja (jc (Gk (K:=K)) (by rfl) T.ado (by decide+kernel) (pav 0 (ig (ahC "bool" (by rfl) T.adq (by decide+kernel)) iy)))))))),?_⟩;walk_at "a";refine⟨_,.int i,true,by with_unfolding_all rfl,?_⟩;walk_at "a";refine⟨_,.int i,false,by with_unfolding_all rfl,?_⟩;walk_at "a";exact k
inductive vP(vs:List V)(H:Hp)(Q:VK)(E:XK):Prop
 |mk (z:Str) (i lo hi:Int) (_:vs=[.str z,.int i,.int lo,.int hi]) (_:lo<=i) (_:i<=hi) (_:Q .non H):vP vs H Q E
def jn(T:Txt K mg A D):jE P w K mg base CX0 2 A.aaP D.aaP ["what", "value", "least", "most"] vP:=by
 refine T.acQ.F.okv Jb λ_ _ _ _ H vs Q E q h=>?_
 ·obtain⟨z,i,lo,hi,rfl,h1,h2,k⟩:=h
  refine⟨_,(iz (jK (PW.pt (Fj (Kc (oF (pcg (Bl T) q T.acP (Dd T) (pav 1 iy)))) (Fj (iR (Mi) (pvD 1) (pvD 2) (iY _)) (Bk (iR (HN) (pvD 1) (pvD 3) (iY _)))))) (iz (kY)) jd)),?_⟩;walk_at "a";refine⟨i,rfl,?_⟩;walk_at "a";rw[ze (by omega),ze (by omega)];exact k
inductive JQ(vs:List V)(H:Hp)(Q:VK)(E:XK):Prop
 |mk (z:Str) (_:vs=[.str z]) (_:Nm z) (_:∀H',Same H H'->Q (.bl true) H'):JQ vs H Q E
def UJ(T:Txt K mg A D):jE P w K mg base CX0 1 A.aaQ D.aaQ ["value"] JQ:=by
 refine T.acR.F.okv Tu λ_ _ _ _ H vs Q E hr h=>?_
 ·obtain⟨z,rfl,⟨n1,n2,n3⟩,k⟩:=h
  refine ⟨_,(iu (jK (PW.pt (Fj (Kc (oF (jc (Gk (K:=K)) (by rfl) T.ado (by decide+kernel) (pav 0 (ig (ahC "str" (by rfl) T.ads (by decide+kernel)) iy))))) (Fj (iR (Mi) (jc Ek (by rfl) T.add (by decide+kernel) (pav 0 iy)) iB (iY _)) (Bk (iR (HN) (jc Ek (by rfl) T.add (by decide+kernel) (pav 0 iy)) (lK (v:=V.int 8) (by rfl) T.adJ ⟨_,rfl⟩) (iY _)))))) (iz (iM Lw)) jd)
   (iz (iM (jc (XX (K:=K) rfl) (by rfl) T.adr (by decide+kernel) (ig (jB (cap:=[none]) (N':=["sign"]) rfl (by walk_at "c") (ajj (pvD 0)) (λ_ _ _ _=>(iK (i:=0) nd1 rfl orl orr)) (λ_ _ _ _=>jA) (λ_ _ _ _=>(Zh (Pg) (Pg) ji (pvD 0) ji))) iy))))),?_⟩
  walk_at "a";refine⟨_,.str z,true,by with_unfolding_all rfl,?_⟩;walk_at "a";have q:z.length<=sizeLine:=by rw[zv];omega
  iterate 2 (refine⟨q,?_⟩;rw[ze (by omega)])
  refine jZ.str (λσ=>∃v,σ=[v]) (λ_=>true) (λ_=> .bl true) ⟨none,rfl⟩ q ?_ ?_
  ·rintro x hx σ H5 R1 R2 ⟨v,rfl⟩ sm k1 k2
   obtain⟨c,hc,rfl⟩:=zi.mp hx;obtain⟨c1,c2⟩:=n3 c hc;walk_at "a";have ea:(Str.ofString "a").cps.toList=[97]:=by decide+kernel
   have ez:(Str.ofString "z").cps.toList=[122]:=by decide+kernel
   rw[ea,ez]
   have h1:¬[c]<[97]:=λh=>by
    rcases List.cons_lt_cons_iff.mp h with h|h
    ·omega
    ·exact absurd h.2 (List.not_lt_nil _)
   have h2:¬[122]<[c]:=λh=>by
    rcases List.cons_lt_cons_iff.mp h with h|h
    ·omega
    ·exact absurd h.2 (List.not_lt_nil _)
   rw[zn h1,ym h2];exact k1 rfl _ _ ⟨_,rfl⟩ (same_refl _)
  ·intro Da H' hD sm e
   rw[Ia]at e;walk_at "a";refine⟨(L2.signs z).map λ_=>true,iH (by rw[e,zr];rfl),?_⟩;have:((L2.signs z).map λ_=>true).all id=true:=by simp
   rw[this];exact k H' sm
inductive Be(vs:List V)(H:Hp)(Q:VK)(E:XK):Prop
 |mk (t z:Str) (_:vs=[.str t,.str z]) (_:Nm z) (_:∀H',Same H H'->Q .non H'):Be vs H Q E
def Cq(T:Txt K mg A D):jE P w K mg base CX0 2 A.aaR D.aaR ["what", "value"] Be:=by
 refine T.acS.F.okv Ld λ_ _ _ _ H vs Q E q h=>?_
 ·obtain⟨t,z,rfl,hn,k⟩:=h
  refine⟨_,(iz (jK (Kc (oF (pcg (UJ T) q T.acR (Xc T) (pav 1 iy)))) (iz (kY)) jd)),?_⟩;walk_at "a";refine⟨z,rfl,hn,λH' sm=>?_⟩;walk_at "a";exact k H' sm
inductive xK(vs:List V)(H:Hp)(Q:VK)(E:XK):Prop
 |mk (p r f:Int) (_:vs=[.int p,.int r,.int f]) (_:(1<=p/\p<=1000000000)) (_:(0<=r/\r<=1000000000)) (_:(0<=f/\f<=1000000000)) (_:Q .non H):xK vs H Q E
def xP(T:Txt K mg A D):jE P w K mg base CX0 3 A.aaU D.aaU ["pieces", "price", "fee"] xK:=by
 refine T.acV.F.ok JC (by walk_at "v") (λ_ _ _ s H vs Q E q h=>?_)
 ·obtain⟨p,r,f,rfl,h1,h2,z,k⟩:=h
  refine ⟨_,(iu (jf (pcg (jn T) q T.acQ (ju T) (ig ji (pav 0 (ig iB (ig (lK (v:=V.int 1000000000) (by rfl) T.adN ⟨_,rfl⟩) iy))))))
   (iu (jf (pcg (jn T) q T.acQ (ju T) (ig ji (pav 1 (ig iB (ig (lK (v:=V.int 1000000000) (by rfl) T.adO ⟨_,rfl⟩) iy))))))
   (iz (jf (pcg (jn T) q T.acQ (ju T) (ig ji (pav 2 (ig iB (ig (lK (v:=V.int 1000000000) (by rfl) T.adP ⟨_,rfl⟩) iy))))))))),?_⟩
  walk_at "a";refine⟨_,_,_,_,rfl,h1.1,h1.2,?_⟩;walk_at "a";refine⟨_,_,_,_,rfl,h2.1,h2.2,?_⟩;walk_at "a";refine⟨_,_,_,_,rfl,z.1,z.2,?_⟩;exact k
def lA{f:Str}{v:V}{fs:List (Str×V)}(ns:List Str)(e:fs.map (·.1)=ns:=by rfl)(h:ns.contains f=false:=by decide+kernel):CN f v fs=fs++[(f,v)]:=wR f v (e▸h)
noncomputable def fsE(d n:Int)(w:Str):List (Str×V):=[("day",.int d),("number",.int n),("ware",.str w)]
structure Base(d n:Int)(w:Str):Prop where
 d0:0<=d
 d1:d<=1000000
 n0:0<=n
 n1:n<=1000000
 w:Nm w
structure CE(K:Fg_)(C:Addr):Prop where
 c:Cls K C
 d:iU K C "day"
 n:iU K C "number"
 w:iU K C "ware"
structure New(B H:Hp)(x:Addr)(C dx:Addr)(fs:List (Str×V)):Prop where
 s:Same B H
 n:B x=none
 h:H x=some (.ins C dx fs)
def New.put{B H:Hp}{x C dx:Addr}{fs gs:List (Str×V)}(h:New B H x C dx fs)(e:gs=gs):New B (upd H x (.ins C dx gs)) x C dx gs:=⟨h.s.upd h.n,h.n,iC⟩
def New.same{B H H':Hp}{x C dx:Addr}{fs:List (Str×V)}(h:New B H x C dx fs)(e:Same H H'):New B H' x C dx fs:=⟨h.s.trans e,h.n,e _ _ h.h⟩
inductive sX(K:Fg_)(vs:List V)(H:Hp)(Q:VK)(E:XK):Prop
 |mk (x:Addr) (d n:Int) (w:Str) (B:Hp) (C dx:Addr) (_:vs=[.ref x,.int d,.int n,.str w]) (_:New B H x C dx []) (_:CE K C) (_:Base d n w) (_:∀H',New B H' x C dx (fsE d n w)->Q .non H'):sX K vs H Q E
def lg(T:Txt K mg A D):jE P w K mg base CX0 3 A.aaS D.aaS ["self", "day", "number", "ware"] (sX K):=by
 refine T.acT.okv CJ λ_ _ _ _ H vs Q E hr h=>?_
 ·obtain⟨x,d,n,w,B,C,dx,rfl,q,z,hB,k⟩:=h
  refine ⟨_,(iu (jf (pcg (jn T) hr T.acQ (ju T) (ig ji (pav 1 (ig iB (ig (lK (v:=V.int 1000000) (by rfl) T.adK ⟨_,rfl⟩) iy))))))
   (iu (jf (pcg (jn T) hr T.acQ (ju T) (ig ji (pav 2 (ig iB (ig (lK (v:=V.int 1000000) (by rfl) T.adL ⟨_,rfl⟩) iy))))))
   (iu (jf (pcg (Cq T) hr T.acS (DX T) (ig ji (pav 3 iy))))
   (iu (jk (K:=K) (pv 0) (pvD 1) rfl)
   (iu (jk (K:=K) (pv 0) (pvD 2) rfl)
   (iz (jk (K:=K) (pv 0) (pvD 3) rfl))))))),?_⟩
  walk_at "a";refine⟨_,_,_,_,rfl,hB.d0,hB.d1,?_⟩;walk_at "a";refine⟨_,_,_,_,rfl,hB.n0,hB.n1,?_⟩;walk_at "a";refine⟨_,_,rfl,hB.w,λH' sm=>?_⟩;walk_at "a";have q:=q.same sm;refine sw q.h z.c z.d (by decide) (?_);rw[wR _ _ (by decide+kernel)];have q:=q.put (gs:=[]++[(Str.ofString "day",V.int d)]) rfl;refine sw q.h z.c z.n (by simp) (?_);rw[lA (f:=Str.ofString "number") ["day"]];have q:=q.put (gs:=([]++[(Str.ofString "day",V.int d)])++[(Str.ofString "number",V.int n)]) rfl;refine sw q.h z.c z.w (by simp) (?_);rw[lA (f:=Str.ofString "ware") ["day", "number"]];exact k _ (q.put rfl)
abbrev Rs:=List (Addr×Int×Int)
noncomputable def refs(rs:Rs):List V:=rs.map λr=>V.ref r.1
noncomputable def agt(H:Hp)(rs:Rs):Prop:=∀r∈rs,H r.1=some (.tup [.int r.2.1,.int r.2.2])
def agt.same{H H':Hp}{rs:Rs}(h:agt H rs)(s:Same H H'):agt H' rs:=λr q=>s _ _ (h r q)
structure ajH(rs:Rs)(p:Int):Prop where
 l:rs.length<=5
 b:∀r∈rs,0<=r.2.1/\r.2.1<=1000000/\1<=r.2.2/\r.2.2<=p
 u:(rs.map (·.2.1)).Nodup
 s:(rs.map (·.2.2)).sum=p
noncomputable def NL(H:Hp)(v:V):Option Rs->Prop
 |none=>v=.non
 |some rs=>∃l,v=.ref l/\H l=some (.lst (refs rs))/\agt H rs
noncomputable def ajP(p:Int):Option Rs->Prop
 |none=>True
 |some rs=>ajH rs p
theorem NL.same{H H':Hp}{v:V}{o:Option Rs}(h:NL H v o)(s:Same H H'):NL H' v o:=by
 cases o with
 |none=>exact h
 |some rs=>obtain⟨l,e,h1,h2⟩:=h;exact⟨l,e,s _ _ h1,h2.same s⟩
inductive xN(vs:List V)(H:Hp)(Q:VK)(E:XK):Prop
 |mk (p:Int) (_:vs=[.non,.int p]) (_:Q .non H):xN vs H Q E
def JL(T:Txt K mg A D):jE P w K mg base CX0 1 A.aaW D.aaW ["named", "pieces"] xN:=by
 refine T.acX.F.okv JB λ_ _ _ _ H vs Q E q h=>?_
 ·obtain⟨p,rfl,k⟩:=h
  refine ⟨_,(iu (jK (iR (Gd) (pvD 0) mJ (iY _)) (iz (agL)) jd)
   (iu (kY)
   (iu (kY)
   (iu (kY)
   (iz (kY)))))),?_⟩
  simp only[start_eq];walk_at "a";exact k
inductive Bm(vs:List V)(H:Hp)(Q:VK)(E:XK):Prop
 |mk (_:vs=[.non]) (_:Q .non H):Bm vs H Q E
def Lr(T:Txt K mg A D):jE P w K mg base CX0 1 A.aaX D.aaX ["named"] Bm:=by
 refine T.acY.F.okv Ly λ_ _ _ _ H vs Q E q h=>?_
 ·obtain⟨rfl,k⟩:=h
  refine⟨_,(iz (iM (Ci (iR (Gd) (pvD 0) mJ (iY _)) mJ (lH (pN (K:=K)) (by rfl) T.ade (by decide+kernel) (pav 0 iy))))),?_⟩;simp only[start_eq];walk_at "a";exact k
noncomputable def NT(H:Hp)(v:V):Option Rs->Prop
 |none=>v=.non
 |some rs=>∃l,v=.ref l/\H l=some (.tup (refs rs))/\agt H rs
theorem NT.same{H H':Hp}{v:V}{o:Option Rs}(h:NT H v o)(s:Same H H'):NT H' v o:=by
 cases o with
 |none=>exact h
 |some rs=>obtain⟨l,e,h1,h2⟩:=h;exact⟨l,e,s _ _ h1,h2.same s⟩
local macro_rules | `(tactic| walk_at "n") => `(tactic| ((try dsimp only); refine jC fun u hu => ?_; rw [ap_seq]; walk_at "i"; subst hu))
inductive Ent where
 |buy (d n:Int) (w:Str) (p r f:Int)
 |sell (d n:Int) (w:Str) (p r f:Int) (o:Option Rs)
 |gift (d n:Int) (w:Str) (p c s:Int)
 |split (d n:Int) (w:Str) (m f:Int)
 |part (d n:Int) (w u:Str) (s t:Int)
noncomputable def Rg(lo hi x:Int):Prop:=lo<=x/\x<=hi
noncomputable def Ent.good:Ent->Prop
 |.buy d n w p r f=>Base d n w/\Rg 1 1000000000 p/\Rg 0 1000000000 r/\Rg 0 1000000000 f
 |.sell d n w p r f o=>Base d n w/\Rg 1 1000000000 p/\Rg 0 1000000000 r/\Rg 0 1000000000 f/\ajP p o
 |.gift d n w p c s=>Base d n w/\Rg 1 1000000000 p/\Rg 0 1000000000000000000 c/\Rg 0 d s
 |.split d n w m f=>Base d n w/\Rg 1 1000 m/\Rg 1 1000 f
 |.part d n w u s t=>Base d n w/\Nm u/\u≠w/\Rg 1 1000000 t/\Rg 0 t s
noncomputable def Ent.fs(nv:V):Ent->List (Str×V)
 |.buy d n w p r f=>[("day",.int d),("number",.int n),("ware",.str w),("pieces",.int p),("price",.int r),("fee",.int f),("cost",.int (p*r+f))]
 |.sell d n w p r f _=>[("day",.int d),("number",.int n),("ware",.str w),("pieces",.int p),("price",.int r),("fee",.int f),("named",nv),("proceeds",.int (p*r - f))]
 |.gift d n w p c s=>[("day",.int d),("number",.int n),("ware",.str w),("pieces",.int p),("cost",.int c),("since",.int s)]
 |.split d n w m f=>[("day",.int d),("number",.int n),("ware",.str w),("many",.int m),("of",.int f)]
 |.part d n w u s t=>[("day",.int d),("number",.int n),("ware",.str w),("other",.str u),("share",.int s),("whole",.int t)]
noncomputable def Ent.word:Ent->Str
 |.buy ..=> "buy"
 |.sell ..=> "sell"
 |.gift ..=> "gift"
 |.split ..=> "split"
 |.part ..=> "part"
noncomputable def Ent.args(nv:V):Ent->List V
 |.buy d n w p r f=>[.int d,.int n,.str w,.int p,.int r,.int f]
 |.sell d n w p r f _=>[.int d,.int n,.str w,.int p,.int r,.int f,nv]
 |.gift d n w p c s=>[.int d,.int n,.str w,.int p,.int c,.int s]
 |.split d n w m f=>[.int d,.int n,.str w,.int m,.int f]
 |.part d n w u s t=>[.int d,.int n,.str w,.str u,.int s,.int t]
noncomputable def Ent.lots:Ent->Option Rs
 |.sell _ _ _ _ _ _ o=>o
 |_=>none
noncomputable def Ent.cls(A:Adr):Ent->Addr
 |.buy ..=>A.abk
 |.sell ..=>A.abm
 |.gift ..=>A.abl
 |.split ..=>A.abo
 |.part ..=>A.abp
noncomputable def Made(A:Adr)(B H:Hp)(x:Addr)(e:Ent):Prop:=∃dx nv,New B H x (e.cls A) dx (e.fs nv)/\NL H nv e.lots/\∀q,nv=.ref q->B q=none
noncomputable def IsE(A:Adr)(H:Hp)(x:Addr)(e:Ent):Prop:=∃dx nv,H x=some (.ins (e.cls A) dx (e.fs nv))/\NL H nv e.lots
theorem IsE.same{A:Adr}{H H':Hp}{x:Addr}{e:Ent}(s:Same H H'):IsE A H x e->IsE A H' x e:=fun⟨dx,q,h,n⟩=>⟨dx,q,s _ _ h,n.same s⟩
def MP{B H:Hp}{x C dx:Addr}{gs:List (Str×V)}{f:Str}{v:V}{R:Hp->Prop}(ks:List Str)(z:New B H x C dx gs)(c:Cls K C)(n:iU K C f)(e:gs.map (·.1)=ks)(h:ks.contains f=false)(q:ks.length<1000)(k:∀H',New B H' x C dx (gs++[(f,v)])->R H'):∃C dx fs,H x=some (.ins C dx fs)/\Cls K C/\iU K C f/\fs.length<1000/\R (upd H x (.ins C dx (CN f v fs))):=by
 refine⟨C,dx,gs,z.h,c,n,by rw[<-e,za]at q;exact q,?_⟩;rw[lA ks e h];exact k _ (z.put rfl)
def Ru{p r:Int}(h1:Rg 1 1000000000 p)(h2:Rg 0 1000000000 r):xg p r:=xg.big (zzc (show p.natAbs<=1000000000 from by unfold Rg at h1;omega) (by decide)) (zzc (show r.natAbs<=1000000000 from by unfold Rg at h2;omega) (by decide))
noncomputable def Ca:Ent->Bool:=λe=>match e with|.buy ..=>true|_=>false
def ZX(T:Txt K mg A D):CE K A.abk:=⟨T.aeq,T.aes,T.aet,T.aeu⟩
noncomputable def tQ:Ent->Bool:=λe=>match e with|.sell ..=>true|_=>false
def WT(T:Txt K mg A D):CE K A.abm:=⟨T.aeH,T.aeJ,T.aeK,T.aeL⟩
noncomputable def uc:Ent->Bool:=λe=>match e with|.gift ..=>true|_=>false
def WM(T:Txt K mg A D):CE K A.abl:=⟨T.aez,T.aeB,T.aeC,T.aeD⟩
noncomputable def pF:Ent->Bool:=λe=>match e with|.split ..=>true|_=>false
def SM(T:Txt K mg A D):CE K A.abo:=⟨T.aeR,T.aeT,T.aeU,T.aeV⟩
noncomputable def tX:Ent->Bool:=λe=>match e with|.part ..=>true|_=>false
def Kr(T:Txt K mg A D):CE K A.abp:=⟨T.aeY,T.ae0,T.ae1,T.ae2⟩
inductive Wl(A:Adr)(vs:List V)(H:Hp)(Q:VK)(E:XK):Prop
 |mk (x:Addr) (d n p r f:Int) (w:Str) (B:Hp) (dx:Addr) (_:vs=[.ref x,.int d,.int n,.str w,.int p,.int r,.int f]) (_:New B H x A.abk dx []) (_:(Ent.good (.buy d n w p r f))) (_:∀H',Made A B H' x (.buy d n w p r f)->Q .non H'):Wl A vs H Q E
def Hf(T:Txt K mg A D):jE P w K mg base CX0 4 A.aaV D.aaV ["self", "day", "number", "ware", "pieces", "price", "fee"] (Wl A):=by
 refine T.acW.okv Gi λ_ _ _ _ H vs Q E hr h=>?_
 ·obtain⟨x,d,n,p,r,f,w,B,dx,rfl,z,hg,k⟩:=h
  refine ⟨_,(iu (jf (pM T.af8 (lg (K:=K) T) (hr.mono (by decide)) (by rfl) T.adI T.acT.kp (lF T) .nil jw (pav 0 (pav 1 (pav 2 (pav 3 iy))))))
   (iu (jf (pcg (xP T) hr T.acV (Cm T) (pav 4 (pav 5 (pav 6 iy)))))
   (iu (jk (K:=K) (pv 0) (pvD 4) rfl)
   (iu (jk (K:=K) (pv 0) (pvD 5) rfl)
   (iu (jk (K:=K) (pv 0) (pvD 6) rfl)
   (iz (jk (K:=K) (pv 0) (iZ jD (iZ kZ (pvD 4) (pvD 5)) (pvD 6)) rfl))))))),?_⟩
  simp only[start_eq];walk_at "n";refine⟨x,d,n,w,B,_,dx,rfl,z,ZX T,hg.1,λH1 z=>?_⟩;walk_at "n";refine⟨_,_,_,rfl,hg.2.1,hg.2.2.1,hg.2.2.2,?_⟩;walk_at "n";refine MP ["day", "number", "ware"] z T.aeq T.aev rfl (by decide+kernel) (by decide) λH2 z=>?_;walk_at "n";refine MP ["day", "number", "ware", "pieces"] z T.aeq T.aew rfl (by decide+kernel) (by decide) λH2 z=>?_;walk_at "n";refine MP ["day", "number", "ware", "pieces", "price"] z T.aeq T.aex rfl (by decide+kernel) (by decide) λH2 z=>?_;walk_at "a";exact⟨Ru hg.2.1 hg.2.2.1,MP ["day", "number", "ware", "pieces", "price", "fee"] z T.aeq T.aey rfl (by decide+kernel) (by decide) λH2 z=>k H2 ⟨dx,.non,z,rfl,λq e=>by cases e⟩⟩
inductive Rf(A:Adr)(vs:List V)(H:Hp)(Q:VK)(E:XK):Prop
 |mk (x:Addr) (d n p r f:Int) (w:Str) (B:Hp) (dx:Addr) (_:vs=[.ref x,.int d,.int n,.str w,.int p,.int r,.int f,.non]) (_:New B H x A.abm dx []) (_:(Ent.good (.sell d n w p r f none))) (_:∀H',Made A B H' x (.sell d n w p r f none)->Q .non H'):Rf A vs H Q E
def Fy(T:Txt K mg A D):jE P w K mg base CX0 4 A.aaY D.aaY ["self", "day", "number", "ware", "pieces", "price", "fee", "named"] (Rf A):=by
 refine T.acZ.okv Fd λ_ _ _ _ H vs Q E hr h=>?_
 ·obtain⟨x,d,n,p,r,f,w,B,dx,rfl,z,hg,k⟩:=h
  refine ⟨_,(iu (jf (pM T.af8 (lg (K:=K) T) (hr.mono (by decide)) (by rfl) T.adI T.acT.kp (lF T) .nil jw (pav 0 (pav 1 (pav 2 (pav 3 iy))))))
   (iu (jf (pcg (xP T) hr T.acV (Cm T) (pav 4 (pav 5 (pav 6 iy)))))
   (iu (jf (pcg (JL T) hr T.acX (KH T) (pav 7 (pav 4 iy))))
   (iu (jk (K:=K) (pv 0) (pvD 4) rfl)
   (iu (jk (K:=K) (pv 0) (pvD 5) rfl)
   (iu (jk (K:=K) (pv 0) (pvD 6) rfl)
   (iu (jk (K:=K) (pv 0) (pcg (Lr T) hr T.acY (Ow T) (pav 7 iy)) rfl)
   (iz (jk (K:=K) (pv 0) (iZ pX (iZ kZ (pvD 4) (pvD 5)) (pvD 6)) rfl))))))))),?_⟩
  simp only[start_eq];walk_at "n";refine⟨x,d,n,w,B,_,dx,rfl,z,WT T,hg.1,λH1 z=>?_⟩;walk_at "n";refine⟨_,_,_,rfl,hg.2.1,hg.2.2.1,hg.2.2.2.1,?_⟩;walk_at "n";refine⟨_,rfl,?_⟩;walk_at "n";refine MP ["day", "number", "ware"] z T.aeH T.aeM rfl (by decide+kernel) (by decide) λH2 z=>?_;walk_at "n";refine MP ["day", "number", "ware", "pieces"] z T.aeH T.aeN rfl (by decide+kernel) (by decide) λH2 z=>?_;walk_at "n";refine MP ["day", "number", "ware", "pieces", "price"] z T.aeH T.aeO rfl (by decide+kernel) (by decide) λH2 z=>?_;walk_at "n";refine⟨rfl,MP ["day", "number", "ware", "pieces", "price", "fee"] z T.aeH T.aeP rfl (by decide+kernel) (by decide) λH2 z=>?_⟩;walk_at "a";exact⟨Ru hg.2.1 hg.2.2.1,MP ["day", "number", "ware", "pieces", "price", "fee", "named"] z T.aeH T.aeQ rfl (by decide+kernel) (by decide) λH2 z=>k H2 ⟨dx,.non,z,rfl,λq e=>by cases e⟩⟩
inductive RP(A:Adr)(vs:List V)(H:Hp)(Q:VK)(E:XK):Prop
 |mk (x:Addr) (d n p c s:Int) (w:Str) (B:Hp) (dx:Addr) (_:vs=[.ref x,.int d,.int n,.str w,.int p,.int c,.int s]) (_:New B H x A.abl dx []) (_:(Ent.good (.gift d n w p c s))) (_:∀H',Made A B H' x (.gift d n w p c s)->Q .non H'):RP A vs H Q E
def Fw(T:Txt K mg A D):jE P w K mg base CX0 4 A.aaZ D.aaZ ["self", "day", "number", "ware", "pieces", "cost", "since"] (RP A):=by
 refine T.ac0.okv Fz λ_ _ _ _ H vs Q E hr h=>?_
 ·obtain⟨x,d,n,p,c,s,w,B,dx,rfl,z,hg,k⟩:=h
  refine ⟨_,(iu (jf (pM T.af8 (lg (K:=K) T) (hr.mono (by decide)) (by rfl) T.adI T.acT.kp (lF T) .nil jw (pav 0 (pav 1 (pav 2 (pav 3 iy))))))
   (iu (jf (pcg (jn T) hr T.acQ (ju T) (ig ji (pav 4 (ig iB (ig (lK (v:=V.int 1000000000) (by rfl) T.adN ⟨_,rfl⟩) iy))))))
   (iu (jf (pcg (jn T) hr T.acQ (ju T) (ig ji (pav 5 (ig iB (ig (lK (v:=V.int 1000000000000000000) (by rfl) T.adQ ⟨_,rfl⟩) iy))))))
   (iu (jf (pcg (jn T) hr T.acQ (ju T) (ig ji (pav 6 (ig iB (pav 1 iy))))))
   (iu (jk (K:=K) (pv 0) (pvD 4) rfl)
   (iu (jk (K:=K) (pv 0) (pvD 5) rfl)
   (iz (jk (K:=K) (pv 0) (pvD 6) rfl)))))))),?_⟩
  simp only[start_eq];walk_at "n";refine⟨x,d,n,w,B,_,dx,rfl,z,WM T,hg.1,λH1 z=>?_⟩;walk_at "n";refine⟨_,_,_,_,rfl,hg.2.1.1,hg.2.1.2,?_⟩;walk_at "n";refine⟨_,_,_,_,rfl,hg.2.2.1.1,hg.2.2.1.2,?_⟩;walk_at "n";refine⟨_,_,_,_,rfl,hg.2.2.2.1,hg.2.2.2.2,?_⟩;walk_at "n";refine MP ["day", "number", "ware"] z T.aez T.aeE rfl (by decide+kernel) (by decide) λH2 z=>?_;walk_at "n";refine MP ["day", "number", "ware", "pieces"] z T.aez T.aeF rfl (by decide+kernel) (by decide) λH2 z=>?_;walk_at "a";exact MP ["day", "number", "ware", "pieces", "cost"] z T.aez T.aeG rfl (by decide+kernel) (by decide) λH2 z=>k H2 ⟨dx,.non,z,rfl,λq e=>by cases e⟩
inductive Oh(A:Adr)(vs:List V)(H:Hp)(Q:VK)(E:XK):Prop
 |mk (x:Addr) (d n m f:Int) (w:Str) (B:Hp) (dx:Addr) (_:vs=[.ref x,.int d,.int n,.str w,.int m,.int f]) (_:New B H x A.abo dx []) (_:(Ent.good (.split d n w m f))) (_:∀H',Made A B H' x (.split d n w m f)->Q .non H'):Oh A vs H Q E
def Ds(T:Txt K mg A D):jE P w K mg base CX0 4 A.aa0 D.aa0 ["self", "day", "number", "ware", "many", "of"] (Oh A):=by
 refine T.ac1.okv Dp λ_ _ _ _ H vs Q E hr h=>?_
 ·obtain⟨x,d,n,m,f,w,B,dx,rfl,z,hg,k⟩:=h
  refine ⟨_,(iu (jf (pM T.af8 (lg (K:=K) T) (hr.mono (by decide)) (by rfl) T.adI T.acT.kp (lF T) .nil jw (pav 0 (pav 1 (pav 2 (pav 3 iy))))))
   (iu (jf (pcg (jn T) hr T.acQ (ju T) (ig ji (pav 4 (ig iB (ig (lK (v:=V.int 1000) (by rfl) T.adR ⟨_,rfl⟩) iy))))))
   (iu (jf (pcg (jn T) hr T.acQ (ju T) (ig ji (pav 5 (ig iB (ig (lK (v:=V.int 1000) (by rfl) T.adR ⟨_,rfl⟩) iy))))))
   (iu (jk (K:=K) (pv 0) (pvD 4) rfl)
   (iz (jk (K:=K) (pv 0) (pvD 5) rfl)))))),?_⟩
  simp only[start_eq];walk_at "n";refine⟨x,d,n,w,B,_,dx,rfl,z,SM T,hg.1,λH1 z=>?_⟩;walk_at "n";refine⟨_,_,_,_,rfl,hg.2.1.1,hg.2.1.2,?_⟩;walk_at "n";refine⟨_,_,_,_,rfl,hg.2.2.1,hg.2.2.2,?_⟩;walk_at "n";refine MP ["day", "number", "ware"] z T.aeR T.aeW rfl (by decide+kernel) (by decide) λH2 z=>?_;walk_at "a";exact MP ["day", "number", "ware", "many"] z T.aeR T.aeX rfl (by decide+kernel) (by decide) λH2 z=>k H2 ⟨dx,.non,z,rfl,λq e=>by cases e⟩
inductive Hy(A:Adr)(vs:List V)(H:Hp)(Q:VK)(E:XK):Prop
 |mk (x:Addr) (d n s t:Int) (w u:Str) (B:Hp) (dx:Addr) (_:vs=[.ref x,.int d,.int n,.str w,.str u,.int s,.int t]) (_:New B H x A.abp dx []) (_:(Ent.good (.part d n w u s t))) (_:∀H',Made A B H' x (.part d n w u s t)->Q .non H'):Hy A vs H Q E
def Av(T:Txt K mg A D):jE P w K mg base CX0 4 A.aaT D.aaT ["self", "day", "number", "ware", "other", "share", "whole"] (Hy A):=by
 refine T.acU.okv Ag λ_ _ _ _ H vs Q E hr h=>?_
 ·obtain⟨x,d,n,s,t,w,u,B,dx,rfl,z,hg,k⟩:=h
  refine ⟨_,(iu (jf (pM T.af8 (lg (K:=K) T) (hr.mono (by decide)) (by rfl) T.adI T.acT.kp (lF T) .nil jw (pav 0 (pav 1 (pav 2 (pav 3 iy))))))
   (iu (jf (pcg (Cq T) hr T.acS (DX T) (ig ji (pav 4 iy))))
   (iu (jK (iR (lu) (pvD 4) (pvD 3) (iY _)) (iz (kY)) jd)
   (iu (jf (pcg (jn T) hr T.acQ (ju T) (ig ji (pav 6 (ig iB (ig (lK (v:=V.int 1000000) (by rfl) T.adM ⟨_,rfl⟩) iy))))))
   (iu (jf (pcg (jn T) hr T.acQ (ju T) (ig ji (pav 5 (ig iB (pav 6 iy))))))
   (iu (jk (K:=K) (pv 0) (pvD 4) rfl)
   (iu (jk (K:=K) (pv 0) (pvD 5) rfl)
   (iz (jk (K:=K) (pv 0) (pvD 6) rfl))))))))),?_⟩
  simp only[start_eq];walk_at "n";refine⟨x,d,n,w,B,_,dx,rfl,z,Kr T,hg.1,λH1 z=>?_⟩;walk_at "n";refine⟨_,_,rfl,hg.2.1,λH2 sm=>?_⟩;have z:=z.same sm;walk_at "n";rw[ze hg.2.2.1];walk_at "n";refine⟨_,_,_,_,rfl,hg.2.2.2.1.1,hg.2.2.2.1.2,?_⟩;walk_at "n";refine⟨_,_,_,_,rfl,hg.2.2.2.2.1,hg.2.2.2.2.2,?_⟩;walk_at "n";refine MP ["day", "number", "ware"] z T.aeY T.ae3 rfl (by decide+kernel) (by decide) λH2 z=>?_;walk_at "n";refine MP ["day", "number", "ware", "other"] z T.aeY T.ae4 rfl (by decide+kernel) (by decide) λH2 z=>?_;walk_at "a";exact MP ["day", "number", "ware", "other", "share"] z T.aeY T.ae5 rfl (by decide+kernel) (by decide) λH2 z=>k H2 ⟨dx,.non,z,rfl,λq e=>by cases e⟩
local macro_rules | `(tactic| walk_at "m") => `(tactic| ((try dsimp only); rw [ap_seq]; walk_at "i"))
noncomputable def YH(H:Hp)(t:Addr)(e:Ent):Prop:=∃nt,H t=some (.tup (.str e.word::e.args nt))/\NT H nt e.lots
theorem YH.same{H H':Hp}{t:Addr}{e:Ent}(s:Same H H'):YH H t e->YH H' t e:=fun⟨q,h,n⟩=>⟨q,s _ _ h,n.same s⟩
def ql{H:Hp}{x dx C:Addr}(z:H x=none)(q:H dx=none):New H (upd (upd H dx (.own x)) x (.ins C dx [])) x C dx []:=⟨(iG q).upd z,z,iC⟩
noncomputable def Ent.day:Ent->Int
 |.buy d ..=>d
 |.sell d ..=>d
 |.gift d ..=>d
 |.split d ..=>d
 |.part d ..=>d
noncomputable def Ent.num:Ent->Int
 |.buy _ n ..=>n
 |.sell _ n ..=>n
 |.gift _ n ..=>n
 |.split _ n ..=>n
 |.part _ n ..=>n
noncomputable def Ent.ware:Ent->Str
 |.buy _ _ w ..=>w
 |.sell _ _ w ..=>w
 |.gift _ _ w ..=>w
 |.split _ _ w ..=>w
 |.part _ _ w ..=>w
def agJ(T:Txt K mg A D)(e:Ent):CE K (e.cls A):=by
 cases e with
 |buy=>exact ZX T
 |sell=>exact WT T
 |gift=>exact WM T
 |split=>exact SM T
 |part=>exact Kr T
def RG(e:Ent)(q:V):(e.fs q).lookup (Str.ofString "day")=some (.int e.day):=by cases e<;>rfl
def xZ(e:Ent)(q:V):(e.fs q).lookup (Str.ofString "number")=some (.int e.num):=by cases e<;>rfl
def agt.put{H:Hp}{rs:Rs}{l:Addr}{xs:List V}{u:HO}(h:agt H rs)(hl:H l=some (.lst xs)):agt (upd H l u) rs:=λr q=>by
 have h2:=h r q;rw[iJ (λz=>by rw[z,hl]at h2;cases h2)];exact h2
theorem NT.put{H:Hp}{v:V}{o:Option Rs}{l:Addr}{xs:List V}{u:HO}(h:NT H v o)(hl:H l=some (.lst xs)):NT (upd H l u) v o:=by
 cases o with
 |none=>exact h
 |some rs=>
  obtain⟨q,rfl,h1,h2⟩:=h;refine⟨q,rfl,?_,h2.put hl⟩;rw[iJ (λz=>by rw[z,hl]at h1;cases h1)];exact h1
theorem YH.put{H:Hp}{t:Addr}{e:Ent}{l:Addr}{xs:List V}{u:HO}(h:YH H t e)(q:H l=some (.lst xs)):YH (upd H l u) t e:=by
 obtain⟨nt,h1,h2⟩:=h;refine⟨nt,?_,h2.put q⟩;rw[iJ (λz=>by rw[z,q]at h1;cases h1)];exact h1
local macro_rules | `(tactic| walk_at "l") => `(tactic| (rw [ap_seq]; walk_at "i"))
def at3{a b c i:Int}{lo hi:Int}(h0:0<=i)(h1:i<3)(ha:Rg lo hi a)(q:Rg lo hi b)(z:Rg lo hi c):∃v,atI [V.int a,V.int b,V.int c] i=some (.int v)/\Rg lo hi v:=by
 have h:i=0\/i=1\/i=2:=by omega
 rcases h with h|h|h<;>rw[h]
 ·exact⟨a,rfl,ha⟩
 ·exact⟨b,rfl,q⟩
 ·exact⟨c,rfl,z⟩
def xu{lo hi x m:Int}(hm:0<m)(q:lo<=0)(z:m - 1<=hi):Rg lo hi (x%m):=⟨by have:=yF x (show m≠0 by omega);omega,by have:=yv x hm;omega⟩
def Vn{ws:List Str}{i:Int}(z:0<=i)(h1:i<ws.length):∃w,atI (ws.map V.str) i=some (.str w)/\ws[i.toNat]? =some w:=by
 have q:i.toNat<ws.length:=by omega
 refine⟨ws[i.toNat],?_,zg q⟩;have e:((i.toNat:Nat):Int)=i:=by omega
 have h:=Cz (xs:=ws.map V.str) (j:=i.toNat) (v:=.str ws[i.toNat]) (by rw[zh,zg q];rfl)
 rwa [e]at h
def agM{ws:List Str}(z:ws.Nodup){i j:Nat}{u v:Str}(hi:ws[i]? =some u)(q:ws[j]? =some v)(h:i≠j):u≠v:=λe=>by
 subst e;have h1:=(zo.mp hi);have h2:=(zo.mp q);exact h ((yyA (xs:=ws) z (h₀:=h1.1) (h₁:=h2.1)).mp (h1.2.trans h2.2.symm))
def e6:(10:Int)^Int.toNat 6=1000000:=by decide
def ZD{a b L:Int}(a0:0<=a)(a1:a<L)(z:0<=b)(q:b<L - 1):(a+1+b)%L≠a:=by
 by_cases h:a+1+b<L
 ·rw[Int.emod_eq_of_lt (by omega) h];omega
 ·have e:(a+1+b)%L=(a+1+b - L)%L:=by
   have:=Int.add_emod_right (a+1+b - L) L;rw[Int.sub_add_cancel]at this;exact this
  rw[e,Int.emod_eq_of_lt (by omega) (by omega)];omega
def agP{J:It}{cap:List (Option Nat)}{g:TG}{te:TE}{σ:L2.St}{H:Hp}{Q:VK}(n:Nat)(Xs:Nat->V->Prop)(Sσ:L2.St->Prop)(F:Nat->V->Hp->Prop)(h0:Sσ (pI σ cap))(hz:n<=sizeLine)
  (aj:∀i q,i<n->Same H q->J.go i q/\∀y H',J.yld i q y H'->H'=q/\Xs i y) (ag:∀q,Same H q->J.stop n q)
  (hs:∀D i x,i<n->Xs i x->∀(σ:L2.St)(q:Hp)(R:L2.St->VK),Sσ σ->Same H q->H D=none->(∃acc,q D=some (.lst acc))->(∀v σ4 H6,Sσ σ4->Same q H6->(∀H',But D H6 H'->F i v H')->R σ4 v H6)->g x σ q λσ4 H4=>te σ4 H4 (R σ4))
  (k:∀D H' acc,H D=none->Same H H'->H' D=some (.lst acc)->acc.length=n->(∀(i:Nat) v,acc[i]? =some v->F i v H')->Q (.ref D) H'):jZ cap J g JF te σ H Q:=by
 intro D hD;refine⟨λi m acc σ H2=>m=n - i/\i<=n/\Sσ σ/\Same H H2/\acc.length=i/\∀(j:Nat) v,acc[j]? =some v->∀H',But D H2 H'->F j v H',⟨n,rfl,yj _,h0,iG hD,rfl,λj v e=>by simp at e⟩,?_⟩;rintro i m acc σ1 H2 ⟨rfl,hi,hσ,sm,ab,hF⟩ hA;by_cases aa:i<n
 ·obtain⟨g1,g2⟩:=aj i H2 aa sm
  refine .inr ⟨g1,λy H3 hy=>?_⟩;obtain⟨e3,hx⟩:=g2 y H3 hy;subst e3;simp only[ap_noIf,if_true];refine hs D i _ aa hx σ1 H3 _ hσ sm hD ⟨_,hA⟩ λv σ4 H6 ae s6 ah=>?_;have ai:=s6 _ _ hA;refine⟨acc,ai,by omega,n - (i+1),by omega,rfl,aa,ae,(sm.trans s6).upd hD,by rw[yd,ab];rfl,λj u hj H' hb=>?_⟩;have ac:But D H6 H':=λb o z e=>hb b o z ((iJ z).trans e);by_cases ad:j<acc.length
  ·rw[yL ad]at hj
   exact hF j u hj H' λb o z e=>ac b o z (s6 _ _ e)
  ·rw[yI (by omega)]at hj
   have af:j - acc.length=0:=by
    have:=(zo.mp hj).1;simp at this;omega
   rw[af]at hj;cases hj;obtain rfl:j=i:=by omega
   exact ah H' ac
 ·obtain rfl:i=n:=by omega
  exact .inl ⟨ag H2 sm,k D H2 acc hD sm hA ab λj v e=>hF j v e H2 λb o _ e=>e⟩
def aiu{lo:Int}{cap:List (Option Nat)}{g:TG}{te:TE}{σ:L2.St}{H:Hp}{Q:VK}{n:Nat}(Sσ:L2.St->Prop)(F:Nat->V->Hp->Prop)(h0:Sσ (pI σ cap))(hz:n<=sizeLine)
  (hs:∀D i,i<n->∀(σ:L2.St)(q:Hp)(R:L2.St->VK),Sσ σ->Same H q->H D=none->(∃acc,q D=some (.lst acc))->(∀v z H6,Sσ z->Same q H6->(∀H',But D H6 H'->F i v H')->R z v H6)->g (.int (lo+i)) σ q λz H4=>te z H4 (R z))
  (k:∀D H' acc,H D=none->Same H H'->H' D=some (.lst acc)->acc.length=n->(∀(i:Nat) v,acc[i]? =some v->F i v H')->Q (.ref D) H'):jZ cap (Itr lo n) g JF te σ H Q:=
 agP n (λi x=>x=.int (lo+i)) Sσ F h0 hz (λi q hi _=>⟨hi,λy H' hy=>⟨hy.1,hy.2⟩⟩) (λ_ _=>zj n) (λD i x hi hx=>by subst hx;exact hs D i hi) k
def YD{a:Addr}{o:Obj}{kvs:List (Key×V)}{cap:List (Option Nat)}{g:TG}{te:TE}{σ:L2.St}{H:Hp}{Q:VK}(Sσ:L2.St->Prop)(F:Nat->V->Hp->Prop)(hH:H a=some (.frz o (.dK kvs)))(h0:Sσ (pI σ cap))(hz:kvs.length<=sizeLine)
  (hs:∀D i q,kvs[i]? =some q->∀(σ:L2.St)(z:Hp)(R:L2.St->VK),Sσ σ->Same H z->H D=none->(∃acc,z D=some (.lst acc))->(∀v σ4 H6,Sσ σ4->Same z H6->(∀H',But D H6 H'->F i v H')->R σ4 v H6)->g (kV q.1) σ z λσ4 H4=>te σ4 H4 (R σ4))
  (k:∀D H' acc,H D=none->Same H H'->H' D=some (.lst acc)->acc.length=kvs.length->(∀(i:Nat) v,acc[i]? =some v->F i v H')->Q (.ref D) H'):jZ cap (Itk a o kvs) g JF te σ H Q:=
 agP kvs.length (λi x=>∃q,kvs[i]? =some q/\x=kV q.1) Sσ F h0 hz (λi z hi s=>⟨⟨s _ _ hH,hi⟩,λy H' hy=>hy⟩) (λ_ s=>⟨s _ _ hH,zj _⟩) (λD i x hi ⟨q,e,hx⟩=>by subst hx;exact hs D i q e) k
def ZK{a:Addr}{o:Obj}{kvs:List (Key×V)}{cap:List (Option Nat)}{g:TG}{te:TE}{σ:L2.St}{H:Hp}{Q:VK}(Sσ:L2.St->Prop)(F:Nat->V->Hp->Prop)(hH:H a=some (.frz o (.dK kvs)))(h0:Sσ (pI σ cap))(hz:kvs.length<=sizeLine)
  (hs:∀D i q,kvs[i]? =some q->∀(σ:L2.St)(z:Hp)(R:L2.St->VK),Sσ σ->Same H z->H D=none->(∃acc,z D=some (.lst acc))->(∀v σ4 H6,Sσ σ4->Same z H6->(∀H',But D H6 H'->F i v H')->R σ4 v H6)->g q.2 σ z λσ4 H4=>te σ4 H4 (R σ4))
  (k:∀D H' acc,H D=none->Same H H'->H' D=some (.lst acc)->acc.length=kvs.length->(∀(i:Nat) v,acc[i]? =some v->F i v H')->Q (.ref D) H'):jZ cap (Itv a o kvs) g JF te σ H Q:=
 agP kvs.length (λi x=>∃q,kvs[i]? =some q/\x=q.2) Sσ F h0 hz (λi z hi s=>⟨⟨s _ _ hH,hi⟩,λy H' hy=>⟨hy.1,by
  obtain⟨_,h⟩:=hy;rw[zh]at h
  cases e:kvs[i]? with
  |none=>rw[e]at h;cases h
  |some q=>rw[e]at h;exact⟨q,rfl,(zw h).symm⟩⟩⟩) (λ_ s=>⟨s _ _ hH,zj _⟩) (λD i x hi ⟨q,e,hx⟩=>by subst hx;exact hs D i q e) k
noncomputable def jr(kvs:List (Key×V))(z:Str):Int:=match nY kvs (Sum.inr z)with
 |some (.int i)=>i
 |_=>0
theorem Dr:∀{kvs:List (Key×V)}{k:Key}{v:V},nY kvs k=some v->(k,v)∈kvs
 |[],_,_,h=>by cases h
 |p::kvs,k,v,h=>by
  by_cases e:p.1=k
  ·rw[kj e]at h
   cases h;rw[<-e];exact zm
  ·rw[kE e]at h
   exact ya _ (Dr h)
def Um{kvs:List (Key×V)}{k:Key}{v:V}(q:(kvs.map (·.1)).Nodup)(h:(k,v)∈kvs):nY kvs k=some v:=by
 induction kvs with
 |nil=>exact(zl h).elim
 |cons p kvs ih=>
  rw[zf,yq]at q;rcases zu.mp h with e|h
  ·subst e
   exact kj rfl
  ·have:p.1≠k:=λe=>q.1 (by rw[e];exact zi.mpr ⟨(k,v),h,rfl⟩)
   rw[kE this];exact ih q.2 h
def Oc{kvs:List (Key×V)}{k:Key}{v:V}(z:(kvs.map (·.1)).Nodup):((putK kvs k v).map (·.1)).Nodup:=by
 cases e:nY kvs k with
 |none=>exact ahO v z e
 |some w=>
  unfold putK;rw[zn (by rw[oA,e];rfl),zr]
  have:((λx:Key×V=>x.1)∘λq:Key×V=>if q.1=k then(q.1,v)else q)=λx=>x.1:=by
   funext q;show(if q.1=k then(q.1,v)else q).1=q.1;split<;>rfl
  rw[this];exact z
def Qe{kvs:List (Key×V)}{k:Key}{v:V}{p:Key×V}(h:p∈putK kvs k v):p=(k,v)\/p∈kvs:=by
 unfold putK at h;split at h
 ·obtain⟨q,z,rfl⟩:=zi.mp h
  split
  ·rename_i e
   exact .inl (by rw[e])
  ·exact .inr z
 ·rcases yg.mp h with h|h
  ·exact .inr h
  ·exact .inl (zx.mp h)
structure Cnt(kvs:List (Key×V)):Prop where
 k:∀kv∈kvs,∃(z:Str)(i:Int),kv=(Sum.inr z,.int i)/\0<=i
 u:(kvs.map (·.1)).Nodup
theorem Cnt.nil:Cnt []:=⟨λq h=>(zl h).elim,.nil⟩
def Cnt.get{kvs:List (Key×V)}(h:Cnt kvs)(z:Str):(nY kvs (Sum.inr z)).getD (.int 0)=.int (jr kvs z)/\0<=jr kvs z:=by
 unfold jr
 cases e:nY kvs (Sum.inr z)with
 |none=>exact⟨rfl,zzX _⟩
 |some v=>
  obtain⟨y,i,q,hi⟩:=h.k _ (Dr e);cases q;exact⟨rfl,hi⟩
def Cnt.put{kvs:List (Key×V)}(h:Cnt kvs)(z:Str){n:Int}(hn:0<=n):Cnt (putK kvs (Sum.inr z) (.int n)):=
 ⟨λkv q=>(Qe q).elim (λe=>⟨z,n,e,hn⟩) (h.k kv),Oc h.u⟩
theorem FQ{α:Type}{f:α->α}:∀{l:List α},(∀x∈l,f x=x)->l.map f=l
 |[],_=>rfl
 |x::l,h=>by rw[zf,h x (.head _),FQ λy q=>h y (.tail _ q)]
def Ui{i:Nat}{σ:L2.St}{H:Hp}{c w:Str}{Q:Bool->Hp->Prop}(h:σ[i]? =some (some (.str w)))(k:Q (decide (V.str w=V.str c)) H):Bv (tOp rEq (tV i) (tC (.str c))) σ H Q:=by
 unfold Bv tOp tV tC atV rEq;rw[h];exact⟨rfl,_,rfl,k⟩
def agj{w c:Str}(n:w≠c):decide (V.str w=V.str c)=false:=ym λe=>n (V.str.inj e)
def sk1{i:Nat}{σ:L2.St}{H:Hp}{c w:Str}{s u:TS}{D:_}(h:σ[i]? =some (some (.str w)))(n:w≠c)(k:u D σ H):Xb (Ve (Bv (tOp rEq (tV i) (tC (.str c)))) s Om) u D σ H:=by
 refine Ui h ?_;rw[agj n];exact k
def sk2{i:Nat}{σ:L2.St}{H:Hp}{c d w:Str}{s u:TS}{D:_}(h:σ[i]? =some (some (.str w)))(n:w≠c)(m:w≠d)(k:u D σ H):Xb (Ve (tOr (Bv (tOp rEq (tV i) (tC (.str c)))) (Bv (tOp rEq (tV i) (tC (.str d))))) s Om) u D σ H:=by
 refine Ui h ?_;rw[agj n];refine Ui h ?_;rw[agj m];exact k
def go1{i:Nat}{σ:L2.St}{H:Hp}{c:Str}{s u:TS}{D:_}(h:σ[i]? =some (some (.str c)))(k:s {D with nx:=u D} σ H):Xb (Ve (Bv (tOp rEq (tV i) (tC (.str c)))) s Om) u D σ H:=by
 refine Ui h ?_;rw[yf rfl];exact k
def go2{i:Nat}{σ:L2.St}{H:Hp}{c d w:Str}{s u:TS}{D:_}(h:σ[i]? =some (some (.str w)))(n:w=c\/w=d)(k:s {D with nx:=u D} σ H):Xb (Ve (tOr (Bv (tOp rEq (tV i) (tC (.str c)))) (Bv (tOp rEq (tV i) (tC (.str d))))) s Om) u D σ H:=by
 refine Ui h ?_;by_cases e:V.str w=V.str c
 ·rw[yf e]
  exact k
 ·rw[ym e]
  refine Ui h ?_;rw[yf (show V.str w=V.str d from congrArg V.str (n.resolve_left λz=>e (congrArg V.str z)))];exact k
def Qw{i:Nat}{σ:L2.St}{H:Hp}{a:Addr}{vs:List V}{c w:Str}{Q:Bool->Hp->Prop}(h:σ[i]? =some (some (.ref a)))(q:H a=some (.tup vs))(a0:atI vs 0=some (.str w))(k:Q (decide (V.str w=V.str c)) H):Bv (tOp rEq (tOp (agH K) (tV i) (tC (.int 0))) (tC (.str c))) σ H Q:=by
 unfold Bv tOp tV tC atV rEq agH;rw[h];exact⟨_,_,_,_,rfl,rfl,jt q,a0,rfl,_,rfl,k⟩
def si1{i:Nat}{σ:L2.St}{H:Hp}{a:Addr}{vs:List V}{c w:Str}{s u:TS}{D:_}(h:σ[i]? =some (some (.ref a)))(q:H a=some (.tup vs))(a0:atI vs 0=some (.str w))(n:w≠c)(k:u D σ H):Xb (Ve (Bv (tOp rEq (tOp (agH K) (tV i) (tC (.int 0))) (tC (.str c)))) s Om) u D σ H:=by
 refine Qw h q a0 ?_;rw[agj n];exact k
def gi1{i:Nat}{σ:L2.St}{H:Hp}{a:Addr}{vs:List V}{c:Str}{s u:TS}{D:_}(h:σ[i]? =some (some (.ref a)))(q:H a=some (.tup vs))(a0:atI vs 0=some (.str c))(k:s {D with nx:=u D} σ H):Xb (Ve (Bv (tOp rEq (tOp (agH K) (tV i) (tC (.int 0))) (tC (.str c)))) s Om) u D σ H:=by
 refine Qw h q a0 ?_;rw[yf rfl];exact k
def sc0{i:Nat}{σ:L2.St}{H:Hp}{x:V}{t:Value}{C:Addr}{s u:TS}{D:_}(h:σ[i]? =some (some x))(ty:Jh K H x t)(e:kitOne K t (.ref C)=some false)(k:u D σ H):Ve (tB (tCB (ahT K) (DG (tV i) (DG (tC (.ref C)) Xj)))) s u D σ H:=by
 unfold Ve tB tCB DG tV tC Xj atV ahT;rw[h];exact⟨_,_,_,_,rfl,ty,e,_,rfl,k⟩
def sc1{i:Nat}{σ:L2.St}{H:Hp}{x:V}{t:Value}{C:Addr}{s u:TS}{D:_}(h:σ[i]? =some (some x))(ty:Jh K H x t)(e:kitOne K t (.ref C)=some true)(k:s D σ H):Ve (tB (tCB (ahT K) (DG (tV i) (DG (tC (.ref C)) Xj)))) s u D σ H:=by
 unfold Ve tB tCB DG tV tC Xj atV ahT;rw[h];exact⟨_,_,_,_,rfl,ty,e,_,rfl,k⟩
abbrev EL:=List (Addr×Ent)
noncomputable def mX(es:EL):List V:=es.map λr=>V.ref r.1
noncomputable def KZ(A:Adr)(H:Hp)(es:EL):Prop:=∀r∈es,IsE A H r.1 r.2
theorem KZ.same{H H':Hp}{es:EL}(h:KZ A H es)(s:Same H H'):KZ A H' es:=λr q=>(h r q).same s
def oG(es:EL):(mX es).length=es.length:=by unfold mX;rw[za]
def BV{rs:EL}{i:Nat}{y:V}(h:(mX rs)[i]? =some y):∃r,rs[i]? =some r/\y=.ref r.1:=by
 unfold mX at h;rw[zh]at h
 cases e:rs[i]? with
 |none=>rw[e]at h;cases h
 |some r=>rw[e]at h;exact⟨r,rfl,(zw h).symm⟩
def Zn{f:Addr×Ent->Int}{rs:EL}:∀{acc:List V},acc.length=rs.length->(∀(i:Nat) v,acc[i]? =some v->∃l,rs[i]? =some l/\v=.int (f l))->acc=(rs.map f).map V.int:=by
 intro acc q h;refine zzH λi=>?_;rw[zh,zh];by_cases hi:i<acc.length
 ·obtain⟨l,h1,h2⟩:=h i _ (zg hi)
  rw[zg hi,h2,h1];rfl
 ·rw[yx (by omega),yx (by omega)]
  rfl
def YQ(T:Txt K mg A D){H:Hp}{q:Addr}{es:EL}{Q:VK}{σ:L2.St}(hq:H q=some (.lst (mX es)))(hE:KZ A H es)(hl:es.length<=100)
  (k:∀D H',H D=none->Same H H'->H' D=some (.lst ((es.map λl=>l.2.num).map V.int))->Q (.ref D) H'):jZ [none] (Itl K q) (Uu 0) JF (tFV K 0 "number") σ H Q:=by
 refine jZ.listE (K:=K) (λσ=>∃a,σ=[a]) (λi v _=>∃l,es[i]? =some l/\v=.int l.2.num) (iH hq) ⟨_,rfl⟩ (by rw[oG,zv];omega) ?_ ?_
 ·rintro Da i x hx σ H5 R ⟨_,rfl⟩ sm hD _ kk
  obtain⟨l,z,rfl⟩:=BV hx;obtain⟨dx,nv,ab,hn⟩:=(hE l (zq z)).same sm;have hC:=agJ T l.2;walk_at "i";exact rd ab hC.c hC.n (xZ l.2 nv) (kk _ _ H5 ⟨_,rfl⟩ (same_refl _) λH' _=>⟨l,z,rfl⟩)
 ·intro Da H' acc hD sm hA aa hF
  rw[Zn (f:=λl=>l.2.num) (by rw[aa,oG]) hF]at hA;exact k Da H' hD sm hA
def akK{g:TG}{tb:TS}{D:Ends}{σ:L2.St}{H:Hp}{a b:Addr}{xs ys:List V}(q:Nat->L2.St->Hp->Prop)(n:Nat)(ab:n<=xs.length)(ac:n<=ys.length)(z:xs.length<=n\/ys.length<=n)(h0:q 0 σ H)(hl:∀i σ H,i<=n->q i σ H->SqL K H a xs/\SqL K H b ys)
  (hs:∀i x y σ H p,xs[i]? =some x->ys[i]? =some y->q i σ H->H p=none->g (.ref p) σ (upd H p (.tup [x,y])) λσ2 H2=>tb {D with nx:=q (i+1),ct:=q (i+1),bk:=D.nx} σ2 H2) (hd:∀σ H,q n σ H->D.nx σ H):Jf (Itz K a b) g tb D σ H:=by
 refine⟨λi m σ H=>m=n - i/\i<=n/\q i σ H,⟨n,by simp,yj _,h0⟩,?_⟩;rintro i m σ H ⟨rfl,hi,p⟩;obtain⟨q1,q2⟩:=hl i σ H hi p;by_cases aa:i<n
 ·have h1:i<xs.length:=by omega
  have h2:i<ys.length:=by omega
  refine .inr ⟨⟨xs,ys,xs[i],ys[i],q1,q2,by simp,by simp⟩,q (i+1),λσ' H' p'=>⟨n - (i+1),by omega,rfl,aa,p'⟩,λv H' y=>?_⟩;obtain⟨pp,x,y,hp,rfl,rfl,e1,e2⟩:=y;exact hs i x y σ _ pp (e1 xs q1) (e2 ys q2) p hp
 ·have e:i=n:=by omega
  subst e;exact .inl ⟨⟨xs,ys,q1,q2,z⟩,hd σ H p⟩
inductive vz(K:Fg_)(vs:List V)(H:Hp)(Q:VK)(E:XK):Prop
 |mk (a:Addr) (ns:List Int) (_:vs=[.ref a]) (_:SqL K H a (ns.map V.int)) (_:ns.length<64) (_:ns.Nodup) (_:∀H',Same H H'->Q .non H'):vz K vs H Q E
def Gj(T:Txt K mg A D):jE P w K mg base CX0 1 A.zP D.zP ["numbers"] (vz K):=by
 refine T.abR.F.okv nq λ_ _ _ _ H vs Q E hr h=>?_
 ·obtain⟨a,ns,rfl,hS,hl,hu,k⟩:=h
  refine ⟨_,(iu (iT (i:=1) nq.nd rfl orl (jc (Ax (K:=K)) (by rfl) T.adg (by decide+kernel) (pav 0 iy)))
   (iz (qC yB rfl (JR (K:=K) (by rfl) T.adi (pav 1 (ig (Rz (Su (K:=K)) (pvD 1) (QT iB) agV) iy))) (nu (K:=K) (n:=2) rfl (jl (iK (i:=2) nq.nd rfl orl) (jl (iK (i:=3) nq.nd rfl orl) nA)))
    (iz (jK (iR (lu) (pvD 2) (pvD 3) (iY _)) (iz (kY)) jd))))),?_⟩
  simp only[start_eq];walk_at "m";refine⟨ns,hS,hl,λp q hp ac ah=>?_⟩;have af:q.Nodup:=ac.nodup_iff.mpr hu;have S1:=iG (o:=.lst (q.map V.int)) hp;have h1:(upd H p (.lst (q.map V.int))) p=some (.lst (q.map V.int)):=iC;generalize upd H p (.lst (q.map V.int))=H1 at S1 h1
  try dsimp only
  rw[ap_for];walk_at "i";refine⟨_,iH h1,λpc aa=>?_⟩;rw[show Ym (q.map V.int) (some 1) none=(q.drop 1).map V.int by rw[List.map_drop];exact ZQ (q.map V.int) 1];have S2:=S1.trans (iG (o:=.lst ((q.drop 1).map V.int)) aa);have h2:(upd H1 pc (.lst ((q.drop 1).map V.int))) pc=some (.lst ((q.drop 1).map V.int)):=iC;have z:=iG (o:=.lst ((q.drop 1).map V.int)) aa _ _ h1;generalize upd H1 pc (.lst ((q.drop 1).map V.int))=H2 at S2 h2 z;refine⟨⟨_,iH z⟩,⟨_,iH h2⟩,?_⟩
  refine akK (K:=K) (a:=p) (b:=pc) (xs:=q.map V.int) (ys:=(q.drop 1).map V.int) (λi σ Hx=>(∃v2 v3,σ=[some (.ref a),some (.ref p),v2,v3])/\Same H2 Hx) (q.length - 1) (by rw[za];omega) (by rw[za,zzh];omega) (.inr (by rw[za,zzh];omega))
   ⟨⟨_,_,rfl⟩,same_refl _⟩ (λi σ Hx _ ⟨_,s⟩=>⟨s.seq (iH z),s.seq (iH h2)⟩) ?_ ?_
  ·rintro i x y σ H3 pt hx hy ⟨⟨v2,v3,rfl⟩,s3⟩ ad
   rw[zh]at hx hy;obtain⟨m1,ag,rfl⟩:=zz0.mp hx;obtain⟨m2,ab,rfl⟩:=zz0.mp hy;rw[List.getElem?_drop]at ab
   have ae:m1≠m2:=by
    obtain⟨q1,e1⟩:=zo.mp ag;obtain⟨q2,e2⟩:=zo.mp ab;have:=y9.mp af i (1+i) q1 q2 (by omega);rw[e1,e2]at this;exact this
   have S3:=s3.trans (iG (o:=.tup [V.int m1,V.int m2]) ad);have h3:(upd H3 pt (.tup [V.int m1,V.int m2])) pt=some (.tup [V.int m1,V.int m2]):=iC;generalize upd H3 pt (.tup [V.int m1,V.int m2])=H4 at S3 h3;walk_at "i";refine⟨_,jt h3,rfl,_,_,rfl,_,_,rfl,rfl,?_⟩;refine⟨rfl,?_⟩;rw[ze (λe=>ae (by cases e;rfl))];exact S3
  ·rintro σ H3 ⟨⟨v2,v3,rfl⟩,s3⟩
   exact k _ (S2.trans s3)
inductive Ht(A:Adr)(vs:List V)(H:Hp)(Q:VK)(E:XK):Prop
 |mk (x:Addr) (e:Ent) (_:vs=[.ref x]) (_:IsE A H x e) (_:∀t,H t=none->Q (.ref t) (upd H t (.tup [.int e.day,.int e.num]))):Ht A vs H Q E
def Aq(T:Txt K mg A D):jE P w K mg base CX0 1 A.zQ D.zQ ["entry"] (Ht A):=by
 refine T.abS.F.okv Qy λ_ _ _ _ H vs Q E hr h=>?_
 ·obtain⟨x,e,rfl,⟨dx,z,hx,hn⟩,k⟩:=h
  refine⟨_,(iz (iM (lY (ig (fv K 0) (ig (fv K 0) iy))))),?_⟩;have q:=agJ T e;walk_at "a";exact rd hx q.c q.d (RG e z) (rd hx q.c q.n (xZ e z) ⟨sz,λt ht=>k t ht⟩)
noncomputable def akB:V->Int
 |.int i=>i
 |_=>0
noncomputable def kfE(H:Hp):V->List Int
 |.ref b=>match H b with
  |some (.ins _ _ fs)=>[akB ((fs.lookup (Str.ofString "day")).getD .non),akB ((fs.lookup (Str.ofString "number")).getD .non)]
  |_=>[]
 |_=>[]
def IK{H:Hp}{b:Addr}{e:Ent}(h:IsE A H b e):kfE H (.ref b)=[e.day,e.num]:=by
 obtain⟨dx,z,q,_⟩:=h;unfold kfE
 try dsimp only
 rw[q]
 try dsimp only
 rw[RG,xZ];rfl
noncomputable def BfE(d e:Ent):Prop:=d.day<e.day\/(d.day=e.day/\d.num<e.num)
def BfE.asym{d e:Ent}(h:BfE d e)(h':BfE e d):False:=by
 unfold BfE at h h';omega
def ahS{d e:Ent}(h:uY [d.day,d.num] [e.day,e.num] false=true)(hn:d.num≠e.num):BfE d e:=by
 rw[uY]at h;by_cases q:d.day=e.day
 ·rw[zn q,uY,ze hn]at h
  exact .inr ⟨q,yK h⟩
 ·rw[ze q]at h
  exact .inl (yK h)
def aik{l k:List Ent}(h:l.Perm k)(h1:l.Pairwise BfE)(h2:k.Pairwise BfE):l=k:=List.Perm.eq_of_pairwise (λa b _ _ x y=>(x.asym y).elim) h1 h2 h
def CV{α:Type}{f:α->V}:∀{zs ys:List V},zs.Perm ys->∀{rs:List α},ys=rs.map f->∃q:List α,zs=q.map f/\q.Perm rs:=by
 intro zs ys h
 induction h with
 |nil=>intro rs e;exact⟨[],rfl,by cases rs with|nil=>exact .nil|cons _ _=>cases e⟩
 |cons x _ ih=>
  intro rs e
  cases rs with
  |nil=>cases e
  |cons r rs=>
   rw[zf]at e;obtain⟨e1,z⟩:=zzD e;obtain⟨q,a1,a2⟩:=ih z;exact⟨r::q,by rw[zf,<-a1,e1],a2.cons r⟩
 |swap x y l=>
  intro rs e
  cases rs with
  |nil=>cases e
  |cons r rs=>cases rs with
   |nil=>cases e
   |cons r2 rs=>
    rw[zf,zf]at e;obtain⟨e1,z⟩:=zzD e;obtain⟨e3,e4⟩:=zzD z;exact⟨r2::r::rs,by rw[zf,zf,e1,e3,e4],.swap _ _ _⟩
 |trans _ _ ih1 ih2=>
  intro rs e;obtain⟨r2,a1,a2⟩:=ih2 e;obtain⟨r3,b1,b2⟩:=ih1 a1;exact⟨r3,b1,b2.trans a2⟩
inductive Je(A:Adr)(vs:List V)(H:Hp)(Q:VK)(E:XK):Prop
 |mk (q:Addr) (es:EL) (_:vs=[.ref q]) (_:H q=some (.lst (mX es))) (_:KZ A H es) (_:es.length<64) (_:(es.map (·.2.num)).Nodup) (_:∀p es' H',Same H H'->H p=none->H' p=some (.lst (mX es'))->es'.Perm es->(es'.map (·.2)).Pairwise BfE->Q (.ref p) H'):Je A vs H Q E
def Qc(T:Txt K mg A D):jE P w K mg base CX0 4 A.zR D.zR ["entries"] (Je A):=by
 refine T.abT.F.okv Qo λ_ _ _ _ H vs Q E hr h=>?_
 ·obtain⟨q,es,rfl,hq,hE,hl,hu,k⟩:=h
  refine ⟨_,(iu (jf (pcg (Gj T) hr T.abR (Jq T) (ig (jB (cap:=[none]) (N':=["entry"]) rfl (by walk_at "c") (jG (K:=K) (pv 0)) (λ_ _ _ _=>(iK (i:=0) nd1 rfl orl orr)) (λ_ _ _ _=>jA) (λ_ _ _ _=>(fv K 0))) iy)))
   (iz (iM (Ik (K:=K) (by rfl) (Ke (Aq (K:=K) T) (hr.mono (by decide)) (Dm T) (by rfl) T.adg (by decide+kernel) (by rfl) T.abS.m (pav 0 iy)))))),?_⟩
  simp only[start_eq];walk_at "m";refine⟨⟨_,iH hq⟩,YQ T hq hE (by omega) λD1 H1 ah s1 h1=>?_⟩;refine⟨D1,_,rfl,iH h1,by rw[za];exact hl,hu,λH2 s2=>?_⟩;have S2:=s1.trans s2;have aa:=hE.same S2;walk_at "i";refine⟨_,iH (S2 _ _ hq),by rw[oG];exact hl,kfE H2,λy hy=>?_,λp zs H3 s3 hn hz ac ad=>?_⟩
  ·obtain⟨o,ho,rfl⟩:=zi.mp hy
   rw[IK (aa o ho)];refine⟨by simp,λH5 s5 R hR=>⟨o.1,o.2,rfl,(aa o ho).same s5,λt ht=>hR t _ (iG ht) ?_⟩⟩;rw[IK (aa o ho)];exact iC
  ·obtain⟨os,rfl,ab⟩:=CV (f:=λr:Addr×Ent=>V.ref r.1) ac rfl
   have af:es.Pairwise λa b=>a.2.num≠b.2.num:=yu.mp hu
   have hou':os.Pairwise λa b=>a.2.num≠b.2.num:=by
    have:(os.map λr=>r.2.num).Nodup:=(ab.map λr=>r.2.num).nodup_iff.mpr hu;exact yu.mp this
   have ag:=ad 2 (λy hy=>by
    obtain⟨r,hr,rfl⟩:=zi.mp hy;rw[IK (aa r hr)];rfl) (by
    refine yu.mpr (yu.mpr (zzs (fun{a b} ha hb ae z=>ae ?_) af));rw[IK (aa a ha),IK (aa b hb)]at z;exact(zzD (zzD z).2).1)
   refine k p os H3 (S2.trans s3) (S2.free hn) hz ab ?_;refine yu.mpr (zzs (fun{a b} ha hb h=>?_) ((yu.mp ag).and hou'));have h1:=h.1;rw[IK (aa a (ab.mem_iff.mp ha)),IK (aa b (ab.mem_iff.mp hb))]at h1;exact ahS h1 h.2
structure jh where
 n:Int
 s:Int
 p:Int
 c:Int
noncomputable def jh.fs(d:jh):List (Str×V):=[("number",.int d.n),("since",.int d.s),("pieces",.int d.p),("cost",.int d.c)]
noncomputable def jh.vs(d:jh):List V:=[.int d.n,.int d.s,.int d.p,.int d.c]
noncomputable def lO(A:Adr)(H:Hp)(x:Addr)(d:jh):Prop:=∃dx,H x=some (.ins A.abb dx d.fs)
def lO.same{H H':Hp}{x:Addr}{d:jh}(h:lO A H x d)(s:Same H H'):lO A H' x d:=let⟨dx,e⟩:=h;⟨dx,s _ _ e⟩
def lO.but{H H':Hp}{D:Addr}{x:Addr}{d:jh}(h:lO A H x d)(q:x≠D)(s:But D H H'):lO A H' x d:=let⟨dx,e⟩:=h;⟨dx,s _ _ q e⟩
inductive pW(A:Adr)(vs:List V)(H:Hp)(Q:VK)(E:XK):Prop
 |mk (x:Addr) (d:jh) (B:Hp) (dx:Addr) (_:vs=.ref x::d.vs) (_:New B H x A.abb dx []) (_:∀H',New B H' x A.abb dx d.fs->Q .non H'):pW A vs H Q E
def jH(T:Txt K mg A D):jE P w K mg base CX0 1 A.zV D.zV ["self", "number", "since", "pieces", "cost"] (pW A):=by
 refine T.abX.ok Io (by walk_at "v") (λ_ _ _ s H vs Q E z h=>?_)
 ·obtain⟨x,⟨n,s,p,c⟩,B,dx,rfl,q,k⟩:=h
  refine ⟨_,(iu (jk (K:=K) (pv 0) (pvD 1) rfl)
   (iu (jk (K:=K) (pv 0) (pvD 2) rfl)
   (iu (jk (K:=K) (pv 0) (pvD 3) rfl)
   (iz (jk (K:=K) (pv 0) (pvD 4) rfl))))),?_⟩
  simp only[jh.vs];walk_at "a";refine sw q.h T.ad0 T.ad1 (by decide) (?_);rw[wR _ _ (by decide+kernel)];have q:=q.put (gs:=[]++[(Str.ofString "number",V.int n)]) rfl;refine sw q.h T.ad0 T.ad2 (by simp) (?_);rw[lA (f:=Str.ofString "since") ["number"]];have q:=q.put (gs:=([]++[(Str.ofString "number",V.int n)])++[(Str.ofString "since",V.int s)]) rfl;refine sw q.h T.ad0 T.ad3 (by simp) (?_);rw[lA (f:=Str.ofString "pieces") ["number", "since"]];have q:=q.put (gs:=(([]++[(Str.ofString "number",V.int n)])++[(Str.ofString "since",V.int s)])++[(Str.ofString "pieces",V.int p)]) rfl;refine sw q.h T.ad0 T.ad4 (by simp) (?_);rw[lA (f:=Str.ofString "cost") ["number", "since", "pieces"]];exact k _ (q.put rfl)
def pB{R:Hp->Prop}{E:XK}{H:Hp}{x dx:Addr}(d:jh)(hx:H x=none)(q:H dx=none)(k:∀H',Same H H'->lO A H' x d->R H'):
  pW A (.ref x::d.vs) (upd (upd H dx (.own x)) x (.ins A.abb dx [])) (λv H2=>v=.non/\R H2) E:=
 ⟨x,d,H,dx,rfl,ql hx q,λH' z=>⟨rfl,k H' z.s ⟨dx,z.h⟩⟩⟩
abbrev RL:=List (Addr×jh)
noncomputable def jj(rs:RL):List V:=rs.map λr=>V.ref r.1
noncomputable def jU(A:Adr)(H:Hp)(rs:RL):Prop:=∀r∈rs,lO A H r.1 r.2
theorem jU.same{H H':Hp}{rs:RL}(h:jU A H rs)(s:Same H H'):jU A H' rs:=λr q=>(h r q).same s
structure Good(d:jh):Prop where
 n:0<=d.n/\d.n<=1000000
 s:0<=d.s/\d.s<=1000000
 p:1<=d.p/\d.p<=1000000000
 c:0<=d.c/\d.c<=1000000000000000000
def jJ{rs:RL}{i:Nat}{y:V}(h:(jj rs)[i]? =some y):∃r,rs[i]? =some r/\y=.ref r.1:=by
 unfold jj at h;rw[zh]at h
 cases e:rs[i]? with
 |none=>rw[e]at h;cases h
 |some r=>rw[e]at h;exact⟨r,rfl,(zw h).symm⟩
def iQ(rs:RL):(jj rs).length=rs.length:=by unfold jj;rw[za]
def get_mem{rs:RL}{i:Nat}{r:Addr×jh}(h:rs[i]? =some r):r∈rs:=zq h
def QS(F:V->Hp->Addr×jh->Prop){acc:List V}{H:Hp}:∀{ds:List jh},acc.length=ds.length->(∀(i:Nat) v,acc[i]? =some v->∃b d,ds[i]? =some d/\v=.ref b/\F v H (b,d))->
  ∃rs:RL,acc=jj rs/\rs.map (·.2)=ds/\∀r∈rs,F (.ref r.1) H r:=by
 induction acc with
 |nil=>
  intro ds q _
  cases ds with
  |nil=>exact⟨[],rfl,rfl,λr h=>by cases h⟩
  |cons _ _=>simp at q
 |cons v acc ih=>
  intro ds q h
  cases ds with
  |nil=>simp at q
  |cons d ds=>
   obtain⟨b,d',e,rfl,hf⟩:=h 0 v rfl;cases e;obtain⟨rs,e1,e2,e3⟩:=ih (ds:=ds) (by simpa using q) λi v hv=>h (i+1) v hv;refine⟨(b,d)::rs,by rw[e1];rfl,by rw[zf,e2],λr z=>?_⟩;rcases zu.mp z with rfl|z
   ·exact hf
   ·exact e3 r z
noncomputable def WR(H:Hp)(Q:VK)(ns:List Int):Prop:=∀p H',Same H H'->H p=none->H' p=some (.lst (ns.map V.int))->Q (.ref p) H'
def La{q z:List Int}(h:q.Perm z):q.sum=z.sum:=by
 induction h with
 |nil=>rfl
 |cons x _ ih=>rw[yn,yn,ih]
 |swap x y l=>rw[yn,yn,yn,yn];omega
 |trans _ _ ih1 ih2=>rw[ih1,ih2]
noncomputable def pcs(ls:RL):Int:=(ls.map (·.2.p)).sum
structure Shp(ns:List Int)(ls:RL):Prop where
 u:(ls.map (·.2.n)).Nodup
 p:∀l∈ls,1<=l.2.p
 m:∀l∈ls,l.2.n∈ns
noncomputable def Tq(l:Addr×jh):Int×Int:=(l.2.n,l.2.p)
noncomputable def Sim(ls ms:RL):Prop:=ms.map Tq=ls.map Tq
def Sim.len{ls q:RL}(h:Sim ls q):q.length=ls.length:=by simpa using congrArg List.length h
def Sim.ns{ls q:RL}(h:Sim ls q):q.map (·.2.n)=ls.map (·.2.n):=by
 have:=congrArg (List.map Prod.fst) h
 rwa [zr,zr]at this
def Sim.ps{ls q:RL}(h:Sim ls q):q.map (·.2.p)=ls.map (·.2.p):=by
 have:=congrArg (List.map Prod.snd) h
 rwa [zr,zr]at this
theorem Sim.pcs{ls q:RL}(h:Sim ls q):pcs q=pcs ls:=by unfold My.pcs;rw[h.ps]
def Sim.shp{ns:List Int}{ls z:RL}(h:Sim ls z)(s:Shp ns ls):Shp ns z:=by
 refine⟨by rw[h.ns];exact s.u,λl hl=>?_,λl hl=>?_⟩
 ·have:l.2.p∈z.map (·.2.p):=zi.mpr ⟨l,hl,rfl⟩
  rw[h.ps]at this;obtain⟨q,hq,e⟩:=zi.mp this;exact e▸s.p q hq
 ·have:l.2.n∈z.map (·.2.n):=zi.mpr ⟨l,hl,rfl⟩
  rw[h.ns]at this;obtain⟨q,hq,e⟩:=zi.mp this;exact e▸s.m q hq
theorem Shp.nil{ns:List Int}:Shp ns []:=⟨.nil,λl h=>(zl h).elim,λl h=>(zl h).elim⟩
theorem Li{α:Type} [DecidableEq α]:∀{l k:List α},l.Nodup->(∀x∈l,x∈k)->l.length<=k.length
 |[],_,_,_=>yj _
 |x::l,k,h,s=>by
  have h':=yq.mp h;have z:x∈k:=s x (.head _);have:=Li (l:=l) (k:=k.erase x) h'.2 λy q=>(List.mem_erase_of_ne (λe=>by subst e;exact h'.1 q)).mpr (s y (.tail _ q));rw[List.length_erase_of_mem z]at this;have hp:0<k.length:=List.length_pos_of_mem z;rw[yo];omega
def Shp.len{ns:List Int}{ls:RL}(s:Shp ns ls):ls.length<=ns.length:=by
 have:=Li s.u λn hn=>by
  obtain⟨l,q,rfl⟩:=zi.mp hn;exact s.m l q
 rwa [za]at this
def KC(l:Addr×jh)(ls:RL):pcs (l::ls)=l.2.p+pcs ls:=yn
def ahd(a b:RL):pcs (a++b)=pcs a+pcs b:=by unfold pcs;rw[zp,zzm]
theorem vC:∀{ls:RL},(∀l∈ls,1<=l.2.p)->(ls.length:Int)<=pcs ls
 |[],_=>zzX _
 |l::ls,h=>by
  have h1:=h l (.head _);have h2:=vC (ls:=ls) λq z=>h q (.tail _ z);rw[KC,yo];omega
theorem QQ:∀{ls:RL}{l:Addr×jh},(∀l∈ls,1<=l.2.p)->l∈ls->l.2.p<=pcs ls
 |q::ls,l,h,z=>by
  rw[KC];have h2:=vC (ls:=ls) λq hq=>h q (.tail _ hq);rcases zu.mp z with rfl|z
  ·omega
  ·have:=QQ (ls:=ls) (λq hq=>h q (.tail _ hq)) z
   have:=h q (.head _);omega
def QZ{a b:RL}(h:a.Perm b):pcs a=pcs b:=La (h.map (λl:Addr×jh=>l.2.p))
inductive JS(vs:List V)(H:Hp)(Q:VK)(E:XK):Prop
 |mk (a p w:Int) (_:vs=[.int a,.int p,.int w]) (_:xg a p) (_:Lz 0 w) (_:Q (.int (a*p/w)) H):JS vs H Q E
def Dv(T:Txt K mg A D):jE P w K mg base CX0 1 A.aac D.aac ["amount", "part", "whole"] JS:=by
 refine T.acd.F.okv Ul λ_ _ _ _ H vs Q E q h=>?_
 ·obtain⟨a,p,z,rfl,h1,h2,k⟩:=h
  refine⟨_,(iz (iM (iZ mK (iZ kZ (pvD 0) (pvD 1)) (pvD 2)))),?_⟩;walk_at "a";exact⟨h1,h2,k⟩
inductive Ed(A:Adr)(vs:List V)(H:Hp)(Q:VK)(E:XK):Prop
 |mk (x:Addr) (d:jh) (p:Int) (_:vs=[.ref x,.int p]) (_:lO A H x d) (_:xg d.c p) (_:Lz 0 d.p) (_:∀t y v H',Same H H'->H t=none->H' t=some (.tup [.ref y,v])->lO A H' y ⟨d.n,d.s,p,d.c*p/d.p⟩->(p=d.p->v=.non)->(p≠d.p->∃z,v=.ref z/\lO A H' z ⟨d.n,d.s,d.p - p,d.c - d.c*p/d.p⟩)->Q (.ref t) H'):Ed A vs H Q E
def Ob(T:Txt K mg A D):jE P w K mg base CX0 3 A.aai D.aai ["self", "pieces"] (Ed A):=by
 refine T.acj.ok wG (by walk_at "v") (λ_ _ _ s H vs Q E hr h=>?_)
 ·obtain⟨x,⟨n,s,p,c⟩,p',rfl,⟨dx,hx⟩,m1,m2,k⟩:=h
  refine ⟨_,(iu (iT (i:=2) wG.nd rfl orl (pcg (Dv T) hr T.acd (HX T) (ig (fv K 0) (pav 1 (ig (fv K 0) iy)))))
   (iu (iT (i:=3) wG.nd rfl orl (lD T.ae6 (jH (K:=K) T) (hr.mono (by decide)) (by rfl) T.adv (jM T) .nil jw (ig (fv K 0) (ig (fv K 0) (pav 1 (pav 2 iy))))))
   (iu (jK (iR (lu) (pvD 1) (fv K 0) (iY _)) (iz (iM (lY (pav 3 (ig mJ iy))))) jd)
   (iz (iM (lY (pav 3 (ig (lD T.ae6 (jH (K:=K) T) (hr.mono (by decide)) (by rfl) T.adv (jM T) .nil jw (ig (fv K 0) (ig (fv K 0) (ig (iZ pX (fv K 0) (pvD 1)) (ig (iZ pX (fv K 0) (pvD 2)) iy))))) iy)))))))),?_⟩
  simp only[start_eq];walk_at "m";refine rd hx T.ad0 T.ad4 (by rfl) (rd hx T.ad0 T.ad3 (by rfl) ⟨c,p',p,rfl,m1,m2,?_⟩);walk_at "m";refine rd hx T.ad0 T.ad1 (by rfl) (rd hx T.ad0 T.ad2 (by rfl) (λy dy hy aa _=>?_));refine pB (A:=A) ⟨n,s,p',c*p'/p⟩ hy aa λH1 s1 hY=>?_;have q:=s1 _ _ hx;walk_at "m";refine rd q T.ad0 T.ad3 (by rfl) ⟨rfl,?_⟩;by_cases e:p'=p
  ·rw[zn (by simp[e])]
   refine⟨sz,λt ht=>k t y .non _ (s1.trans (iG ht)) (s1.free ht) iC (hY.same (iG ht)) (λ_=>rfl) λh=>(h e).elim⟩
  ·rw[ze (by simp[e])]
   refine rd q T.ad0 T.ad1 (by rfl) (rd q T.ad0 T.ad2 (by rfl) (rd q T.ad0 T.ad3 (by rfl) ⟨_,rfl,rd q T.ad0 T.ad4 (by rfl) ⟨_,rfl,λz dz hz ab _=>?_⟩⟩));refine pB (A:=A) ⟨n,s,p - p',c - c*p'/p⟩ hz ab λH2 s2 hZ=>⟨sz,λt ht=>?_⟩;exact k t y (.ref z) _ (s1.trans (s2.trans (iG ht))) ((s1.trans s2).free ht) iC (hY.same (s2.trans (iG ht))) (λh=>(e h).elim) λ_=>⟨z,rfl,hZ.same (iG ht)⟩
noncomputable def shares(a W:Int):Int->List Int->List Int
 |_,[]=>[]
 |t,w::r=>(a*(t+w)/W - a*t/W)::shares a W (t+w) r
theorem Hv(a W:Int):∀(t:Int)(l:List Int)(x:Int),shares a W t (l++[x])=shares a W t l++[a*(t+l.sum+x)/W - a*(t+l.sum)/W]
 |t,[],x=>by simp[shares]
 |t,y::r,x=>by
  show _::shares a W (t+y) (r++[x])=_::shares a W (t+y) r++_;rw[Hv a W (t+y) r x,yn,Int.add_assoc t y r.sum];rfl
theorem wQ(a W:Int):∀(t:Int)(l:List Int),(shares a W t l).length=l.length
 |_,[]=>rfl
 |t,y::r=>congrArg (·+1) (wQ a W (t+y) r)
theorem CW(a W:Int):∀(t:Int)(l:List Int),(shares a W t l).sum=a*(t+l.sum)/W - a*t/W
 |t,[]=>by simp[shares]
 |t,y::r=>by
  show((a*(t+y)/W - a*t/W)::shares a W (t+y) r).sum=_;rw[yn,CW a W (t+y) r,yn,Int.add_assoc t y r.sum];omega
theorem Dq:∀{l:List Int},(∀x∈l,0<=x)->0<=l.sum
 |[],_=>by simp
 |x::r,h=>by
  have h1:=h x zm;have h2:=Dq (l:=r) λy q=>h y (ya _ q);rw[yn];omega
def Qq{l:List Int}(h:∀x∈l,0<=x)(i:Nat):0<=(l.take i).sum/\(l.take i).sum<=l.sum:=by
 have h1:0<=(l.take i).sum:=Dq λx q=>h x (List.mem_of_mem_take q);have h2:0<=(l.drop i).sum:=Dq λx q=>h x (List.mem_of_mem_drop q);have z:l.sum=(l.take i).sum+(l.drop i).sum:=by rw[<-zzm,zzE]
 omega
inductive rR(K:Fg_)(vs:List V)(H:Hp)(Q:VK)(E:XK):Prop
 |mk (l:Addr) (ws:List Int) (_:vs=[.ref l]) (_:SqL K H l (ws.map V.int)) (_:(∀x∈ws,0<=x)) (_:0<ws.sum) (_:ws.length<=1000) (_:∀H',Same H H'->Q (.int ws.sum) H'):rR K vs H Q E
def Dt(T:Txt K mg A D):jE P w K mg base CX0 1 A.aab D.aab ["weights"] (rR K):=by
 refine T.acb.F.okv sS λ_ _ _ _ H vs Q E hr h=>?_
 ·obtain⟨l,ws,rfl,hS,h0,hp,hl,k⟩:=h
  refine ⟨_,(iu (jK (oF (jc (Mp (K:=K) rfl) (by rfl) T.adj (by decide+kernel) (ig (jB (cap:=[none]) (N':=["weight"]) rfl (by walk_at "c") (jG (K:=K) (pv 0)) (λ_ _ _ _=>(iK (i:=0) nd1 rfl orl orr)) (λ_ _ _ _=>jA) (λ_ _ _ _=>(rO (Mi) (pvD 0) iB (iY _)))) iy))) (iz (kY)) jd)
   (iu (iT (i:=1) sS.nd rfl orl (jc (lX (K:=K) rfl) (by rfl) T.adk (by decide+kernel) (pav 0 iy)))
   (iu (jK (iR (lu) (pvD 1) iB (iY _)) (iz (kY)) jd)
   (iz (iM (pvD 1)))))),?_⟩
  walk_at "a";refine⟨⟨_,hS⟩,?_⟩;refine jZ.list (xs:=ws.map V.int) (λσ=>∃v,σ=[v]) (λ_=>true) (λv=>match v with|.int z=> .bl (decide (z<0))|_=> .non) hS ⟨none,rfl⟩ (by rw[za,zv];omega) ?_ ?_
  ·rintro x hx σ H5 R1 R2 ⟨v,rfl⟩ sm k1 k2
   obtain⟨c,_,rfl⟩:=zi.mp hx;walk_at "a";exact k1 rfl _ _ ⟨_,rfl⟩ (same_refl _)
  ·intro Da H' hD sm e
   rw[Ia,zr]at e;walk_at "i";refine⟨ws.map λz=>decide (z<0),iH (by rw[e,zr];rfl),?_⟩
   have q:(ws.map λz=>decide (z<0)).any id=false:=by
    rw[List.any_eq_false];intro b hb;obtain⟨z,hz,rfl⟩:=zi.mp hb;have:=h0 z hz;simp only[id,decide_eq_true_eq];omega
   rw[q];walk_at "a";refine⟨ws,sm.seq hS,?_⟩;rw[ze (by omega)];exact k H' sm
inductive RV(K:Fg_)(vs:List V)(H:Hp)(Q:VK)(E:XK):Prop
 |mk (a:Int) (l:Addr) (ws:List Int) (_:vs=[.int a,.ref l]) (_:SqL K H l (ws.map V.int)) (_:(∀x∈ws,0<=x)) (_:0<ws.sum) (_:ws.length<=1000) (_:ws.sum<2^63) (_:WR H Q (shares a ws.sum 0 ws)):RV K vs H Q E
def Rp(T:Txt K mg A D):jE P w K mg base CX0 2 A.aad D.aad ["amount", "weights"] (RV K):=by
 refine T.ace.F.okv pC λ_ _ _ _ H vs Q E hr h=>?_
 ·obtain⟨a,l,ws,rfl,hS,h0,hp,hl,hw,k⟩:=h
  refine ⟨_,(iu (iT (i:=2) pC.nd rfl orl (pcg (Dt T) hr T.acb (Er T) (pav 1 iy)))
   (iu (iT (i:=3) pC.nd rfl orl (jX iy))
   (iu (iT (i:=4) pC.nd rfl orl iB)
   (iu (iT (i:=5) pC.nd rfl orl iB)
   (iu (qC yB rfl (jG (K:=K) (pv 1)) (iK (i:=6) pC.nd rfl orl)
    (iu (iT (i:=4) pC.nd rfl orl (iZ jD (pvD 4) (pvD 6)))
    (iu (iT (i:=7) pC.nd rfl orl (pcg (Dv T) hr T.acd (HX T) (pav 0 (pav 4 (pav 2 iy)))))
    (iu (jf (vD (K:=K) yt yy yz mH (pvD 3) (ig (iZ pX (pvD 7) (pvD 5)) iy)))
    (iz (iT (i:=5) pC.nd rfl orl (pvD 7)))))))
   (iz (iM (pvD 3)))))))),?_⟩
  walk_at "a";refine⟨l,ws,rfl,hS,h0,hp,hl,λH1 s1=>?_⟩;walk_at "a";refine⟨yj _,λp aa=>⟨⟨_,(s1.trans (iG aa)).seq hS⟩,?_⟩⟩;have z:H p=none:=s1.free aa;have hd:Lz 0 ws.sum:=⟨hp,Zw (show ws.sum.natAbs<2^63 by omega) (by decide)⟩
  refine wJ (xs:=ws.map V.int) (λi σ H2=>(∃v6 v7,σ=[some (.int a),some (.ref l),some (.int ws.sum),some (.ref p),some (.int (ws.take i).sum),some (.int (a*(ws.take i).sum/ws.sum)),v6,v7])/\Same H H2/\H2 p=some (.lst ((shares a ws.sum 0 (ws.take i)).map V.int)))
   ⟨⟨none,none,by simp⟩,s1.upd z,by rw[iC];simp[shares]⟩ (λi σ H2 _ ⟨_,s2,_⟩=>s2.seq hS) ?_ ?_
  ·rintro i y σ H2 hi ⟨⟨v6,v7,rfl⟩,s2,h2⟩
   obtain⟨x,rfl,ab⟩:=Dh hi;have ac:i<ws.length:=(zo.mp ab).1;have ht:ws.take (i+1)=ws.take i++[x]:=by rw[yk,ab];rfl
   have q:(ws.take (i+1)).sum=(ws.take i).sum+x:=by rw[ht,zzm];simp
   have hb:=Qq h0 (i+1);rw[q]at hb;walk_at "a";refine⟨a,(ws.take i).sum+x,ws.sum,rfl,uG (by omega) (by omega),hd,?_⟩;walk_at "a";refine⟨tyL (iH h2),_,h2,?_,by rw[q],by rw[q],s2.upd z,?_⟩
   ·rw[za,wQ,yD]
    exact Vl (by omega)
   ·rw[iC,ht,Hv,zp,zz5]
    rfl
  ·rintro σ H2 ⟨⟨v6,v7,rfl⟩,s2,h2⟩
   rw[za,yJ]at h2;walk_at "a";exact k p H2 s2 z h2
def Ce{ls:RL}{f:Addr×jh->Int}{acc:List V}(z:acc.length=ls.length)(h:∀(i:Nat) v,acc[i]? =some v->∃l,ls[i]? =some l/\v=.int (f l)):acc=(ls.map f).map V.int:=by
 refine zzO (by simp[z]) λi h1 h2=>?_;obtain⟨l,q,e2⟩:=h i acc[i] (by simp);rw[e2];have h3:i<ls.length:=by omega
 have:ls[i]=l:=by
  rw[zg h3]at q;exact zw q
 simp[this]
inductive Kq(A:Adr)(vs:List V)(H:Hp)(Q:VK)(E:XK):Prop
 |mk (q:Addr) (ls:RL) (_:vs=[.ref q]) (_:H q=some (.lst (jj ls))) (_:jU A H ls) (_:ls.length<=100) (_:∀H',Same H H'->Q (.int ((ls.map (·.2)).map jh.c).sum) H'):Kq A vs H Q E
def Dz(T:Txt K mg A D):jE P w K mg base CX0 1 A.aag D.aag ["lots"] (Kq A):=by
 refine T.ach.F.okv Tw λ_ _ _ _ H vs Q E hr h=>?_
 ·obtain⟨q,ls,rfl,hq,hL,hl,k⟩:=h
  refine⟨_,(iz (iM (jc (lX (K:=K) rfl) (by rfl) T.adk (by decide+kernel) (ig (jB (cap:=[none]) (N':=["lot"]) rfl (by walk_at "c") (jG (K:=K) (pv 0)) (λ_ _ _ _=>(iK (i:=0) nd1 rfl orl orr)) (λ_ _ _ _=>jA) (λ_ _ _ _=>(fv K 0))) iy)))),?_⟩;walk_at "a";refine⟨⟨_,iH hq⟩,?_⟩;refine jZ.listE (K:=K) (λσ=>∃a,σ=[a]) (λi v _=>∃l,ls[i]? =some l/\v=.int l.2.c) (iH hq) ⟨_,rfl⟩ (by rw[iQ,zv];omega) ?_ ?_
  ·rintro Da i x hx σ H5 R ⟨_,rfl⟩ sm hD _ kk
   obtain⟨l,z,rfl⟩:=jJ hx;obtain⟨dx,ab⟩:=(hL l (get_mem z)).same sm;walk_at "i";exact rd ab T.ad0 T.ad4 (by rfl) (kk _ _ H5 ⟨_,rfl⟩ (same_refl _) λH' _=>⟨l,z,rfl⟩)
  ·intro Da H' acc hD sm hA aa hF
   rw[Ce (f:=λl=>l.2.c) (by rw[aa,iQ]) hF]at hA;have ec:(ls.map (·.2)).map jh.c=ls.map (λl=>l.2.c):=by rw[zr];rfl
   rw[ec]at k;walk_at "a";exact⟨_,iH hA,k H' sm⟩
inductive Eb(A:Adr)(vs:List V)(H:Hp)(Q:VK)(E:XK):Prop
 |mk (q:Addr) (ls:RL) (_:vs=[.ref q]) (_:H q=some (.lst (jj ls))) (_:jU A H ls) (_:ls.length<=100) (_:∀H',Same H H'->Q (.int ((ls.map (·.2)).map jh.p).sum) H'):Eb A vs H Q E
def Ou(T:Txt K mg A D):jE P w K mg base CX0 1 A.aaH D.aaH ["lots"] (Eb A):=by
 refine T.acI.F.okv MK λ_ _ _ _ H vs Q E hr h=>?_
 ·obtain⟨q,ls,rfl,hq,hL,hl,k⟩:=h
  refine⟨_,(iz (iM (jc (lX (K:=K) rfl) (by rfl) T.adk (by decide+kernel) (ig (jB (cap:=[none]) (N':=["lot"]) rfl (by walk_at "c") (jG (K:=K) (pv 0)) (λ_ _ _ _=>(iK (i:=0) nd1 rfl orl orr)) (λ_ _ _ _=>jA) (λ_ _ _ _=>(fv K 0))) iy)))),?_⟩;walk_at "a";refine⟨⟨_,iH hq⟩,?_⟩;refine jZ.listE (K:=K) (λσ=>∃a,σ=[a]) (λi v _=>∃l,ls[i]? =some l/\v=.int l.2.p) (iH hq) ⟨_,rfl⟩ (by rw[iQ,zv];omega) ?_ ?_
  ·rintro Da i x hx σ H5 R ⟨_,rfl⟩ sm hD _ kk
   obtain⟨l,z,rfl⟩:=jJ hx;obtain⟨dx,ab⟩:=(hL l (get_mem z)).same sm;walk_at "i";exact rd ab T.ad0 T.ad3 (by rfl) (kk _ _ H5 ⟨_,rfl⟩ (same_refl _) λH' _=>⟨l,z,rfl⟩)
  ·intro Da H' acc hD sm hA aa hF
   rw[Ce (f:=λl=>l.2.p) (by rw[aa,iQ]) hF]at hA;have ec:(ls.map (·.2)).map jh.p=ls.map (λl=>l.2.p):=by rw[zr];rfl
   rw[ec]at k;walk_at "a";exact⟨_,iH hA,k H' sm⟩
noncomputable def mz(ls:RL):Int:=(ls.map (·.2.c)).sum
def nG(ls:RL):mz ls=((ls.map (·.2)).map jh.c).sum:=by unfold mz;rw[zr];rfl
theorem ags{H:Hp}:∀{acc:List V}{ls:RL}{cs:List Int},acc.length=ls.length->cs.length=ls.length->(∀(i:Nat) v,acc[i]? =some v->∃b l d,ls[i]? =some l/\v=.ref b/\lO A H b d/\d.n=l.2.n/\d.p=l.2.p/\cs[i]? =some d.c)->∃q:RL,acc=jj q/\jU A H q/\Sim ls q/\mz q=cs.sum
 |[],ls,cs,hl,hc,_=>by
  cases ls with
  |nil=>cases cs with
   |nil=>exact⟨[],rfl,λr h=>(zl h).elim,rfl,rfl⟩
   |cons _ _=>simp at hc
  |cons _ _=>simp at hl
 |v::acc,ls,cs,hl,hc,h=>by
  cases ls with
  |nil=>simp at hl
  |cons l ls=>
   cases cs with
   |nil=>simp at hc
   |cons c cs=>
    obtain⟨b,l',d,e,rfl,hb,e1,e2,e3⟩:=h 0 v rfl;cases e;cases e3;obtain⟨q,g1,g2,g3,g4⟩:=ags (acc:=acc) (ls:=ls) (cs:=cs) (by simpa using hl) (by simpa using hc) λi v hv=>h (i+1) v hv;refine⟨(b,d)::q,by rw[g1];rfl,λr z=>?_,?_,?_⟩
    ·rcases zu.mp z with rfl|z
     ·exact hb
     ·exact g2 r z
    ·show Tq (b,d)::q.map Tq=Tq l::ls.map Tq
     rw[g3];unfold Tq;rw[e1,e2]
    ·show d.c+mz q=d.c+cs.sum
     rw[g4]
inductive Nt(A:Adr)(vs:List V)(H:Hp)(Q:VK)(E:XK):Prop
 |mk (x q:Addr) (ls:RL) (_:vs=[.ref x,.ref q]) (_:H q=some (.lst (jj ls))) (_:jU A H ls) (_:ls.length<=100) (_:(∀l∈ls,1<=l.2.p)) (_:pcs ls<2^60) (_:∀p ms H',Same H H'->H p=none->H' p=some (.lst (jj ms))->jU A H' ms->Sim ls ms->mz ms=mz ls->Q (.ref p) H'):Nt A vs H Q E
def pO(T:Txt K mg A D):jE P w K mg base CX0 1 A.aaf D.aaf ["self", "lots"] (Nt A):=by
 refine T.acg.okv IV λ_ _ _ _ H vs Q E hr h=>?_
 ·obtain⟨x,q,ls,rfl,hq,hL,hl,z,hs,k⟩:=h
  refine⟨_,(iz (iM (lH (pN (K:=K)) (by rfl) T.ade (by decide+kernel) (pav 1 iy)))),?_⟩;simp only[start_eq];walk_at "i";exact⟨_,.inl (iH hq),λp z=>k p ls _ (iG z) z iC (hL.same (iG z)) rfl rfl⟩
def Fp(T:Txt K mg A D):jE P w K mg base CX0 3 A.aah D.aah ["self", "lots"] (Nt A):=by
 refine T.aci.okv ux λ_ _ _ _ H vs Q E hr h=>?_
 ·obtain⟨x,q,ls,rfl,hq,hL,hl,hp,hs,k⟩:=h
  refine ⟨_,(iu (jK (iR (lu) (jc (mG (K:=K)) (by rfl) T.add (by decide+kernel) (pav 1 iy)) iB (iY _)) (iz (iM (jX iy))) jd)
   (iu (iT (i:=2) ux.nd rfl orl (pcg (Rp T) hr T.ace (Wr T) (ig (pcg (Dz T) hr T.ach (HD T) (pav 1 iy)) (ig (jB (cap:=[none]) (N':=["lot"]) rfl (by walk_at "c") (jG (K:=K) (pv 1)) (λ_ _ _ _=>(iK (i:=0) nd1 rfl orl orr)) (λ_ _ _ _=>jA) (λ_ _ _ _=>(fv K 0))) iy))))
   (iz (iM (jB (cap:=[none,none]) (N':=["lot", "cost"]) rfl (by walk_at "c") (JR (K:=K) (by rfl) T.adi (pav 1 (pav 2 iy))) (λ_ _ _ _=>(nu (K:=K) (n:=2) rfl (jl (iK (i:=0) (show(["lot", "cost"]:List Str).Nodup from by decide+kernel) rfl orl orr) (jl (iK (i:=1) (show(["lot", "cost"]:List Str).Nodup from by decide+kernel) rfl orl orr) nA)))) (λ_ _ _ _=>jA) (λ_ _ _ _=>(lD T.ae6 (jH (K:=K) T) (hr.mono (by decide)) (by rfl) T.adv (jM T) .nil jw (ig (fv K 0) (ig (fv K 0) (ig (fv K 0) (pav 1 iy))))))))))),?_⟩
  simp only[start_eq];walk_at "n";refine⟨_,.inl (iH hq),?_⟩;rw[iQ];have lz:∀n:Nat,n<=1000->n<=sizeLine:=λn h=>by rw[zv];omega
  by_cases h0:ls=[]
  ·subst h0
   rw[zn (by simp)];exact⟨lz _ (by decide),λp hp=>k p [] _ (iG hp) hp iC (λr h=>(zl h).elim) rfl rfl⟩
  ·have ar:0<ls.length:=y8.mpr h0
   rw[ze (by omega)];have ad:=vC hp;walk_at "n";refine⟨q,ls,rfl,hq,hL,hl,λH1 s1=>⟨⟨_,iH (s1 _ _ hq)⟩,?_⟩⟩;refine jZ.listE (K:=K) (λσ=>∃a,σ=[a]) (λi v _=>∃l,ls[i]? =some l/\v=.int l.2.p) (iH (s1 _ _ hq)) ⟨_,rfl⟩ (lz _ (by rw[iQ];omega)) ?_ ?_
   ·rintro Da i x hx σ H5 R ⟨_,rfl⟩ sm hD _ kk
    obtain⟨l,ab,rfl⟩:=jJ hx;obtain⟨dx,aa⟩:=(hL l (get_mem ab)).same (s1.trans sm);walk_at "i";exact rd aa T.ad0 T.ad3 (by rfl) (kk _ _ H5 ⟨_,rfl⟩ (same_refl _) λH' _=>⟨l,ab,rfl⟩)
   ·intro Da H2 acc hD sm hA ag aq
    rw[Ce (f:=λl=>l.2.p) (by rw[ag,iQ]) aq]at hA;have S2:=s1.trans sm;refine⟨_,Da,_,rfl,iH hA,λy hy=>?_,by show 0<pcs ls;omega,by rw[za];omega,by show pcs ls<2^63;omega,λpc H3 s3 au af=>?_⟩
    ·obtain⟨l,ab,rfl⟩:=zi.mp hy
     have:=hp l ab;omega
    have S3:=S2.trans s3
    try dsimp only
    rw[ap_ret];walk_at "i";refine⟨⟨_,iH (S3 _ _ hq)⟩,⟨_,iH af⟩,?_⟩;obtain⟨cs,ae⟩:∃cs,cs=shares ((ls.map (·.2)).map jh.c).sum (ls.map λl=>l.2.p).sum 0 (ls.map λl=>l.2.p):=⟨_,rfl⟩;have ai:cs.length=ls.length:=by rw[ae,wQ,za]
    rw[<-ae]at af;refine jZ.zipE (K:=K) (λσ=>∃a b,σ=[a,b]) (λi v H'=>∃b l d,ls[i]? =some l/\v=.ref b/\lO A H' b d/\d.n=l.2.n/\d.p=l.2.p/\cs[i]? =some d.c) (iH (S3 _ _ hq)) (iH af) (by rw[iQ,za,ai]) ⟨_,_,rfl⟩ (lz _ (by rw[iQ];omega)) ?_ ?_
    ·rintro Db i x y hx hy σ H5 p R ⟨_,_,rfl⟩ al aj ⟨ahW,am⟩ hp kk
     obtain⟨l,ab,rfl⟩:=jJ hx;obtain⟨c,rfl,hc⟩:=Dh hy;obtain⟨dx,aa⟩:=(hL l (get_mem ab)).same (S3.trans al);have aa:=iG (o:=.tup [V.ref l.1,V.int c]) hp _ _ aa;have ad:(upd H5 p (.tup [V.ref l.1,V.int c])) p=some (.tup [V.ref l.1,V.int c]):=iC;have ah:=iG (o:=.tup [V.ref l.1,V.int c]) hp _ _ am;generalize upd H5 p (.tup [V.ref l.1,V.int c])=H6 at aa ad ah kk;walk_at "i";refine⟨_,jt ad,rfl,_,_,rfl,_,_,rfl,rfl,?_⟩;refine rd aa T.ad0 T.ad1 (by rfl) (rd aa T.ad0 T.ad2 (by rfl) (rd aa T.ad0 T.ad3 (by rfl) (λz dz hz an _=>?_)));exact pB (A:=A) ⟨l.2.n,l.2.s,l.2.p,c⟩ hz an λH7 s7 hZ=>kk (.ref z) _ H7 ⟨_,_,rfl⟩ s7 λH' hb=>⟨z,l,_,ab,rfl,hZ.but (λe=>by rw[e,ah]at hz;cases hz) hb,rfl,rfl,hc⟩
    ·intro Db H4 as aj ao ap ac ak
     rw[iQ]at ac;obtain⟨ms,q1,q2,q3,q4⟩:=ags ac ai ak;refine k Db ms H4 (S3.trans ao) (S3.free aj) (q1▸ap) q2 q3 ?_;have hW:(ls.map λl=>l.2.p).sum≠0:=by show pcs ls≠0;omega
     rw[q4,ae,CW,zz5,yyj _ hW,Int.mul_zero,Int.zero_ediv,Int.sub_zero,nG]
inductive uK(A:Adr)(vs:List V)(H:Hp)(Q:VK)(E:XK):Prop
 |mk (x y:Addr) (d e:jh) (_:vs=[.ref x,.ref y]) (_:lO A H x d) (_:lO A H y e) (_:xg d.c e.p) (_:xg e.c d.p) (_:Q (.bl (decide (d.c*e.p>e.c*d.p))) H):uK A vs H Q E
def EY(T:Txt K mg A D):jE P w K mg base CX0 1 A.aan D.aan ["self", "other"] (uK A):=by
 refine T.aco.ok Fq (by walk_at "v") (λ_ _ _ s H vs Q E hr h=>?_)
 ·obtain⟨x,y,⟨n,s,p,c⟩,⟨n',s',p',c'⟩,rfl,⟨dx,z⟩,⟨dy,q⟩,m1,m2,k⟩:=h
  refine⟨_,(iz (iM (rO (HN) (iZ kZ (fv K 0) (fv K 1)) (iZ kZ (fv K 1) (fv K 0)) (iY _)))),?_⟩;walk_at "a";refine rd z T.ad0 T.ad4 (by rfl) (?_);refine rd q T.ad0 T.ad3 (by rfl) (?_);exact⟨_,rfl,_,rfl,m1,rd q T.ad0 T.ad4 (by rfl) (rd z T.ad0 T.ad3 (by rfl) ⟨_,rfl,_,rfl,m2,k⟩)⟩
abbrev PL:=List (Addr×Int×Int)
noncomputable def Jo(ps:PL):List V:=ps.map λr=>V.ref r.1
noncomputable def ajz(H:Hp)(ps:PL):Prop:=∀r∈ps,H r.1=some (.tup [.int r.2.1,.int r.2.2])
def Yc{ps:PL}{i:Nat}{y:V}(h:(Jo ps)[i]? =some y):∃r,ps[i]? =some r/\y=.ref r.1:=by
 unfold Jo at h;rw[zh]at h
 cases e:ps[i]? with
 |none=>rw[e]at h;cases h
 |some r=>rw[e]at h;exact⟨r,rfl,(zw h).symm⟩
def Pn(ps:PL):(Jo ps).length=ps.length:=by unfold Jo;rw[za]
noncomputable def JG:List jh->Int->List (Int×Int)
 |[],_=>[]
 |d::ds,w=>if w<=0 then[]else(d.n,min d.p w)::JG ds (w - min d.p w)
def Yy{ds:List jh}{w:Int}(h:w<=0):JG ds w=[]:=by
 cases ds with
 |nil=>rfl
 |cons d ds=>rw[JG,zn h]
inductive ut(A:Adr)(vs:List V)(H:Hp)(Q:VK)(E:XK):Prop
 |mk (q:Addr) (ls:RL) (w:Int) (_:vs=[.ref q,.int w]) (_:H q=some (.lst (jj ls))) (_:jU A H ls) (_:ls.length<=100) (_:∀pk ps H',Same H H'->H pk=none->H' pk=some (.lst (Jo ps))->ajz H' ps->ps.map (·.2)=JG (ls.map (·.2)) w->Q (.ref pk) H'):ut A vs H Q E
def oN(T:Txt K mg A D):jE P w K mg base CX0 1 A.aak D.aak ["lots", "pieces"] (ut A):=by
 refine T.acl.F.okv kh λ_ _ _ _ H vs Q E hr h=>?_
 ·obtain⟨q,ls,w,rfl,hq,hL,hl,k⟩:=h
  refine ⟨_,(iu (iT (i:=2) kh.nd rfl orl (jX iy))
   (iu (iT (i:=3) kh.nd rfl orl (pvD 1))
   (iu (qC yB rfl (jG (K:=K) (pv 0)) (iK (i:=4) kh.nd rfl orl)
    (iu (jK (iR (ahz) (pvD 3) iB (iY _)) (iz (Zb)) jd)
    (iu (iT (i:=5) kh.nd rfl orl (jc (Vq rfl) (by rfl) T.adl (by decide+kernel) (ig (fv K 4) (pav 3 iy))))
    (iu (jf (vD (K:=K) yt yy yz mH (pvD 2) (ig (lY (ig (fv K 4) (pav 5 iy))) iy)))
    (iz (iT (i:=3) kh.nd rfl orl (iZ pX (pvD 3) (pvD 5))))))))
   (iz (iM (pvD 2)))))),?_⟩
  simp only[start_eq];walk_at "m";refine⟨sz,λpk aa=>?_⟩;have S1:=iG (o:=.lst []) aa;have h1:(upd H pk (.lst [])) pk=some (.lst []):=iC;generalize upd H pk (.lst [])=H1 at S1 h1;walk_at "m";rw[ap_seq,ap_for];walk_at "i";refine⟨⟨_,iH (S1 _ _ hq)⟩,?_⟩
  refine Jf.listN (K:=K) (a:=q) (xs:=jj ls) (λi σ Hx=>∃(ps:PL)(wx:Int)(v4 v5:Option V),σ=[some (.ref q),some (.int w),some (.ref pk),some (.int wx),v4,v5]/\Same H Hx/\Hx pk=some (.lst (Jo ps))/\ajz Hx ps/\ps.length=i/\ps.map (·.2)++JG ((ls.map (·.2)).drop i) wx=JG (ls.map (·.2)) w)
   ⟨[],w,_,_,rfl,S1,h1,λr h=>(zl h).elim,rfl,rfl⟩ (λi σ Hx _ ⟨_,_,_,_,_,s,_⟩=>iH (s _ _ hq)) ?_ ?_
  ·rintro i y σ Hx hy ⟨ps,wx,v4,v5,rfl,Sx,z,hP,ad,he⟩ N hN
   obtain⟨l,ac,rfl⟩:=jJ hy;obtain⟨dy,ae⟩:=(hL l (get_mem ac)).same Sx;have af:i<ls.length:=(zo.mp ac).1
   have hd:(ls.map (·.2)).drop i=l.2::(ls.map (·.2)).drop (i+1):=by
    rw[yys (by simpa using af)];congr 1;rw[zzj,(zo.mp ac).2]
   walk_at "i";walk_at "m";by_cases hw:wx<=0
   ·rw[zn hw]
    refine k pk ps Hx Sx aa z hP ?_;rw[Yy hw,yX]at he;exact he
   ·rw[ze hw]
    walk_at "m";refine rd ae T.ad0 T.ad3 (by rfl) (?_);refine⟨_,_,rfl,?_⟩;walk_at "m";refine⟨.inl ⟨rfl,_,iH z⟩,rd ae T.ad0 T.ad1 (by rfl) ⟨sz,λt ht=>⟨_,iG ht _ _ z,by rw[Pn,zv];omega,?_⟩⟩⟩;have em:(if wx<l.2.p then wx else l.2.p)=min l.2.p wx:=by split<;>omega
    rw[em];have ab:=iG (o:=.tup [V.int l.2.n,V.int (min l.2.p wx)]) ht;have ag:pk≠t:=jz z ht;refine hN _ _ ⟨ps++[(t,l.2.n,min l.2.p wx)],_,_,_,rfl,(Sx.trans ab).upd aa,?_,λr hr=>?_,by rw[yd,ad];rfl,?_⟩
    ·rw[iC];unfold Jo;rw[zp];rfl
    ·rcases yg.mp hr with hr|hr
     ·have e1:=hP r hr
      exact(iJ λe=>by rw[e,z]at e1;cases e1).trans (ab _ _ e1)
     ·obtain rfl:=zx.mp hr
      exact(iJ ag.symm).trans iC
    ·rw[hd,JG,ze hw]at he
     rw[zp,zz2,<-he];rfl
  ·rintro σ Hx ⟨ps,wx,v4,v5,rfl,Sx,z,hP,ad,he⟩
   walk_at "a";refine k pk ps Hx Sx aa z hP ?_;rw[zz4 (by rw[za,iQ];exact zj _),JG,yX]at he;exact he
structure PkS(ls:RL)(ks:List (Int×Int))(w:Int):Prop where
 u:(ks.map (·.1)).Nodup
 h:∀k∈ks,∃l∈ls,l.2.n=k.1/\1<=k.2/\k.2<=l.2.p
 s:(ks.map (·.2)).sum=w
def PkS.perm{ls q:RL}{ks:List (Int×Int)}{w:Int}(h:PkS ls ks w)(p:ls.Perm q):PkS q ks w:=⟨h.u,λk z=>let⟨l,a,b⟩:=h.h k z;⟨l,p.mem_iff.mp a,b⟩,h.s⟩
theorem wO:∀{ls:RL}{w:Int},(ls.map (·.2.n)).Nodup->(∀l∈ls,1<=l.2.p)->0<=w->w<=pcs ls->PkS ls (JG (ls.map (·.2)) w) w
 |[],w,_,_,h0,h1=>by
  have:w=0:=by have:pcs []=0:=rfl;omega
  subst this;exact⟨.nil,λk h=>(zl h).elim,rfl⟩
 |l::ls,w,hu,hp,h0,h1=>by
  rw[zf,JG];split
  ·have:w=0:=by omega
   subst this;exact⟨.nil,λk h=>(zl h).elim,rfl⟩
  ·rename_i hw
   have hl:=hp l (.head _);rw[KC]at h1;have hu':=yq.mp hu;have aa:=vC (ls:=ls) λq hq=>hp q (.tail _ hq);have ih:=wO (ls:=ls) (w:=w - min l.2.p w) hu'.2 (λq hq=>hp q (.tail _ hq)) (by omega) (by omega);refine⟨yq.mpr ⟨λz=>?_,ih.u⟩,λk hk=>?_,?_⟩
   ·obtain⟨k,hk,e⟩:=zi.mp z
    obtain⟨q,hq,e2,_⟩:=ih.h k hk;exact hu'.1 (zi.mpr ⟨q,hq,e2.trans e⟩)
   ·rcases zu.mp hk with rfl|hk
    ·exact⟨l,.head _,rfl,by show 1<=min l.2.p w;omega,by show min l.2.p w<=_;omega⟩
    ·obtain⟨q,hq,r⟩:=ih.h k hk
     exact⟨q,.tail _ hq,r⟩
   ·rw[zf,yn,ih.s]
    show min l.2.p w+_=w;omega
inductive uL(A:Adr)(vs:List V)(H:Hp)(Q:VK)(E:XK):Prop
 |mk (q:Addr) (ls:RL) (_:vs=[.ref q]) (_:H q=some (.lst (jj ls))) (_:jU A H ls) (_:ls.length<=100) (_:(∀l∈ls,1<=l.2.p/\l.2.p<2^60)) (_:∀p ms H',Same H H'->H p=none->H' p=some (.lst (jj ms))->jU A H' ms->ms.Perm ls->Q (.ref p) H'):uL A vs H Q E
def Es(T:Txt K mg A D):jE P w K mg base CX0 2 A.aao D.aao ["lots"] (uL A):=by
 refine T.acp.F.okv mL λ_ _ _ _ H vs Q E hr h=>?_
 ·obtain⟨q,ls,rfl,hq,hL,hl,hp,k⟩:=h
  refine ⟨_,(iu (iT (i:=1) mL.nd rfl orl (jX iy))
   (iu (qC yB rfl (jG (K:=K) (pv 0)) (iK (i:=2) mL.nd rfl orr)
    (iu (mV (i:=3) mL.nd rfl rfl (cap:=[none,none,some 2]) (N':=["place", "other", "lot"]) rfl (by walk_at "c") (ahr (K:=K) (by rfl) T.adn (pav 1 iy)) (λ_ _ _ _=>(nu (K:=K) (n:=2) rfl (jl (iK (i:=0) (show(["place", "other", "lot"]:List Str).Nodup from by decide+kernel) rfl orl orr) (jl (iK (i:=1) (show(["place", "other", "lot"]:List Str).Nodup from by decide+kernel) rfl orl orr) nA)))) (λ_ _ _ _=>(Ah (oF (jq (pv 2) (mc T.ad0 T.afv (EY T) hr (Hw T) .nil) jw (pav 1 iy))))) (λ_ _ _ _=>(pvD 0)))
    (iz (jf (vD (K:=K) yt PySem.F.slot_list_insert PySem.F.type_list_insert VG (pvD 1) (ig (Zc (K:=K) (by rfl) (ahL rfl (by rfl) T.adl (pav 3 iy) (jc (mG (K:=K)) (by rfl) T.add (by decide+kernel) (pav 1 iy)))) (pav 2 iy)))))))
   (iz (iM (pvD 1))))),?_⟩
  simp only[start_eq];walk_at "n";refine⟨sz,λpt ad=>?_⟩;have S1:=iG (o:=.lst []) ad;have h1:(upd H pt (.lst [])) pt=some (.lst []):=iC;generalize upd H pt (.lst [])=H1 at S1 h1
  try dsimp only
  rw[ap_seq,ap_for];walk_at "i";refine⟨⟨_,iH (S1 _ _ hq)⟩,?_⟩
  refine Jf.listN (K:=K) (a:=q) (xs:=jj ls) (λi σ Hx=>∃(ts:RL)(v2 v3:Option V),σ=[some (.ref q),some (.ref pt),v2,v3]/\Same H Hx/\Hx pt=some (.lst (jj ts))/\ts.Perm (ls.take i))
   ⟨[],_,_,rfl,S1,h1,.refl _⟩ (λi σ Hx _ ⟨_,_,_,_,s,_⟩=>iH (s _ _ hq)) ?_ ?_
  ·rintro i y σ Hx hi ⟨ts,v2,v3,rfl,Sx,hx,aa⟩ N hN
   obtain⟨l,ac,rfl⟩:=jJ hi;obtain⟨dy,ag⟩:=(hL l (get_mem ac)).same Sx;have ao:i<ls.length:=(zo.mp ac).1;have ap:ts.length<=100:=by rw[aa.length_eq,yD];omega
   have ak:∀m∈ts,m∈ls:=λm hm=>List.mem_of_mem_take (aa.mem_iff.mp hm);walk_at "n";refine⟨⟨_,iH hx⟩,?_⟩;refine jZ.enumI (K:=K) (λσ=>∃a b,σ=[a,b,some (.ref l.1)]) (λj=>((ts.map (·.2))[j]?).any λe=>decide (l.2.c*e.p>e.c*l.2.p)) (iH hx) ⟨_,_,rfl⟩ (by rw[iQ,zv];omega) ?_ ?_
   ·rintro j x am σ H5 qt R1 R2 ⟨_,_,rfl⟩ s5 aj k1 k2
    obtain⟨m,hm,rfl⟩:=jJ am;have ah:=ak m (get_mem hm);have p1:=hp l (get_mem ac);have p2:=hp m ah;walk_at "i";refine⟨_,jt aj,rfl,_,_,rfl,_,_,rfl,rfl,md (s5 _ _ ag) zm (by rfl) ⟨l.1,m.1,l.2,m.2,rfl,⟨dy,s5 _ _ ag⟩,(hL m ah).same (Sx.trans s5),uG (by omega) (by omega),uG (by omega) (by omega),_,rfl,?_⟩⟩;have ai:(((ts.map (·.2))[j]?).any λe=>decide (l.2.c*e.p>e.c*l.2.p))=decide (l.2.c*m.2.p>m.2.c*l.2.p):=by rw[zh,hm];rfl
    by_cases c:l.2.c*m.2.p>m.2.c*l.2.p
    ·rw[zn (yf c)]
     exact k1 (ai.trans (yf c)) _ H5 ⟨_,_,rfl⟩ (same_refl _)
    ·rw[ze (λz=>c (yK z))]
     exact k2 (ai.trans (ym c)) _ H5 ⟨_,_,rfl⟩ (same_refl _)
   ·intro Dc H2 hD s2 ae
    rw[iQ]at ae;obtain⟨js,af⟩:∃js,js=(List.range ts.length).filter λj=>((ts.map (·.2))[j]?).any λe=>decide (l.2.c*e.p>e.c*l.2.p):=⟨_,rfl⟩;have an:∀j∈js,j<ts.length:=λj hj=>y4.mp (zzf.mp (af▸hj)).1;have al:js.Pairwise (·<·):=af▸List.pairwise_lt_range.filter _;rw[<-af]at ae;have ab:=s2 _ _ hx
    (try dsimp only)
    walk_at "i";refine⟨.inl ⟨rfl,_,iH ab⟩,_,.inl (iH ab),js.map λi:Nat=>(i:Int),iH (by rw[ae,zr];rfl),yu.mpr (al.imp λh=>by omega),?_⟩;rw[iQ]
    obtain ⟨n0,e0,aq⟩:∃n0:Nat,(js.map λi:Nat=>(i:Int)).headD (ts.length:Int)=n0/\n0<=ts.length:=by
     cases js with
     |nil=>exact⟨ts.length,rfl,zj _⟩
     |cons j js=>exact⟨j,rfl,yyF (an j (.head _))⟩
    rw[e0];refine⟨pt,jj ts,(n0:Int),.ref l.1,rfl,rfl,ab,by omega,by rw[iQ];omega,by omega,by rw[iQ,zv];omega,hN _ _ ⟨ts.take n0++l::ts.drop n0,_,_,rfl,(Sx.trans s2).upd ad,?_,?_⟩⟩
    ·rw[iC,yyu]
     unfold jj;rw[zp,zf,List.map_take,List.map_drop]
    ·rw[yk,ac]
     refine List.Perm.trans ?_ (aa.append_right _);refine List.perm_middle.trans ?_;rw[zzE];exact(List.perm_append_singleton _ _).symm
  ·rintro σ Hx ⟨ts,v2,v3,rfl,Sx,hx,aa⟩
   walk_at "a";rw[iQ,yJ]at aa;exact k pt ts Hx Sx ad hx (λr hr=>(hL r (aa.mem_iff.mp hr)).same Sx) aa
inductive BR(A:Adr)(vs:List V)(H:Hp)(Q:VK)(E:XK):Prop
 |mk (x q:Addr) (ls:RL) (w:Int) (_:vs=[.ref x,.ref q,.int w]) (_:H q=some (.lst (jj ls))) (_:jU A H ls) (_:ls.length<=100) (_:(ls.map (·.2.n)).Nodup) (_:(∀l∈ls,1<=l.2.p/\l.2.p<2^60)) (_:0<=w) (_:w<=pcs ls) (_:∀pk ps H',Same H H'->H pk=none->H' pk=some (.lst (Jo ps))->ajz H' ps->PkS ls (ps.map (·.2)) w->Q (.ref pk) H'):BR A vs H Q E
def vo(T:Txt K mg A D):jE P w K mg base CX0 2 A.aal D.aal ["self", "lots", "pieces"] (BR A):=by
 refine T.acm.okv Gg λ_ _ _ _ H vs Q E hr h=>?_
 ·obtain⟨x,q,ls,w,rfl,hq,hL,z,hu,hp,h0,h1,k⟩:=h
  refine⟨_,(iz (iM (pcg (oN T) hr T.acl (qd T) (pav 1 (pav 2 iy))))),?_⟩;simp only[start_eq];walk_at "i";exact⟨q,ls,w,rfl,hq,hL,z,λpk ps H' s hn h hP e=>k pk ps H' s hn h hP (e▸wO hu (λl z=>(hp l z).1) h0 h1)⟩
def GK(T:Txt K mg A D):jE P w K mg base CX0 2 A.aam D.aam ["self", "lots", "pieces"] (BR A):=by
 refine T.acn.okv Iv λ_ _ _ _ H vs Q E hr h=>?_
 ·obtain⟨x,q,ls,w,rfl,hq,hL,hl,hu,hp,h0,h1,k⟩:=h
  refine⟨_,(iz (iM (pcg (oN T) hr T.acl (qd T) (ig (QD (K:=K) (by rfl) (Ue rfl (by rfl) T.ade (by rfl) T.adm (pav 1 iy))) (pav 2 iy))))),?_⟩;simp only[start_eq];walk_at "i";refine⟨_,iH hq,λl aa=>?_⟩;have z:=List.reverse_perm ls;have s1:=iG (o:=.lst (jj ls).reverse) aa;refine⟨l,ls.reverse,w,rfl,by rw[iC];unfold jj;rw[List.map_reverse],λr hr=>(hL r (z.mem_iff.mp hr)).same s1,by rw[z.length_eq];exact hl,λpk ps H' s hn h hP e=>k pk ps H' (s1.trans s) (s1.free hn) h hP (e▸(wO ((z.map (λl:Addr×jh=>l.2.n)).nodup_iff.mpr hu) (λl hl=>(hp l (z.mem_iff.mp hl)).1) h0 (by rw[QZ z];exact h1)).perm z)⟩
def Ez(T:Txt K mg A D):jE P w K mg base CX0 3 A.aap D.aap ["self", "lots", "pieces"] (BR A):=by
 refine T.acq.okv Fb λ_ _ _ _ H vs Q E hr h=>?_
 ·obtain⟨x,q,ls,w,rfl,hq,hL,hl,hu,hp,h0,h1,k⟩:=h
  refine⟨_,(iz (iM (pcg (oN T) hr T.acl (qd T) (ig (pcg (Es T) hr T.acp (GQ T) (pav 1 iy)) (pav 2 iy))))),?_⟩;simp only[start_eq];walk_at "i";refine⟨q,ls,rfl,hq,hL,hl,hp,λp ms H1 s1 ac aa ab z=>?_⟩;refine⟨p,ms,w,rfl,aa,ab,by rw[z.length_eq];exact hl,λpk ps H' s hn h hP e=>k pk ps H' (s1.trans s) (s1.free hn) h hP (e▸(wO ((z.map (λl:Addr×jh=>l.2.n)).nodup_iff.mpr hu) (λl hl=>(hp l (z.mem_iff.mp hl)).1) h0 (by rw[QZ z];exact h1)).perm z)⟩
abbrev Pk:=List (Int×Int)
noncomputable def nD(ks:Pk)(d:jh):jh:=match ks.lookup d.n with
 |some w=>⟨d.n,d.s,d.p - w,d.c - d.c*w/d.p⟩
 |none=>d
noncomputable def Cg(ds:List jh)(k:Int×Int):jh:=match ds.find? (λd=>d.n==k.1)with
 |some d=>⟨d.n,d.s,k.2,d.c*k.2/d.p⟩
 |none=>⟨0,0,0,0⟩
noncomputable def Oz(ks:Pk)(ds:List jh):List jh:=(ds.map (nD ks)).filter λd=>decide (0<d.p)
structure Ql(ds:List jh):Prop where
 u:(ds.map jh.n).Nodup
 g:∀d∈ds,1<=d.p/\d.p<=100000000000
 l:ds.length<=63
structure ahU(ds:List jh)(ks:Pk):Prop where
 u:(ks.map (·.1)).Nodup
 h:∀k∈ks,∃d∈ds,d.n=k.1/\1<=k.2/\k.2<=d.p
noncomputable def kz(ds:List jh)(vs:List V):List (Key×V):=List.zipWith (λd v=>((Sum.inl d.n:Key),v)) ds vs
theorem Vw:∀{ds:List jh}{vs:List V}{j:Nat}{d:jh}{v:V},(ds.map jh.n).Nodup->ds[j]? =some d->vs[j]? =some v->nY (kz ds vs) (Sum.inl d.n)=some v
 |[],_,_,_,_,_,h,_=>by simp at h
 |_::_,[],_,_,_,_,_,h=>by simp at h
 |d0::ds,v0::vs,0,d,v,_,h1,h2=>by
  cases h1;cases h2;exact kj rfl
 |d0::ds,v0::vs,j+1,d,v,hu,h1,h2=>by
  rw[zf,yq]at hu;have h1':ds[j]? =some d:=h1
  have q:¬((Sum.inl d0.n:Key)=Sum.inl d.n):=λe=>hu.1 (by
   have e':d0.n=d.n:=yyt e;rw[e'];exact zi.mpr ⟨d,zq h1',rfl⟩)
  show nY ((Sum.inl d0.n,v0)::kz ds vs) _=_;rw[kE q];exact Vw hu.2 h1' h2
theorem agk:∀{ds:List jh}{vs:List V}{j:Nat}{d:jh}{v':V},(ds.map jh.n).Nodup->ds[j]? =some d->(kz ds vs).map (λq=>if q.1=(Sum.inl d.n:Key)then(q.1,v')else q)=kz ds (vs.set j v')
 |[],_,_,_,_,_,h=>by simp at h
 |d0::ds,[],j,d,v',_,_=>by simp[kz]
 |d0::ds,v0::vs,0,d,v',hu,h1=>by
  cases h1;rw[zf,yq]at hu;show(if(Sum.inl d0.n:Key)=Sum.inl d0.n then((Sum.inl d0.n:Key),v')else _)::(kz ds vs).map _=(Sum.inl d0.n,v')::kz ds vs;rw[zn rfl];congr 1;refine(yH λq aa=>?_).trans (List.map_id _);rw[ze]
  ·rfl
  ·intro e
   obtain⟨i,hi,e2⟩:=yC aa;have hd:i<ds.length:=by simp[kz]at hi;omega
   have:q.1=Sum.inl ds[i].n:=by rw[<-e2];simp[kz]
   rw[this]at e;exact hu.1 (by rw[<-yyt e];exact zi.mpr ⟨ds[i],zzi hd,rfl⟩)
 |d0::ds,v0::vs,j+1,d,v',hu,h1=>by
  rw[zf,yq]at hu;have h1':ds[j]? =some d:=h1
  have z:¬((Sum.inl d0.n:Key)=Sum.inl d.n):=λe=>hu.1 (by
   have e':d0.n=d.n:=yyt e;rw[e'];exact zi.mpr ⟨d,zq h1',rfl⟩)
  show(if(Sum.inl d0.n:Key)=Sum.inl d.n then _ else((Sum.inl d0.n:Key),v0))::(kz ds vs).map _=(Sum.inl d0.n,v0)::kz ds (vs.set j v');rw[ze z,agk hu.2 h1']
def ajp{ds:List jh}{vs:List V}{j:Nat}{d:jh}{v q:V}(z:(ds.map jh.n).Nodup)(h1:ds[j]? =some d)(h2:vs[j]? =some v):putK (kz ds vs) (Sum.inl d.n) q=kz ds (vs.set j q):=by
 unfold putK;rw[zn (by rw[oA,Vw z h1 h2];rfl)];exact agk z h1
theorem Wa:∀{ds:List jh}{vs:List V}{n:Int},n∉ds.map jh.n->nY (kz ds vs) (Sum.inl n)=none
 |[],_,_,_=>rfl
 |_::_,[],_,_=>rfl
 |d::ds,v::vs,n,h=>by
  rw[zf,zu,not_or]at h;show nY ((Sum.inl d.n,v)::kz ds vs) _=_;rw[kE (λe=>h.1 (yyt e).symm)];exact Wa h.2
def aiZ{ds:List jh}{vs:List V}{d:jh}{v:V}(q:vs.length=ds.length)(h:d.n∉ds.map jh.n):putK (kz ds vs) (Sum.inl d.n) v=kz (ds++[d]) (vs++[v]):=by
 unfold putK;rw[ze (by rw[oA,Wa h];simp)];unfold kz;rw[List.zipWith_append q.symm];rfl
theorem Vv:∀{ds:List jh}{vs:List V},vs.length=ds.length->(kz ds vs).map (·.2)=vs
 |[],[],_=>rfl
 |[],_::_,h=>by simp at h
 |_::_,[],h=>by simp at h
 |d::ds,v::vs,h=>by
  show v::(kz ds vs).map (·.2)=_;rw[Vv (by simpa using h)]
def agC{ds:List jh}{vs:List V}(h:vs.length=ds.length):(kz ds vs).length=ds.length:=by simp[kz,h]
def MN{ks:Pk}{n:Int}(h:n∉ks.map (·.1)):ks.lookup n=none:=by
 induction ks with
 |nil=>rfl
 |cons k ks ih=>
  rw[zf,zu,not_or]at h;have e:(n==k.1)=false:=by simpa using h.1
  obtain⟨a,b⟩:=k;show(match n==a with|true=>some b|false=>ks.lookup n)=_;rw[show(n==a)=false from e];exact ih h.2
def Mw{ks:Pk}{n w:Int}(m:Int):(ks++[(n,w)]).lookup m=match ks.lookup m with|some x=>some x|none=>if m=n then some w else none:=by
 induction ks with
 |nil=>
  show(match m==n with|true=>some w|false=>none)=_;by_cases e:m=n
  ·simp[e]
  ·have e':(m==n)=false:=by simpa using e
   rw[e'];simp[e]
 |cons k ks ih=>
  obtain⟨a,b⟩:=k;show(match m==a with|true=>some b|false=>(ks++[(n,w)]).lookup m)=match(match m==a with|true=>some b|false=>ks.lookup m)with|some x=>some x|none=>_
  cases m==a with
  |true=>rfl
  |false=>exact ih
def Hh{ks:Pk}{n w:Int}{d:jh}(h:d.n≠n):nD (ks++[(n,w)]) d=nD ks d:=by
 unfold nD;rw[Mw]
 cases ks.lookup d.n with
 |none=>simp[h]
 |some x=>rfl
def Tc{ks:Pk}{w:Int}{d:jh}(h:d.n∉ks.map (·.1)):nD (ks++[(d.n,w)]) d=⟨d.n,d.s,d.p - w,d.c - d.c*w/d.p⟩:=by
 unfold nD;rw[Mw,MN h];simp
def RX{ks:Pk}{d:jh}(h:d.n∉ks.map (·.1)):nD ks d=d:=by
 unfold nD;rw[MN h]
def some_at{ds:List jh}{d:jh}{w:Int}(q:(ds.map jh.n).Nodup)(h:d∈ds):Cg ds (d.n,w)=⟨d.n,d.s,w,d.c*w/d.p⟩:=by
 have:ds.find? (λe=>e.n==d.n)=some d:=by
  induction ds with
  |nil=>cases h
  |cons e ds ih=>
   rw[zf,yq]at q;rcases zu.mp h with rfl|h
   ·simp
   ·have:e.n≠d.n:=λz=>q.1 (by rw[z];exact zi.mpr ⟨d,h,rfl⟩)
    rw[List.find?_cons_of_neg (by simpa using this)];exact ih q.2 h
 unfold Cg;rw[this]
def Rt{ks:Pk}{i:Nat}{k:Int×Int}(h:(ks.map (·.1)).Nodup)(e:ks[i]? =some k):k.1∉(ks.take i).map (·.1):=by
 intro hm;have h2:ks.map (·.1)=(ks.take i).map (·.1)++(ks.drop i).map (·.1):=by rw[<-zp,zzE]
 rw[h2]at h;exact(zzq.mp h).2.2 _ hm k.1 (zi.mpr ⟨k,by rw[List.mem_iff_getElem?];exact⟨0,by rw[List.getElem?_drop];exact e⟩,rfl⟩) rfl
theorem Ov:∀{l k:List Int},l.Nodup->(∀x∈l,x∈k)->l.length<=k.length
 |[],_,_,_=>yj _
 |x::l,k,h,s=>by
  have h':=yq.mp h;have z:x∈k:=s x (.head _);have:=Ov (l:=l) (k:=k.erase x) h'.2 λy q=>(List.mem_erase_of_ne (λe=>by subst e;exact h'.1 q)).mpr (s y (.tail _ q));rw[List.length_erase_of_mem z]at this;have hp:0<k.length:=List.length_pos_of_mem z;rw[yo];omega
def lO.put{H:Hp}{x l:Addr}{d:jh}{o:HO}(h:lO A H x d)(q:∀C dx fs,H l≠some (.ins C dx fs)):lO A (upd H l o) x d:=by
 obtain⟨dx,e⟩:=h;exact⟨dx,(iJ λz=>q _ _ _ (z▸e)).trans e⟩
noncomputable def OkV(A:Adr)(H:Hp)(d:jh)(v:V):Prop:=(0<d.p/\∃x,v=.ref x/\lO A H x d)\/(d.p=0/\v=.non)
theorem OkV.same{H H':Hp}{d:jh}{v:V}(h:OkV A H d v)(s:Same H H'):OkV A H' d v:=h.imp (fun⟨a,x,e,l⟩=>⟨a,x,e,l.same s⟩) id
theorem OkV.put{H:Hp}{d:jh}{v:V}{l:Addr}{o:HO}(h:OkV A H d v)(q:∀C dx fs,H l≠some (.ins C dx fs)):OkV A (upd H l o) d v:=h.imp (fun⟨a,x,e,i⟩=>⟨a,x,e,i.put q⟩) id
theorem Xm{H:Hp}:∀{ds:List jh}{vs:List V},vs.length=ds.length->(∀(j:Nat) d v,ds[j]? =some d->vs[j]? =some v->OkV A H d v)->∃q:RL,(vs.filter λv=>decide (v≠.non))=jj q/\q.map (·.2)=(ds.filter λd=>decide (0<d.p))/\jU A H q
 |[],[],_,_=>⟨[],rfl,rfl,λr h=>(zl h).elim⟩
 |[],_::_,h,_=>by simp at h
 |_::_,[],h,_=>by simp at h
 |d::ds,v::vs,hl,h=>by
  obtain⟨q,e1,e2,e3⟩:=Xm (ds:=ds) (vs:=vs) (by simpa using hl) λj d v h1 h2=>h (j+1) d v h1 h2;rcases h 0 d v rfl rfl with⟨hp,x,rfl,hx⟩|⟨hp,rfl⟩
  ·refine⟨(x,d)::q,?_,?_,λr z=>?_⟩
   ·rw[yZ (by simp),e1];rfl
   ·rw[yZ (by simpa using hp),zf,e2]
   ·rcases zu.mp z with rfl|z
    ·exact hx
    ·exact e3 r z
  ·refine⟨q,?_,?_,e3⟩
   ·rw[yR (by simp),e1]
   ·rw[yR (by simp[hp]),e2]
noncomputable def kfH(H:Hp):V->Key
 |.ref b=>match H b with
  |some (.tup [.int n,_])=>Sum.inl n
  |_=>Sum.inl 0
 |_=>Sum.inl 0
noncomputable def vfH(H:Hp):V->V
 |.ref b=>match H b with
  |some (.tup [_,v])=>v
  |_=> .non
 |_=> .non
def agI{H:Hp}{b:Addr}{n:Int}{v:V}(h:H b=some (.tup [.int n,v])):kfH H (.ref b)=Sum.inl n:=by
 show(match H b with|some (.tup [.int n,_])=>Sum.inl n|_=>Sum.inl 0)=_;rw[h]
def agw{H:Hp}{b:Addr}{n:Int}{v:V}(h:H b=some (.tup [.int n,v])):vfH H (.ref b)=v:=by
 show(match H b with|some (.tup [_,v])=>v|_=> .non)=_;rw[h]
theorem Vx{H:Hp}:∀{ls:RL}{ys:List V}{pre:RL},ys.length=ls.length->(∀(i:Nat) y,ys[i]? =some y->∃b l,ls[i]? =some l/\y=.ref b/\H b=some (.tup [.int l.2.n,.ref l.1]))->((pre++ls).map λr=>r.2.n).Nodup->
  ys.foldl (λa y=>putK a (kfH H y) (vfH H y)) (kz (pre.map (·.2)) (jj pre))=kz ((pre++ls).map (·.2)) (jj (pre++ls))
 |[],[],pre,_,_,_=>by rw[yX];rfl
 |[],_::_,_,h,_,_=>by simp at h
 |_::_,[],_,h,_,_=>by simp at h
 |l::ls,y::ys,pre,hl,h,hu=>by
  obtain⟨b,l',e1,rfl,q⟩:=h 0 y rfl;cases e1;rw[zzl,agI q,agw q]
  have hn:l.2.n∉(pre.map (·.2)).map jh.n:=by
   rw[zp,zf]at hu;intro hm;rw[zr]at hm;exact(zzq.mp hu).2.2 _ hm _ zm rfl
  rw[aiZ (by rw[iQ,za]) hn];have e2:pre.map (·.2)++[l.2]=(pre++[l]).map (·.2):=by rw[zp];rfl
  have e3:jj pre++[V.ref l.1]=jj (pre++[l]):=by unfold jj;rw[zp];rfl
  have z:pre++l::ls=(pre++[l])++ls:=by simp
  rw[e2,e3,z];exact Vx (by simpa using hl) (λi y hy=>h (i+1) y hy) (z▸hu)
inductive xM(A:Adr)(vs:List V)(H:Hp)(Q:VK)(E:XK):Prop
 |mk (q pk:Addr) (ls:RL) (ps:PL) (_:vs=[.ref q,.ref pk]) (_:H q=some (.lst (jj ls))) (_:jU A H ls) (_:H pk=some (.lst (Jo ps))) (_:ajz H ps) (_:Ql (ls.map (·.2))) (_:ahU (ls.map (·.2)) (ps.map (·.2))) (_:∀t la lb l1 l2 H',Same H H'->H' t=some (.tup [.ref la,.ref lb])->H' la=some (.lst (jj l1))->H' lb=some (.lst (jj l2))->jU A H' l1->jU A H' l2->l1.map (·.2)=(ps.map (·.2)).map (Cg (ls.map (·.2)))->l2.map (·.2)=Oz (ps.map (·.2)) (ls.map (·.2))->H la=none->H lb=none->la≠lb->Q (.ref t) H'):xM A vs H Q E
def Jz(T:Txt K mg A D):jE P w K mg base CX0 4 A.aaj D.aaj ["lots", "picks"] (xM A):=by
 refine T.ack.F.okv kJ λ_ _ _ _ H vs Q E hr h=>?_
 ·obtain⟨q,pk,ls,ps,rfl,hq,hL,bc,hP,hR,hK,k⟩:=h
  refine ⟨_,(iu (iT (i:=2) kJ.nd rfl orl (lH (qy (K:=K) rfl) (by rfl) T.adc (by decide+kernel) (ig (jB (cap:=[none]) (N':=["lot"]) rfl (by walk_at "c") (jG (K:=K) (pv 0)) (λ_ _ _ _=>(iK (i:=0) nd1 rfl orl orr)) (λ_ _ _ _=>jA) (λ_ _ _ _=>(lY (ig (fv K 0) (pav 0 iy))))) iy)))
   (iu (iT (i:=3) kJ.nd rfl orl (jX iy))
   (iu (qC yB rfl (jG (K:=K) (pv 1)) (nu (K:=K) (n:=2) rfl (jl (iK (i:=4) kJ.nd rfl orl) (jl (iK (i:=5) kJ.nd rfl orl) nA)))
    (iu (iT (i:=6) kJ.nd rfl orl (Yp (nO hr) (pvD 2) (pvD 4) ⟨rfl,rfl,rfl,rfl⟩))
    (iu (jK (PW.pt (Fj (iR (Gd) (pvD 6) mJ (iY _)) (Bk (iR (Mi) (fv K 6) (pvD 5) (iY _))))) (iz (kY)) jd)
    (iu (iT (i:=7) kJ.nd rfl orl (jq (pv 6) (mc T.ad0 T.afu (Ob T) hr (QM T) .nil) jw (pav 5 iy)))
    (iu (jf (vD (K:=K) yt yy yz mH (pvD 3) (ig (jm (iW (K:=K)) (pvD 7) iB (λ_ _=>rfl)) iy)))
    (iz (xY (nO hr) (pvD 2) (pvD 4) (jm (iW (K:=K)) (pvD 7) iB (λ_ _=>rfl)) rfl)))))))
   (iz (iM (lY (pav 3 (ig (jB (cap:=[none]) (N':=["lot"]) rfl (by walk_at "c") (XD (HY (K:=K) yQ zzQ PySem.F.type_dict_values Np (pvD 2))) (λ_ _ _ _=>(iK (i:=0) nd1 rfl orl orr)) (λ_ _ _ _=>(Ah (iR (LK) (pvD 0) mJ (iY _)))) (λ_ _ _ _=>(pvD 0))) iy)))))))),?_⟩
  simp only[start_eq];walk_at "m";have bz:ls.length<=63:=by have:=hR.l;rwa [za]at this
  refine⟨⟨_,iH hq⟩,?_⟩;refine jZ.listE (K:=K) (λσ=>∃a,σ=[a]) (λi v H'=>∃b l,ls[i]? =some l/\v=.ref b/\H' b=some (.tup [.int l.2.n,.ref l.1])) (iH hq) ⟨_,rfl⟩ (by rw[iQ,zv];omega) ?_ ?_
  ·rintro Da i x hx σ H5 R ⟨_,rfl⟩ sm hD ⟨acc,hA⟩ kk
   obtain⟨l,be,rfl⟩:=jJ hx;obtain⟨dx,al⟩:=(hL l (get_mem be)).same sm;walk_at "i";exact rd al T.ad0 T.ad1 (by rfl) ⟨sz,λt ht=>kk (.ref t) _ _ ⟨_,rfl⟩ (iG ht) λH' hb=>⟨t,l,be,rfl,hb _ _ (λe=>by rw[e,hA]at ht;cases ht) iC⟩⟩
  ·intro Da H1 acc hD s1 hA ao hF
   rw[iQ]at ao;walk_at "i";obtain⟨ds,ab⟩:∃ds,ls.map (·.2)=ds:=⟨_,rfl⟩;obtain⟨ks,ai⟩:∃ks,ps.map (·.2)=ks:=⟨_,rfl⟩;rw[ab,ai]at hK;rw[ab]at hR;rw[ab,ai]at k;have br:ds.length=ls.length:=by rw[<-ab,za]
   refine⟨_,iH hA,by omega,kfH H1,vfH H1,λy hy=>?_,λpd bm=>?_⟩
   ·obtain⟨i,hi,e⟩:=yC hy
    obtain⟨b,l,_,h2,h3⟩:=hF i y (by rw[zg hi,e]);subst h2;exact⟨b,rfl,by rw[agI h3,agw h3];exact jt h3⟩
   have ez:Ln (kfH H1) (vfH H1) acc=kz ds (jj ls):=by
    rw[<-ab];refine Vx (pre:=[]) ao hF ?_;have:=hR.u;rw[<-ab,zr]at this;exact this
   rw[ez];have S2:=s1.trans (iG (o:=.dK (kz ds (jj ls))) bm);have ar:(upd H1 pd (.dK (kz ds (jj ls)))) pd=some (.dK (kz ds (jj ls))):=iC;have bi:=s1.free bm;generalize upd H1 pd _=H2 at S2 ar;walk_at "m";refine⟨sz,λpt am=>?_⟩;have S3:=S2.trans (iG (o:=.lst []) am);have bb:(upd H2 pt (.lst [])) pt=some (.lst []):=iC;have bp:=iG (o:=.lst []) am _ _ ar;have bd:=S2.free am;have au:pd≠pt:=jz ar am;generalize upd H2 pt _=H3 at S3 bb bp;rw[ap_seq,ap_for];walk_at "i";refine⟨⟨_,iH (S3 _ _ bc)⟩,?_⟩
   refine Jf.listN (K:=K) (a:=pk) (xs:=Jo ps) (λi σ Hx=>∃(vs:List V)(l1:RL)(w4 w5 w6 w7:Option V),σ=[some (.ref q),some (.ref pk),some (.ref pd),some (.ref pt),w4,w5,w6,w7]/\Same H Hx/\vs.length=ds.length/\Hx pd=some (.dK (kz ds vs))/\Hx pt=some (.lst (jj l1))/\jU A Hx l1/\
    l1.map (·.2)=(ks.take i).map (Cg ds)/\∀(j:Nat) d v,ds[j]? =some d->vs[j]? =some v->OkV A Hx (nD (ks.take i) d) v) ⟨jj ls,[],_,_,_,_,rfl,S3,by rw[iQ,br],bp,bb,λr h=>(zl h).elim,rfl,λj d v h1 h2=>?_⟩ (λi σ Hx _ ⟨_,_,_,_,_,_,_,s,_⟩=>s.seq (iH bc)) ?_ ?_
   ·obtain⟨l,e1,rfl⟩:=jJ h2
    have e2:ds[j]? =some l.2:=by rw[<-ab,zh,e1];rfl
    rw[h1]at e2;cases e2;refine .inl ⟨?_,l.1,rfl,(hL l (get_mem e1)).same S3⟩;have:=(hR.g l.2 (zq h1)).1;show 0<l.2.p;omega
   ·rintro i y σ H4 hy ⟨vs,l1,w4,w5,w6,w7,rfl,S4,ac,aa,ak,as,ae,af⟩ N hN
    obtain⟨r,bq,rfl⟩:=Yc hy;have aw:ks[i]? =some r.2:=by rw[<-ai,zh,bq];rfl
    obtain⟨d,hd,az,b0,b2⟩:=hK.h r.2 (zq aw);obtain⟨j,hj,ej⟩:=yC hd;have ag:ds[j]? =some d:=by rw[zg hj,ej]
    have ax:vs[j]? =some (vs[j]'(by omega)):=by simp
    have ap:d.n∉(ks.take i).map (·.1):=by rw[az];exact Rt hK.u aw
    have hg:=hR.g d hd;have bg:=af j d _ ag ax;rw[RX ap]at bg;have an:=Vw (v:=vs[j]'(by omega)) hR.u ag ax
    obtain ⟨x,ex,hx⟩:∃x,vs[j]'(by omega)=.ref x/\lO A H4 x d:=by
     rcases bg with⟨_,x,e,h⟩|⟨e,_⟩
     ·exact⟨x,e,h⟩
     ·omega
    rw[ex]at an;obtain⟨dx,al⟩:=id hx;have bk:=S4 _ _ (hP r (zq bq));rw[<-az]at bk;walk_at "i";refine⟨_,jt bk,rfl,_,_,rfl,_,_,rfl,rfl,?_⟩;walk_at "m";refine⟨.inl ⟨_,.inl aa⟩,_,Br (k:=Sum.inl d.n) aa,?_⟩;rw[an];simp only[Option.getD_some];walk_at "m";refine rd al T.ad0 T.ad3 (by rfl) ⟨_,rfl,?_⟩;rw[ze (by show¬(d.p<r.2.2);omega)];walk_at "m";refine md al zm (by rfl) ⟨x,d,r.2.2,rfl,hx,uG (by omega) (by omega),⟨by omega,?_⟩,λt y v' H5 s5 bo ad hY f1 f2=>?_⟩
    ·have:d.p.natAbs<2^40:=by omega
     exact yi this (zzp (by decide) (by decide))
    walk_at "m";have S5:=S4.trans s5;have aq:=s5 _ _ ak;have bt:=s5 _ _ aa;have bv:t≠pt:=λe=>by rw[e,ak]at bo;cases bo
    have bn:(upd H5 pt (.lst (jj l1++[V.ref y]))) pd=some (.dK (kz ds vs)):=(iJ au).trans bt;have ah:∀C dx fs,H5 pt≠some (.ins C dx fs):=λ_ _ _=>by rw[aq];simp
    have aj:∀C dx fs,(upd H5 pt (.lst (jj l1++[V.ref y]))) pd≠some (.ins C dx fs):=λ_ _ _=>by rw[bn];simp
    have er:r.2=(d.n,r.2.2):=by rw[az]
    have bh:ks.take (i+1)=ks.take i++[(d.n,r.2.2)]:=by rw[yk,aw,<-er];rfl
    have b1:l1.length<=63:=by
     have e1:=congrArg List.length ae;rw[za,za,yD]at e1
     have e2:ks.length<=ds.length:=by
      have:=Ov (l:=ks.map (·.1)) (k:=ds.map jh.n) hK.u λz hz=>by
       obtain⟨k0,bw,rfl⟩:=zi.mp hz;obtain⟨d0,bx,e0,_⟩:=hK.h k0 bw;exact zi.mpr ⟨d0,bx,e0⟩
      rwa [za,za]at this
     have:=hR.l;omega
    refine ⟨.inl ⟨rfl,_,iH aq⟩,_,jt ad,_,rfl,_,aq,by rw[iQ,zv];omega,_,jt ((iJ bv).trans ad),_,rfl,_,.inl ⟨_,Sum.inl d.n,bn,rfl,by rw[agC ac,zv];have:=hR.l;omega,by rw[ajp hR.u ag ax]⟩,
     hN _ _ ⟨vs.set j v',l1++[(y,Cg ds (d.n,r.2.2))],_,_,_,_,rfl,(S5.upd bd).upd bi,by rw[List.length_set,ac],iC,?_,λz hz=>?_,?_,λj' d' v0 h1 h2=>?_⟩⟩
    ·rw[iJ au.symm,iC];unfold jj;rw[zp];rfl
    ·rcases yg.mp hz with hz|hz
     ·exact(((as z hz).same s5).put ah).put aj
     ·obtain rfl:=zx.mp hz
      rw[some_at hR.u hd];exact(hY.put ah).put aj
    ·rw[zp,ae,bh,zp];rfl
    ·rw[bh]
     by_cases ay:j'=j
     ·subst ay
      rw[ag]at h1;cases h1;rw[zzY (by omega)]at h2;cases h2;rw[Tc ap];by_cases ew:r.2.2=d.p
      ·exact .inr ⟨by show d.p - r.2.2=0;omega,f1 ew⟩
      ·obtain⟨z,ez,hz⟩:=f2 ew
       exact .inl ⟨by show 0<d.p - r.2.2;omega,z,ez,(hz.put ah).put aj⟩
     ·rw[yye (λe=>ay e.symm)]at h2
      have bu:d'.n≠d.n:=λe=>ay (by
       have hl1':j'<(ds.map jh.n).length:=by rw[za];exact(zo.mp h1).1
       refine(zz1 hl1' hR.u).mp ?_;rw[zh,zh,h1,ag];show some d'.n=some d.n;rw[e])
      rw[Hh bu];exact(((af j' d' v0 h1 h2).same s5).put ah).put aj
   ·rintro σ H4 ⟨vs,l1,w4,w5,w6,w7,rfl,S4,ac,aa,ak,as,ae,af⟩
    rw[Pn,show ps.length=ks.length by rw[<-ai,za],yJ]at ae af;walk_at "i";refine⟨.inr (.inr (.inl ⟨rfl,.inl ⟨_,aa⟩⟩)),_,aa,λv hv=>⟨pd,iC,_,(iJ (jz aa hv)).trans aa,λo=>?_⟩⟩;have sv:=iG (o:=vh v pd) hv;have bs:=sv _ _ aa;have ni:∀C dx fs,(upd H4 v (vh v pd)) pd≠some (.ins C dx fs):=λ_ _ _=>by rw[bs];simp
    have S5:Same H (upd (upd H4 v (vh v pd)) pd (.frz o (.dK (kz ds vs)))):=(S4.trans sv).upd bi;have ad:(upd (upd H4 v (vh v pd)) pd (.frz o (.dK (kz ds vs)))) pt=some (.lst (jj l1)):=(iJ au.symm).trans (sv _ _ ak);have bl:jU A (upd (upd H4 v (vh v pd)) pd (.frz o (.dK (kz ds vs)))) l1:=λz hz=>((as z hz).same sv).put ni;have bj:(upd (upd H4 v (vh v pd)) pd (.frz o (.dK (kz ds vs)))) pd=some (.frz o (.dK (kz ds vs))):=iC
    have bf:∀(j:Nat) d v0,(ds.map (nD ks))[j]? =some d->vs[j]? =some v0->OkV A (upd (upd H4 v (vh v pd)) pd (.frz o (.dK (kz ds vs)))) d v0:=λj d v0 h1 h2=>by
     rw[zh]at h1
     cases e:ds[j]? with
     |none=>rw[e]at h1;cases h1
     |some d0=>
      rw[e]at h1;cases h1;exact((af j d0 v0 e h2).same sv).put ni
    generalize upd (upd H4 v (vh v pd)) pd (.frz o (.dK (kz ds vs)))=H5 at S5 ad bl bj bf;refine jZ.vals (λσ=>∃a,σ=[a]) (λv=>decide (v≠.non)) id bj ⟨_,rfl⟩ (by rw[agC ac,zv];have:=hR.l;omega) ?_ ?_
    ·rintro x hx σ H6 R1 R2 ⟨_,rfl⟩ sm k1 k2
     walk_at "i";by_cases e:x=.non
     ·rw[ze (by simp[e])]
      exact k2 (by simp[e]) _ _ ⟨_,rfl⟩ (same_refl _)
     ·rw[zn (by simp[e])]
      exact k1 (by simp[e]) _ _ ⟨_,rfl⟩ (same_refl _)
    ·intro Da H6 av s6 ba
     rw[Vv ac,List.map_id]at ba;obtain⟨l2,e1,e2,e3⟩:=Xm (A:=A) (H:=H5) (ds:=ds.map (nD ks)) (vs:=vs) (by rw[za,ac]) bf;rw[e1]at ba;refine⟨sz,λt ht=>?_⟩;have st:=iG (o:=.tup [V.ref pt,V.ref Da]) ht;have S6:=S5.trans (s6.trans st);exact k t pt Da l1 l2 _ S6 iC ((s6.trans st) _ _ ad) (st _ _ ba) (bl.same (s6.trans st)) (e3.same (s6.trans st)) ae e2 bd (S5.free av) (λe=>by rw[<-e,ad]at av;cases av)
def ajd{ds:List jh}(hu:(ds.map jh.n).Nodup){i j:Nat}{d e:jh}(h1:ds[i]? =some d)(h2:ds[j]? =some e)(q:i≠j):d.n≠e.n:=λz=>q (by
 have hl:i<(ds.map jh.n).length:=by rw[za];exact(zo.mp h1).1
 refine(zz1 hl hu).mp ?_;rw[zh,zh,h1,h2];show some d.n=some e.n;rw[z])
def Zo{ks:Pk}{n w:Int}(h:ks.lookup n=some w):(n,w)∈ks:=by
 induction ks with
 |nil=>cases h
 |cons k ks ih=>
  obtain⟨a,b⟩:=k;have h':(match n==a with|true=>some b|false=>ks.lookup n)=some w:=h;by_cases e:n=a
  ·have e':(n==a)=true:=by simpa using e
   rw[e']at h';cases h';rw[e];exact zm
  ·have e':(n==a)=false:=by simpa using e
   rw[e']at h';exact ya _ (ih h')
def aiq{ds:List jh}(hu:(ds.map jh.n).Nodup){d e:jh}(h1:d∈ds)(h2:e∈ds)(h:d.n=e.n):d=e:=by
 obtain⟨i,hi,ei⟩:=yC h1;obtain⟨j,hj,q⟩:=yC h2
 have:i=j:=by
  by_cases z:i=j
  ·exact z
  ·exact(ajd hu (by rw[zg hi,ei]) (by rw[zg hj,q]) z h).elim
 subst this;rw[<-ei,<-q]
def wM{ds:List jh}{ks:Pk}(q:Ql ds)(hK:ahU ds ks){d:jh}(hd:d∈ds):(nD ks d).n=d.n/\(0<=(nD ks d).p/\(nD ks d).p<=100000000000)/\(¬0<(nD ks d).p->(nD ks d).p=0/\(nD ks d).c=0):=by
 have hg:=q.g d hd;unfold nD
 cases e:ks.lookup d.n with
 |none=>exact⟨rfl,⟨by show 0<=d.p;omega,hg.2⟩,λh=>absurd (show 0<d.p by omega) h⟩
 |some w=>
  obtain⟨d',h1,h2,z,h4⟩:=hK.h _ (Zo e);obtain rfl:=aiq q.u h1 hd h2;have h4:w<=d'.p:=h4;have z:1<=w:=z;refine⟨rfl,⟨by show 0<=d'.p - w;omega,by show d'.p - w<=_;omega⟩,λh=>?_⟩;have h:¬0<d'.p - w:=h;have ew:w=d'.p:=by omega
  refine⟨by show d'.p - w=0;omega,?_⟩;show d'.c - d'.c*w/d'.p=0;rw[ew,yyj _ (by omega)];omega
theorem sJ{f g:jh->Int}:∀{ds:List jh}{d0:jh},(ds.map jh.n).Nodup->d0∈ds->(∀d∈ds,d.n≠d0.n->f d=g d)->(ds.map f).sum=(ds.map g).sum - g d0+f d0
 |[],_,_,h,_=>by cases h
 |d::ds,d0,hu,h,hf=>by
  rw[zf,yq]at hu;rw[zf,zf,yn,yn];rcases zu.mp h with rfl|h
  ·have:ds.map f=ds.map g:=yH λe q=>hf e (ya _ q) λz=>hu.1 (by rw[<-z];exact zi.mpr ⟨e,q,rfl⟩)
   rw[this];omega
  ·have h1:=sJ hu.2 h λe q=>hf e (ya _ q)
   have h2:=hf d zm λz=>hu.1 (by rw[z];exact zi.mpr ⟨d0,h,rfl⟩);rw[h1,h2];omega
theorem Mq{ds:List jh}{ks:Pk}(hR:Ql ds)(hK:ahU ds ks):∀i:Nat,i<=ks.length->
  (((ks.take i).map (Cg ds)).map jh.p).sum+((ds.map (nD (ks.take i))).map jh.p).sum=(ds.map jh.p).sum/\(((ks.take i).map (Cg ds)).map jh.c).sum+((ds.map (nD (ks.take i))).map jh.c).sum=(ds.map jh.c).sum
 |0,_=>by
  have e:ds.map (nD [])=ds:=(yH λd _=>rfl).trans (List.map_id _);rw[List.take_zero,e];exact⟨by simp,by simp⟩
 |i+1,hi=>by
  obtain⟨h1,h2⟩:=Mq hR hK i (by omega);have z:ks[i]? =some ks[i]:=by simp
  obtain⟨d,hd,aa,hw⟩:=hK.h ks[i] (zzi _);have q:d.n∉(ks.take i).map (·.1):=by rw[aa];exact Rt hK.u z
  have er:ks[i]=(d.n,ks[i].2):=by rw[aa]
  generalize ks[i].2=w at er hw;have ab:ks.take (i+1)=ks.take i++[(d.n,w)]:=by rw[yk,z,er];rfl
  have c1:=sJ (f:=λe=>(nD (ks.take i++[(d.n,w)]) e).p) (g:=λe=>(nD (ks.take i) e).p) hR.u hd λe _ he=>by rw[Hh he]
  have c2:=sJ (f:=λe=>(nD (ks.take i++[(d.n,w)]) e).c) (g:=λe=>(nD (ks.take i) e).c) hR.u hd λe _ he=>by rw[Hh he]
  simp only[Tc q,RX q]at c1 c2;have es:=some_at (w:=w) hR.u hd;rw[ab];simp only[zr,zp,zzm,zf,zzx,yn,List.sum_nil,Function.comp_def,es]at h1 h2 c1 c2⊢;rw[c1,c2];omega
theorem Qz{f:jh->Int}:∀{l:List jh},(∀d∈l,¬0<d.p->f d=0)->((l.filter λd=>decide (0<d.p)).map f).sum=(l.map f).sum
 |[],_=>rfl
 |d::l,h=>by
  have q:=Qz (l:=l) λe z=>h e (ya _ z);by_cases e:0<d.p
  ·rw[yZ (by simpa using e),zf,zf,yn,yn,q]
  ·rw[yR (by simpa using e),zf,yn,q,h d zm e]
   omega
def Rq{ds:List jh}{ks:Pk}(hR:Ql ds)(hK:ahU ds ks):((ks.map (Cg ds)).map jh.p).sum+((Oz ks ds).map jh.p).sum=(ds.map jh.p).sum/\((ks.map (Cg ds)).map jh.c).sum+((Oz ks ds).map jh.c).sum=(ds.map jh.c).sum:=by
 have h:=Mq hR hK ks.length (zj _);rw[yJ]at h
 have hz:∀e∈ds.map (nD ks),¬0<e.p->e.p=0/\e.c=0:=λe q=>by
  obtain⟨d,hd,rfl⟩:=zi.mp q;exact(wM hR hK hd).2.2
 unfold Oz;rw[Qz (f:=jh.p) λe q z=>(hz e q z).1,Qz (f:=jh.c) λe q z=>(hz e q z).2];exact h
def ahA{ds:List jh}{ks:Pk}(q:Ql ds)(hK:ahU ds ks):Ql (Oz ks ds):=by
 have e:(ds.map (nD ks)).map jh.n=ds.map jh.n:=by
  rw[zr];exact yH λd hd=>(wM q hK hd).1
 refine⟨?_,λz hz=>?_,?_⟩
 ·refine yyq ?_ q.u
  rw[<-e];exact List.Sublist.map _ List.filter_sublist
 ·obtain⟨h1,h2⟩:=zzf.mp hz
  obtain⟨d,hd,rfl⟩:=zi.mp h1;have hs:=wM q hK hd;have h2:0<(nD ks d).p:=by simpa using h2
  exact⟨by omega,hs.2.1.2⟩
 ·have:=yV (λd:jh=>decide (0<d.p)) (ds.map (nD ks))
  rw[za]at this;have:=q.l;unfold Oz;omega
def ZW{ns:List Int}{ls:RL}(h:Shp ns ls)(hn:ns.length<=63)(z:pcs ls<=1000000000):Ql (ls.map (·.2)):=by
 refine⟨by rw[zr];exact h.u,λd hd=>?_,by rw[za];exact yw h.len hn⟩;obtain⟨l,q,rfl⟩:=zi.mp hd;have h1:=h.p l q;have h2:=QQ h.p q;exact⟨h1,by omega⟩
def aje{ls:RL}{ks:Pk}{w:Int}(h:PkS ls ks w):ahU (ls.map (·.2)) ks:=⟨h.u,λk q=>let⟨l,a,b⟩:=h.h k q;⟨l.2,zi.mpr ⟨l,a,rfl⟩,b⟩⟩
def UT{ns:List Int}{ls l1 l2:RL}{ks:Pk}{w:Int}(h:Shp ns ls)(hn:ns.length<=63)(hp:pcs ls<=1000000000)(hk:PkS ls ks w)(e1:l1.map (·.2)=ks.map (Cg (ls.map (·.2))))(e2:l2.map (·.2)=Oz ks (ls.map (·.2))):
  l1.map Tq=ks/\Shp ns l2/\pcs l2=pcs ls - w/\mz l1+mz l2=mz ls:=by
 have hR:=ZW h hn hp;have hK:=aje hk
 have hs:∀k∈ks,(Cg (ls.map (·.2)) k).n=k.1/\(Cg (ls.map (·.2)) k).p=k.2:=λk aa=>by
  obtain⟨d,hd,e,_⟩:=hK.h k aa;have:=some_at (w:=k.2) hR.u hd;rw[e]at this;rw[this];exact⟨rfl,rfl⟩
 have ac:l1.map Tq=ks:=by
  have:l1.map Tq=(l1.map (·.2)).map λd=>(d.n,d.p):=by rw[zr];rfl
  rw[this,e1,zr]
  exact FQ λk aa=>by
   show((Cg _ k).n,(Cg _ k).p)=k;rw[(hs k aa).1,(hs k aa).2]
 have ab:=(Rq hR hK).1;have z:=(Rq hR hK).2;rw[<-e1,<-e2]at ab z;rw[<-nG,<-nG,<-nG]at z
 have f1:((l1.map (·.2)).map jh.p).sum=w:=by
  have:(l1.map (·.2)).map jh.p=ks.map (·.2):=by
   rw[<-ac,zr,zr];rfl
  rw[this,hk.s]
 have f2:∀ms:RL,((ms.map (·.2)).map jh.p).sum=pcs ms:=λms=>by unfold pcs;rw[zr];rfl
 rw[f1,f2,f2]at ab;have hok:=ahA hR hK;rw[<-e2]at hok;refine⟨ac,⟨?_,λl hl=>(hok.g l.2 (zi.mpr ⟨l,hl,rfl⟩)).1,λl hl=>?_⟩,by omega,z⟩
 ·have:=hok.u
  rwa [zr]at this
 ·have h1:l.2∈Oz ks (ls.map (·.2)):=e2▸zi.mpr ⟨l,hl,rfl⟩
  obtain⟨h2,_⟩:=zzf.mp h1;obtain⟨d,hd,e⟩:=zi.mp h2;obtain⟨q,hq,rfl⟩:=zi.mp hd;rw[<-e,(wM hR hK hd).1];exact h.m q hq
inductive RT(A:Adr):Addr->Prop
 |e:RT A A.abg
 |n:RT A A.abh
 |d:RT A A.abi
 |m:RT A A.abf
def aiD{C:Addr}(q:RT A C):(C,Nt A)∈[(A.abg,Nt A),(A.abh,Nt A),(A.abi,Nt A),(A.abf,Nt A)]:=by cases q<;>simp
def YJ{C:Addr}(q:RT A C):(C,BR A)∈[(A.abg,BR A),(A.abh,BR A),(A.abi,BR A),(A.abf,BR A)]:=by cases q<;>simp
inductive DR(A:Adr)(vs:List V)(H:Hp)(Q:VK)(E:XK):Prop
 |mk (x C dx q:Addr) (ns:List Int) (ls:RL) (w:Int) (_:vs=[.ref x,.ref q,.int w,.non]) (_:H x=some (.ins C dx [])) (_:RT A C) (_:H q=some (.lst (jj ls))) (_:jU A H ls) (_:Shp ns ls) (_:ns.length<=63) (_:pcs ls<=1000000000) (_:1<=w) (_:w<=pcs ls) (_:∀t la lb l1 l2 H',Same H H'->H' t=some (.tup [.ref la,.ref lb])->H' la=some (.lst (jj l1))->H' lb=some (.lst (jj l2))->jU A H' l1->jU A H' l2->Shp ns l1->pcs l1=w->l1≠[]->Shp ns l2->pcs l2=pcs ls - w->mz l1+mz l2=mz ls->H la=none->H lb=none->la≠lb->Q (.ref t) H'):DR A vs H Q E
def Mg(T:Txt K mg A D):jE P w K mg base CX0 5 A.aaq D.aaq ["way", "lots", "pieces", "named"] (DR A):=by
 refine T.acr.F.okv vB λ_ _ _ _ H vs Q E hr h=>?_
 ·obtain⟨x,C,dx,q,ns,ls,w,rfl,hx,hC,hq,hL,hS,hn,hp,h0,h1,k⟩:=h
  refine ⟨_,(iu (iT (i:=4) vB.nd rfl orl (jq (pv 0) (mc T.aen T.afw (pO T) hr (qW T) (mc T.aeo T.afx (pO T) hr (qW T) (mc T.aep T.afy (pO T) hr (qW T) (mc T.aem T.afz (Fp T) hr (Gh T) .nil)))) jw (pav 1 iy)))
   (iu (iT (i:=5) vB.nd rfl orl (Ci (iR (Gd) (pvD 3) mJ (iY _)) (jq (pv 0) (mc T.aen T.afA (vo T) hr (xx T) (mc T.aeo T.afB (GK T) hr (Jp T) (mc T.aep T.afC (Ez T) hr (GD T) (mc T.aem T.afD (vo T) hr (xx T) .nil)))) jw (pav 4 (pav 2 iy))) (pvD 3)))
   (iz (iM (pcg (Jz T) hr T.ack (Lq T) (pav 4 (pav 5 iy))))))),?_⟩
  have ab:ls.length<=100:=by have:=hS.len;omega
  simp only[start_eq];walk_at "n";refine⟨C,dx,_,hx,_,aiD hC,by rfl,x,q,ls,rfl,hq,hL,ab,hS.p,by omega,λl ms H1 s1 hl h2 ae ac aj=>?_⟩;have aa:=ac.shp hS;have ak:=ac.pcs;walk_at "n";refine⟨C,dx,_,s1 _ _ hx,_,YJ hC,by rfl,x,l,ms,w,rfl,h2,ae,by rw[ac.len];exact ab,aa.u,λq hq=>⟨aa.p q hq,by have:=QQ aa.p hq;omega⟩,by omega,by omega,λpk ps H2 s2 al h3 hP hK=>?_⟩
  try dsimp only
  rw[ap_ret];walk_at "i";refine⟨l,pk,ms,ps,rfl,s2 _ _ h2,ae.same s2,h3,hP,ZW aa hn (by omega),aje hK,λt la lb l1 l2 H3 s3 ht g1 g2 g3 g4 e1 e2 f1 f2 f3=>?_⟩;obtain⟨k1,k2,k3,k4⟩:=UT aa hn (by omega) hK e1 e2;have S2:=s1.trans s2;have af:l1.map (·.2.n)=(ps.map (·.2)).map (·.1):=by rw[<-k1,zr];rfl
  have ag:l1.map (·.2.p)=(ps.map (·.2)).map (·.2):=by rw[<-k1,zr];rfl
  have ad:pcs l1=w:=by unfold pcs;rw[ag];exact hK.s
  have ah:Shp ns l1:=by
   refine⟨by rw[af];exact hK.u,λr hr=>?_,λr hr=>?_⟩
   ·have:Tq r∈ps.map (·.2):=k1▸zi.mpr ⟨r,hr,rfl⟩
    obtain⟨q,_,_,a,_⟩:=hK.h _ this;exact a
   ·have:Tq r∈ps.map (·.2):=k1▸zi.mpr ⟨r,hr,rfl⟩
    obtain⟨q,ai,e,_⟩:=hK.h _ this;have e:q.2.n=r.2.n:=e;exact e▸aa.m q ai
  refine k t la lb l1 l2 H3 (S2.trans s3) ht g1 g2 g3 g4 ah ad (λz=>?_) k2 (by omega) (k4.trans aj) (S2.free f1) (S2.free f2) f3;rw[z]at ad;have:pcs []=0:=rfl;omega
inductive uF(A:Adr)(vs:List V)(H:Hp)(Q:VK)(E:XK):Prop
 |mk (x:Addr) (d:jh) (p c:Int) (_:vs=[.ref x,.int p,.int c]) (_:lO A H x d) (_:∀y H',Same H H'->H y=none->lO A H' y ⟨d.n,d.s,d.p+p,d.c+c⟩->Q (.ref y) H'):uF A vs H Q E
def uN(T:Txt K mg A D):jE P w K mg base CX0 3 A.zW D.zW ["self", "pieces", "cost"] (uF A):=by
 refine T.abY.ok Ey (by walk_at "v") (λ_ _ _ s H vs Q E hr h=>?_)
 ·obtain⟨x,⟨n,s,p,c⟩,p',c',rfl,⟨dx,q⟩,k⟩:=h
  refine⟨_,(iz (iM (lD T.ae6 (jH (K:=K) T) (hr.mono (by decide)) (by rfl) T.adv (jM T) .nil jw (ig (fv K 0) (ig (fv K 0) (ig (iZ jD (fv K 0) (pvD 1)) (ig (iZ jD (fv K 0) (pvD 2)) iy))))))),?_⟩;walk_at "a";refine rd q T.ad0 T.ad1 (by rfl) (?_);refine rd q T.ad0 T.ad2 (by rfl) (?_);refine rd q T.ad0 T.ad3 (by rfl) (?_);refine⟨_,rfl,rd q T.ad0 T.ad4 (by rfl) ⟨_,rfl,λy dy hy z _=>?_⟩⟩;exact pB ⟨n,s,p+p',c+c'⟩ hy z λH' sm hL=>k y H' sm hy hL
noncomputable def toI:V->Int
 |.int i=>i
 |_=>0
inductive wk(A:Adr)(vs:List V)(H:Hp)(Q:VK)(E:XK):Prop
 |mk (x:Addr) (d:jh) (_:vs=[.ref x]) (_:lO A H x d) (_:∀t,H t=none->Q (.ref t) (upd H t (.tup [.int d.s,.int d.n]))):wk A vs H Q E
def Gm(T:Txt K mg A D):jE P w K mg base CX0 1 A.zU D.zU ["lot"] (wk A):=by
 refine T.abW.F.okv Gf λ_ _ _ _ H vs Q E hr h=>?_
 ·obtain⟨x,d,rfl,⟨dx,q⟩,k⟩:=h
  refine⟨_,(iz (iM (lY (ig (fv K 0) (ig (fv K 0) iy))))),?_⟩;walk_at "a";refine rd q T.ad0 T.ad2 (by rfl) (rd q T.ad0 T.ad1 (by rfl) (?_));exact⟨sz,λt z=>k t z⟩
def Xl{ls:RL}{f:Addr×jh->Bool}{acc:List V}(z:acc.length=ls.length)(h:∀(i:Nat) v,acc[i]? =some v->∃l,ls[i]? =some l/\v=.bl (f l)):acc=(ls.map f).map V.bl:=by
 refine zzO (by simp[z]) λi h1 h2=>?_;obtain⟨l,q,e2⟩:=h i acc[i] (by simp);rw[e2];have h3:i<ls.length:=by omega
 have:ls[i]=l:=by
  rw[zg h3]at q;exact zw q
 simp[this]
noncomputable def pG(d e:jh):jh:=if e.n=d.n then⟨e.n,e.s,e.p+d.p,e.c+d.c⟩else e
noncomputable def kfL(H:Hp):V->List Int
 |.ref b=>match H b with
  |some (.ins _ _ fs)=>[toI ((fs.lookup ("since" :Str)).getD .non),toI ((fs.lookup ("number" :Str)).getD .non)]
  |_=>[]
 |_=>[]
def agG{H:Hp}{b:Addr}{d:jh}(h:lO A H b d):kfL H (.ref b)=[d.s,d.n]:=by
 obtain⟨dx,e⟩:=h;unfold kfL
 try dsimp only
 rw[e];rfl
inductive GP(A:Adr)(vs:List V)(H:Hp)(Q:VK)(E:XK):Prop
 |mk (q x:Addr) (ls:RL) (d:jh) (_:vs=[.ref q,.ref x]) (_:H q=some (.lst (jj ls))) (_:jU A H ls) (_:lO A H x d) (_:ls.length<=61) (_:(ls.map (·.2.n)).Nodup) (_:∀l ls' H',Same H H'->H l=none->H' l=some (.lst (jj ls'))->jU A H' ls'->(d.n∈ls.map (·.2.n)->ls'.map (·.2)=(ls.map (·.2)).map (pG d))->(d.n∉ls.map (·.2.n)->(ls'.map (·.2)).Perm (ls.map (·.2)++[d]))->Q (.ref l) H'):GP A vs H Q E
def QH(T:Txt K mg A D):jE P w K mg base CX0 4 A.zX D.zX ["lots", "lot"] (GP A):=by
 refine T.abZ.F.okv PQ λ_ _ _ _ H vs Q E hr h=>?_
 ·obtain⟨q,x,ls,d,rfl,hq,hL,⟨dx,hx⟩,hl,hu,k⟩:=h
  refine ⟨_,(iu (jK (oF (jc (Mp (K:=K) rfl) (by rfl) T.adj (by decide+kernel) (ig (jB (cap:=[none,some 1]) (N':=["one", "lot"]) rfl (by walk_at "c") (jG (K:=K) (pv 0)) (λ_ _ _ _=>(iK (i:=0) (show(["one", "lot"]:List Str).Nodup from by decide+kernel) rfl orl orr)) (λ_ _ _ _=>jA) (λ_ _ _ _=>(rO (lu) (fv K 0) (fv K 1) (iY _)))) iy))) (iz (iM (jB (cap:=[none,some 1]) (N':=["one", "lot"]) rfl (by walk_at "c") (jG (K:=K) (pv 0)) (λ_ _ _ _=>(iK (i:=0) (show(["one", "lot"]:List Str).Nodup from by decide+kernel) rfl orl orr)) (λ_ _ _ _=>jA) (λ_ _ _ _=>(Ci (iR (lu) (fv K 0) (fv K 1) (iY _)) (jq (pv 0) (mc T.ad0 T.afj (uN T) hr (wg T) .nil) jw (ig (fv K 1) (ig (fv K 1) iy))) (pvD 0)))))) jd)
   (iz (iM (Ik (K:=K) (by rfl) (Ke (Gm (K:=K) T) (hr.mono (by decide)) (JK T) (by rfl) T.adg (by decide+kernel) (by rfl) T.abW.m (ig (iZ VL (pvD 0) (jX (pav 1 iy))) iy)))))),?_⟩
  simp only[start_eq];walk_at "m";have as:lO A H x d:=⟨dx,hx⟩;refine⟨⟨_,iH hq⟩,?_⟩;refine jZ.listE (K:=K) (λσ=>∃a,σ=[a,some (.ref x)]) (λi v _=>∃l,ls[i]? =some l/\v=.bl (decide (l.2.n=d.n))) (iH hq) ⟨_,rfl⟩ (by rw[iQ,zv];omega) ?_ ?_
  ·rintro Da i y hy σ H5 R ⟨_,rfl⟩ sm hD _ kk
   obtain⟨l,ab,rfl⟩:=jJ hy;obtain⟨dy,aa⟩:=(hL l (get_mem ab)).same sm;walk_at "i";refine rd aa T.ad0 T.ad1 (by rfl) (rd (sm _ _ hx) T.ad0 T.ad1 (by rfl) (?_));exact⟨rfl,kk _ _ H5 ⟨_,rfl⟩ (same_refl _) λH' _=>⟨l,ab,by simp⟩⟩
  ·intro Da H1 acc hD sm hA al hF
   have aj:acc=(ls.map λl=>decide (l.2.n=d.n)).map V.bl:=Xl (by rw[al,iQ]) hF;rw[aj]at hA;walk_at "i";refine⟨_,iH hA,?_⟩;have ax:=hL.same sm;have ay:=sm _ _ hx;have af:=sm _ _ hq;by_cases hm:d.n∈ls.map (·.2.n)
   ·obtain⟨l0,ag,e0⟩:=zi.mp hm
    rw[zn (yY.mpr ⟨true,zi.mpr ⟨l0,ag,yf e0⟩,rfl⟩)];refine⟨⟨_,iH af⟩,?_⟩;refine jZ.listE (K:=K) (λσ=>∃a,σ=[a,some (.ref x)]) (λi v H'=>∃b l,ls[i]? =some l/\v=.ref b/\lO A H' b (pG d l.2)) (iH af) ⟨_,rfl⟩ (by rw[iQ,zv];omega) ?_ ?_
    ·rintro Db i y hy σ H5 R ⟨_,rfl⟩ ak ap ⟨ahW,an⟩ kk
     obtain⟨l,ab,rfl⟩:=jJ hy;obtain⟨dy,aa⟩:=(ax l (get_mem ab)).same ak;have ae:=ak _ _ ay;walk_at "i";refine rd aa T.ad0 T.ad1 (by rfl) (rd ae T.ad0 T.ad1 (by rfl) ⟨rfl,?_⟩);by_cases e:l.2.n=d.n
     ·rw[zn (by simp[e])]
      refine md aa zm (by rfl) (rd ae T.ad0 T.ad3 (by rfl) (rd ae T.ad0 T.ad4 (by rfl) ⟨l.1,l.2,d.p,d.c,rfl,⟨dy,aa⟩,λz H6 s6 hz hZ=>kk (.ref z) _ H6 ⟨_,rfl⟩ s6 λH' hb=>⟨z,l,ab,rfl,?_⟩⟩));unfold pG;rw[zn e];exact hZ.but (λe=>by rw[e,an]at hz;cases hz) hb
     ·rw[ze (by simp[e])]
      refine kk (.ref l.1) _ H5 ⟨_,rfl⟩ (same_refl _) λH' hb=>⟨l.1,l,ab,rfl,?_⟩;unfold pG;rw[ze e];exact lO.but ⟨dy,aa⟩ (λe=>by rw[e,an]at aa;cases aa) hb
    ·intro Db H4 am ap av aw ac aq
     rw[iQ]at ac
     obtain ⟨ar,q1,q2,q3⟩:=QS (λ_ H r=>lO A H r.1 r.2) (H:=H4) (acc:=am) (ds:=(ls.map (·.2)).map (pG d)) (by rw[ac,za,za]) λi v hv=>by
      obtain⟨b,l,h1,h2,h3⟩:=aq i v hv;exact⟨b,_,by rw[zh,zh,h1];rfl,h2,h3⟩
     exact k Db ar H4 (sm.trans av) (sm.free ap) (q1▸aw) q3 (λ_=>q2) λh=>(h hm).elim
   ·rw[ze (λh=>hm ?_)]
    ·obtain⟨os,ad⟩:∃os:RL,os=ls++[(x,d)]:=⟨_,rfl⟩
     have ao:jj ls++[V.ref x]=jj os:=by rw[ad];unfold jj;rw[zp];rfl
     refine⟨sz,λp hp=>⟨_,iG hp _ _ af,_,iC,by rw[iQ,zv];show ls.length+1<=_;omega,λp1 az=>?_⟩⟩;rw[ao];have s2:=sm.trans ((iG (o:=.lst [V.ref x]) hp).trans (iG (o:=.lst (jj os)) az));have h2:(upd (upd H1 p (.lst [V.ref x])) p1 (.lst (jj os))) p1=some (.lst (jj os)):=iC;generalize upd (upd H1 p (.lst [V.ref x])) p1 (.lst (jj os))=H2 at s2 h2
     have hO:jU A H2 os:=λo ho=>by
      rw[ad]at ho;rcases yg.mp ho with ho|ho
      ·exact(hL o ho).same s2
      ·obtain rfl:=zx.mp ho
       exact as.same s2
     have bb:os.length<=62:=by rw[ad,yd,zza];omega
     refine⟨_,iH h2,by rw[iQ];omega,kfL H2,λy hy=>?_,λp2 zs H3 s3 hn hz ah ba=>?_⟩
     ·obtain⟨o,ho,rfl⟩:=zi.mp hy
      rw[agG (hO o ho)];refine⟨by simp,λH5 s5 R hR=>⟨o.1,o.2,rfl,(hO o ho).same s5,λt ht=>hR t _ (iG ht) ?_⟩⟩;rw[agG (hO o ho)];exact iC
     ·obtain⟨au,rfl,ai⟩:=CV (f:=λr:Addr×jh=>V.ref r.1) ah rfl
      refine k p2 au H3 (s2.trans s3) (s2.free hn) hz (λr hr=>(hO r (ai.mem_iff.mp hr)).same s3) (λh=>(hm h).elim) λ_=>?_;have:=ai.map (·.2);rw[ad,zp]at this;exact this
    ·obtain⟨b,hb,eb⟩:=yY.mp h
     obtain⟨l0,ag,e0⟩:=zi.mp hb;have eb:b=true:=eb;rw[eb]at e0;exact zi.mpr ⟨l0,ag,yK e0⟩
def Ur{ns:List Int}{ls ms:RL}{d:jh}(h:Shp ns ls)(hd:1<=d.p)(hn:d.n∈ns)(e1:d.n∈ls.map (·.2.n)->ms.map (·.2)=(ls.map (·.2)).map (pG d))(e2:d.n∉ls.map (·.2.n)->(ms.map (·.2)).Perm (ls.map (·.2)++[d])):Shp ns ms/\pcs ms=pcs ls+d.p:=by
 have fn:∀l:RL,l.map (·.2.n)=(l.map (·.2)).map jh.n:=λl=>by rw[zr];rfl
 have fp:∀l:RL,pcs l=((l.map (·.2)).map jh.p).sum:=λl=>by unfold pcs;rw[zr];rfl
 by_cases hm:d.n∈ls.map (·.2.n)
 ·have e:=e1 hm
  have ab:ms.map (·.2.n)=ls.map (·.2.n):=by
   rw[fn,fn,e,zr];exact yH λx _=>by show(pG d x).n=x.n;unfold pG;split<;>rfl
  refine⟨⟨by rw[ab];exact h.u,λl hl=>?_,λl hl=>?_⟩,?_⟩
  ·have:l.2∈(ls.map (·.2)).map (pG d):=e▸zi.mpr ⟨l,hl,rfl⟩
   obtain⟨x,hx,e'⟩:=zi.mp this;obtain⟨q,hq,rfl⟩:=zi.mp hx;have:=h.p q hq;rw[<-e'];unfold pG;split
   ·show 1<=q.2.p+d.p;omega
   ·exact this
  ·have:l.2.n∈ms.map (·.2.n):=zi.mpr ⟨l,hl,rfl⟩
   rw[ab]at this;obtain⟨q,hq,e'⟩:=zi.mp this;exact e'▸h.m q hq
  ·rw[fp,fp,e]
   obtain⟨q,hq,eq⟩:=zi.mp hm;have hu:=h.u;rw[fn]at hu
   have c:=sJ (f:=λx=>(pG d x).p) (g:=jh.p) hu (zi.mpr ⟨q,hq,rfl⟩) λx _ ac=>by
    show(pG d x).p=x.p;unfold pG;rw[ze (λz=>ac (z.trans eq.symm))]
   rw[zr];show((ls.map (·.2)).map λx=>(pG d x).p).sum=_;rw[c];show _ - q.2.p+(pG d q.2).p=_;unfold pG;rw[zn eq];show _ - q.2.p+(q.2.p+d.p)=_;omega
 ·have e:=e2 hm
  have aa:=e.map jh.n;rw[zp,<-fn,<-fn]at aa;refine⟨⟨aa.nodup_iff.mpr (zzq.mpr ⟨h.u,yq.mpr ⟨zl,.nil⟩,λa ha b hb=>?_⟩),λl hl=>?_,λl hl=>?_⟩,?_⟩
  ·have:b=d.n:=zx.mp hb
   rw[this];exact λz=>hm (z▸ha)
  ·rcases yg.mp (e.mem_iff.mp (zi.mpr ⟨l,hl,rfl⟩))with g|g
   ·obtain⟨q,hq,e'⟩:=zi.mp g
    exact e'▸h.p q hq
   ·rw[zx.mp g];exact hd
  ·rcases yg.mp (e.mem_iff.mp (zi.mpr ⟨l,hl,rfl⟩))with g|g
   ·obtain⟨q,hq,e'⟩:=zi.mp g
    exact e'▸h.m q hq
   ·rw[zx.mp g];exact hn
  ·rw[fp,fp,La (e.map jh.p),zp,zzm]
   simp
noncomputable def Vc(m o:Int)(ps:List Int)(i:Nat):Int:=(ps.take (i+1)).sum*m/o - (ps.take i).sum*m/o
noncomputable def Vm(m o:Int)(ps:List Int):List Int:=(List.range ps.length).map (Vc m o ps)
def RZ(m o:Int)(ps:List Int):(Vm m o ps).length=ps.length:=by unfold Vm;simp
def RK{m o:Int}{ps:List Int}{i:Nat}(h:i<ps.length):(Vm m o ps)[i]? =some (Vc m o ps i):=by
 unfold Vm;rw[zh,List.getElem?_range h];rfl
def Wv{m o:Int}{ps:List Int}{i:Nat}(h:i<ps.length):(Vm m o ps).take (i+1)=(Vm m o ps).take i++[Vc m o ps i]:=by
 rw[yk,RK h];rfl
def Rx{ps:List Int}{i:Nat}{p:Int}(h:ps[i]? =some p):(ps.take (i+1)).sum=(ps.take i).sum+p:=by
 rw[yk,h];simp
structure Mo(m o:Int):Prop where
 a:1<=m/\m<=10000000
 b:1<=o/\o<=10000000
def Mo.mul{m o x:Int}(h:Mo m o):xg x m:=uG (by have:=h.a;omega) (by have:=h.a;omega)
def Mo.div{m o x:Int}(h:Mo m o):Lz x o:=⟨by have:=h.b;omega,zzc (show o.natAbs<=10000000 by have:=h.b;omega) (yi (show 10000000<2^24 by decide) (zzp (by decide) (by decide)))⟩
noncomputable def stp(st:List jh×Int)(d:jh)(c:Int):List jh×Int:=if c=0 then(st.1,st.2+d.c)else(st.1++[⟨d.n,d.s,c,d.c+st.2⟩],0)
noncomputable def stI(m o:Int)(ds:List jh):Nat->List jh×Int
 |0=>([],0)
 |i+1=>match ds[i]? with
  |some d=>stp (stI m o ds i) d (Vc m o (ds.map jh.p) i)
  |none=>stI m o ds i
def KQ{m o:Int}{ds:List jh}{i:Nat}{d:jh}(h:ds[i]? =some d):stI m o ds (i+1)=stp (stI m o ds i) d (Vc m o (ds.map jh.p) i):=by
 rw[stI,h]
noncomputable def agi(st:List jh×Int):List jh:=match st.1.getLast? with
 |some d=>st.1.dropLast++[⟨d.n,d.s,d.p,d.c+st.2⟩]
 |none=>[]
def Ja(r:List jh)(d:jh)(g:Int):agi (r++[d],g)=r++[⟨d.n,d.s,d.p,d.c+g⟩]:=by
 unfold agi;simp
inductive wA(A:Adr)(vs:List V)(H:Hp)(Q:VK)(E:XK):Prop
 |mk (q:Addr) (ls:RL) (m o:Int) (_:vs=[.ref q,.int m,.int o]) (_:H q=some (.lst (jj ls))) (_:jU A H ls) (_:ls.length<=100) (_:Mo m o) (_:∀p H',Same H H'->H p=none->H' p=some (.lst ((Vm m o (ls.map λl=>l.2.p)).map V.int))->Q (.ref p) H'):wA A vs H Q E
def Ie(T:Txt K mg A D):jE P w K mg base CX0 1 A.aat D.aat ["lots", "many", "of"] (wA A):=by
 refine T.acu.F.okv jP λ_ _ _ _ H vs Q E hr h=>?_
 ·obtain⟨q,ls,m,o,rfl,hq,hL,hl,hM,k⟩:=h
  refine ⟨_,(iu (iT (i:=3) jP.nd rfl orl (jX iy))
   (iu (iT (i:=4) jP.nd rfl orl iB)
   (iu (iT (i:=5) jP.nd rfl orl iB)
   (iu (qC yB rfl (jG (K:=K) (pv 0)) (iK (i:=6) jP.nd rfl orl)
    (iu (iT (i:=4) jP.nd rfl orl (iZ jD (pvD 4) (fv K 6)))
    (iu (iT (i:=7) jP.nd rfl orl (iZ mK (iZ kZ (pvD 4) (pvD 1)) (pvD 2)))
    (iu (jf (vD (K:=K) yt yy yz mH (pvD 3) (ig (iZ pX (pvD 7) (pvD 5)) iy)))
    (iz (iT (i:=5) jP.nd rfl orl (pvD 7)))))))
   (iz (iM (pvD 3))))))),?_⟩
  simp only[start_eq];walk_at "m";refine⟨sz,λp hp=>?_⟩;have s1:=iG (o:=.lst []) hp;have h1:(upd H p (.lst [])) p=some (.lst []):=iC;generalize upd H p (.lst [])=H1 at s1 h1
  iterate 2 walk_at "m"
  rw[ap_seq,ap_for];walk_at "i";refine⟨⟨_,iH (s1 _ _ hq)⟩,?_⟩;obtain⟨ps,z⟩:∃ps,(ls.map λl=>l.2.p)=ps:=⟨_,rfl⟩;have ad:ps.length=ls.length:=by rw[<-z,za]
  rw[z]at k
  refine wJ (K:=K) (a:=q) (xs:=jj ls) (λi σ H2=>(∃v6 v7,σ=[some (.ref q),some (.int m),some (.int o),some (.ref p),some (.int (ps.take i).sum),some (.int ((ps.take i).sum*m/o)),v6,v7])/\Same H H2/\H2 p=some (.lst (((Vm m o ps).take i).map V.int)))
   ⟨⟨none,none,by simp⟩,s1,h1⟩ (λi σ H2 _ ⟨_,s2,_⟩=>s2.seq (iH hq)) ?_ ?_
  ·rintro i y σ H2 hy ⟨⟨v6,v7,rfl⟩,s2,h2⟩
   obtain⟨l,aa,rfl⟩:=jJ hy;have ae:i<ls.length:=(zo.mp aa).1;have ab:ps[i]? =some l.2.p:=by rw[<-z,zh,aa];rfl
   obtain⟨dx,ac⟩:=(hL l (get_mem aa)).same s2;walk_at "i";walk_at "m";refine rd ac T.ad0 T.ad3 (by rfl) ⟨_,rfl,?_⟩;rw[<-Rx ab];walk_at "m";refine⟨hM.mul,hM.div,?_⟩;walk_at "m";refine⟨.inl ⟨rfl,_,iH h2⟩,_,h2,?_,?_⟩
   ·rw[za,yD,zv];omega
   refine⟨s2.upd hp,?_⟩;rw[iC,Wv (by omega),zp];rfl
  ·rintro σ H2 ⟨⟨v6,v7,rfl⟩,s2,h2⟩
   rw[iQ,<-ad,<-RZ m o ps,yJ]at h2;walk_at "a";exact k p H2 s2 hp h2
theorem Oj{m o:Int}(hM:Mo m o){ds:List jh}(h:∀d∈ds,1<=d.p):∀i,i<=ds.length->((stI m o ds i).1.map jh.n).Sublist ((ds.take i).map jh.n)/\(∀d∈(stI m o ds i).1,1<=d.p)/\((stI m o ds i).1.map jh.p).sum=((ds.map jh.p).take i).sum*m/o
 |0,_=>⟨List.nil_sublist _,λd hd=>(zl hd).elim,by simp[stI]⟩
 |i+1,hi=>by
  obtain⟨i1,i2,i3⟩:=Oj hM h i (by omega);obtain⟨d,hd⟩:∃d,ds[i]? =some d:=⟨_,zg (by omega)⟩;have aa:=h d (zq hd);have hs:=Rx (ps:=ds.map jh.p) (i:=i) (p:=d.p) (by rw[zh,hd];rfl)
  have hc:0<=Vc m o (ds.map jh.p) i:=by
   unfold Vc;have:(((ds.map jh.p).take i).sum*m)/o<=(((ds.map jh.p).take (i+1)).sum*m)/o:=Int.ediv_le_ediv (by have:=hM.b;omega) (Int.mul_le_mul_of_nonneg_right (by omega) (by have:=hM.a;omega));omega
  have z:((ds.map jh.p).take (i+1)).sum*m/o=((ds.map jh.p).take i).sum*m/o+Vc m o (ds.map jh.p) i:=by unfold Vc;omega
  rw[KQ hd,z,<-i3];have ht:ds.take (i+1)=ds.take i++[d]:=by rw[yk,hd];rfl
  generalize Vc m o (ds.map jh.p) i=c at hc;rw[ht,zp];unfold stp;split
  ·next e=>exact⟨i1.trans (zzR _ _),i2,by rw[e,Int.add_zero]⟩
  ·next e=>
   refine⟨?_,λx q=>?_,?_⟩
   ·show(((stI m o ds i).1++[_]).map jh.n).Sublist _
    rw[zp];exact i1.append (zzI _)
   ·rcases yg.mp q with q|q
    ·exact i2 x q
    ·rw[zx.mp q]
     show 1<=c;omega
   ·show(((stI m o ds i).1++[_]).map jh.p).sum=_
    rw[zp,zzm];simp
def Xp(r:List jh)(g:Int):(agi (r,g)).map jh.n=r.map jh.n/\(agi (r,g)).map jh.p=r.map jh.p:=by
 rcases zzF r with rfl|⟨q,z,rfl⟩
 ·exact⟨rfl,rfl⟩
 ·rw[zzG,Ja]
  exact⟨by simp,by simp⟩
theorem Ry{m o:Int}{ds:List jh}:∀i,i<=ds.length->((stI m o ds i).1.map jh.c).sum+(stI m o ds i).2=((ds.take i).map jh.c).sum
 |0,_=>by simp[stI]
 |i+1,hi=>by
  have z:=Ry (m:=m) (o:=o) (ds:=ds) i (by omega);obtain⟨d,hd⟩:∃d,ds[i]? =some d:=⟨_,zg (by omega)⟩;have q:ds.take (i+1)=ds.take i++[d]:=by rw[yk,hd];rfl
  rw[KQ hd,q,zp,zzm,<-z];generalize Vc m o (ds.map jh.p) i=c;unfold stp;split
  ·simp;omega
  ·simp;omega
def Vy(r:List jh)(g:Int)(h:r≠[]):((agi (r,g)).map jh.c).sum=(r.map jh.c).sum+g:=by
 rcases zzF r with rfl|⟨q,z,rfl⟩
 ·exact(h rfl).elim
 ·rw[zzG,Ja]
  simp;omega
def Py{m o:Int}(hM:Mo m o){ns:List Int}{ls:RL}(hS:Shp ns ls)(hw:1<=pcs ls*m/o):(stI m o (ls.map (·.2)) ls.length).1≠[]/\∀{z:RL},z.map (·.2)=agi (stI m o (ls.map (·.2)) ls.length)->Shp ns z/\pcs z=pcs ls*m/o/\mz z=mz ls:=by
 have fn:∀l:RL,l.map (·.2.n)=(l.map (·.2)).map jh.n:=λl=>by rw[zr];rfl
 have fp:∀l:RL,pcs l=((l.map (·.2)).map jh.p).sum:=λl=>by unfold pcs;rw[zr];rfl
 obtain⟨a,b,c⟩:=Oj hM (ds:=ls.map (·.2)) (λd hd=>by obtain⟨l,hl,rfl⟩:=zi.mp hd;exact hS.p l hl) ls.length (by rw[za];omega);rw[yr (by rw[za];omega)]at a;rw[yr (by rw[za,za];omega),<-fp]at c;have cc:=Ry (m:=m) (o:=o) (ds:=ls.map (·.2)) ls.length (by rw[za];omega);rw[yr (by rw[za];omega),<-nG]at cc;generalize stI m o (ls.map (·.2)) ls.length=st at a b c cc;obtain⟨r,g⟩:=st
 have aa:r≠[]:=λe=>by
  subst e;have c:(0:Int)=_:=c;omega
 refine⟨aa,fun{z} e=>?_⟩
 ·obtain⟨f1,f2⟩:=Xp r g
  have hn:z.map (·.2.n)=r.map jh.n:=by rw[fn,e,f1]
  have hp:(z.map (·.2)).map jh.p=r.map jh.p:=by rw[e,f2]
  refine⟨⟨by rw[hn];exact yyq a (fn ls▸hS.u),λl hl=>?_,λl hl=>?_⟩,by rw[fp,hp];exact c,by rw[nG,e,Vy r g aa];exact cc⟩
  ·have:l.2.p∈(z.map (·.2)).map jh.p:=zi.mpr ⟨l.2,zi.mpr ⟨l,hl,rfl⟩,rfl⟩
   rw[hp]at this;obtain⟨x,hx,e'⟩:=zi.mp this;exact e'▸b x hx
  ·have:l.2.n∈z.map (·.2.n):=zi.mpr ⟨l,hl,rfl⟩
   rw[hn]at this;have:=a.subset this;rw[<-fn]at this;obtain⟨q,hq,e'⟩:=zi.mp this;exact e'▸hS.m q hq
inductive Ea(A:Adr)(vs:List V)(H:Hp)(Q:VK)(E:XK):Prop
 |mk (q:Addr) (ls:RL) (m o:Int) (ns:List Int) (_:vs=[.ref q,.int m,.int o]) (_:H q=some (.lst (jj ls))) (_:jU A H ls) (_:ls.length<=100) (_:Mo m o) (_:Shp ns ls) (_:(ls=[]\/1<=pcs ls*m/o)) (_:∀l l' H',Same H H'->H l=none->H' l=some (.lst (jj l'))->jU A H' l'->Shp ns l'->pcs l'=pcs ls*m/o->mz l'=mz ls->Q (.ref l) H'):Ea A vs H Q E
def Ox(T:Txt K mg A D):jE P w K mg base CX0 4 A.aau D.aau ["lots", "many", "of"] (Ea A):=by
 refine T.acv.F.okv lw λ_ _ _ _ H vs Q E hr h=>?_
 ·obtain⟨q,ls,m,o,ns,rfl,hq,hL,hl,hM,hS,hw,kk⟩:=h
  refine ⟨_,(iu (jK (iR (lu) (jc (mG (K:=K)) (by rfl) T.add (by decide+kernel) (pav 0 iy)) iB (iY _)) (iz (iM (jX iy))) jd)
   (iu (iT (i:=3) lw.nd rfl orl (jX iy))
   (iu (iT (i:=4) lw.nd rfl orl iB)
   (iu (qC yB rfl (JR (K:=K) (by rfl) T.adi (pav 0 (ig (pcg (Ie T) hr T.acu (JN T) (pav 0 (pav 1 (pav 2 iy)))) iy))) (nu (K:=K) (n:=2) rfl (jl (iK (i:=5) lw.nd rfl orl) (jl (iK (i:=6) lw.nd rfl orl) nA)))
    (iz (jK (iR (lu) (pvD 6) iB (iY _)) (iz (iT (i:=4) lw.nd rfl orl (iZ jD (pvD 4) (fv K 5)))) (iu (jf (vD (K:=K) yt yy yz mH (pvD 3) (ig (lD T.ae6 (jH (K:=K) T) (hr.mono (by decide)) (by rfl) T.adv (jM T) .nil jw (ig (fv K 5) (ig (fv K 5) (pav 6 (ig (iZ jD (fv K 5) (pvD 4)) iy))))) iy)))
     (iz (iT (i:=4) lw.nd rfl orl iB))))))
   (iu (jK (iR (lu) (jc (mG (K:=K)) (by rfl) T.add (by decide+kernel) (pav 3 iy)) iB (iY _)) (iz (kY)) jd)
   (iu (iT (i:=7) lw.nd rfl orl (HY (K:=K) yt PySem.F.slot_list_pop PySem.F.type_list_pop aiv (pvD 3)))
   (iu (jf (vD (K:=K) yt yy yz mH (pvD 3) (ig (jq (pv 7) (mc T.ad0 T.afj (uN T) hr (wg T) .nil) jw (ig iB (pav 4 iy))) iy)))
   (iz (iM (pvD 3)))))))))),?_⟩
  simp only[start_eq];walk_at "m";refine⟨_,.inl (iH hq),?_⟩;rw[iQ];by_cases h0:ls=[]
  ·subst h0
   rw[zn (by simp)];exact⟨sz,λp hp=>kk p [] _ (iG hp) hp iC (λr h=>(zl h).elim) .nil (by unfold pcs;simp) rfl⟩
  ·have bh:0<ls.length:=y8.mpr h0
   have hw:1<=pcs ls*m/o:=hw.resolve_left h0;obtain⟨aw,af⟩:=Py hM hS hw;have k:∀l l' H',Same H H'->H l=none->H' l=some (.lst (jj l'))->jU A H' l'->l'.map (·.2)=agi (stI m o (ls.map (·.2)) ls.length)->Q (.ref l) H':=λl l' H' a b c d e=>kk l l' H' a b c d (af e).1 (af e).2.1 (af e).2.2;rw[ze (by omega)];walk_at "m";refine⟨sz,λpr ab=>?_⟩;have s1:=iG (o:=.lst []) ab;have h1:(upd H pr (.lst [])) pr=some (.lst []):=iC;generalize upd H pr (.lst [])=H1 at s1 h1;walk_at "m";rw[ap_seq,ap_for];walk_at "i";have ep:(ls.map λl=>l.2.p)=(ls.map (·.2)).map jh.p:=by rw[zr];rfl
   obtain⟨ds,ag⟩:∃ds,ls.map (·.2)=ds:=⟨_,rfl⟩;have az:ds.length=ls.length:=by rw[<-ag,za]
   rw[ag]at ep k aw;refine⟨q,ls,m,o,rfl,s1 _ _ hq,hL.same s1,hl,hM,λpc H2 s2 ae aq=>⟨pc,rfl,⟨_,iH (s2 _ _ (s1 _ _ hq))⟩,⟨_,iH aq⟩,?_⟩⟩;rw[ep]at aq;have S2:=s1.trans s2;have ax:pr≠pc:=λe=>by rw[<-e,h1]at ae;cases ae
   have aj:(jj ls).length=((Vm m o (ds.map jh.p)).map V.int).length:=by rw[iQ,za,RZ,za,az]
   refine Jf.zip (K:=K) (a:=q) (b:=pc) (xs:=jj ls) (ys:=(Vm m o (ds.map jh.p)).map V.int) (λi σ H3=>∃(r:RL)(v5 v6 v7:Option V),σ=[some (.ref q),some (.int m),some (.int o),some (.ref pr),some (.int (stI m o ds i).2),v5,v6,v7]/\Same H H3/\H3 pr=some (.lst (jj r))/\H3 pc=some (.lst ((Vm m o (ds.map jh.p)).map V.int))/\jU A H3 r/\r.map (·.2)=(stI m o ds i).1/\r.length<=i) aj
    ⟨[],none,none,none,rfl,S2,s2 _ _ h1,aq,λr h=>(zl h).elim,rfl,yj _⟩ (λi σ H3 _ ⟨_,_,_,_,_,s3,_,h3,_⟩=>⟨s3.seq (iH hq),iH h3⟩) ?_ ?_
   ·rintro i x y σ H3 pt hx hy ⟨r,v5,v6,v7,rfl,s3,h3,ay,ad,aa,am⟩ bg
    obtain⟨l,ai,rfl⟩:=jJ hx;obtain⟨c,rfl,ar⟩:=Dh hy;have bj:i<ls.length:=(zo.mp ai).1;have bb:ds[i]? =some l.2:=by rw[<-ag,zh,ai];rfl
    rw[RK (by rw[za];omega)]at ar;obtain rfl:=zw ar;obtain⟨dx,be⟩:=(hL l (get_mem ai)).same s3;have ao:=KQ (m:=m) (o:=o) bb;generalize bm:Vc m o (ds.map jh.p) i=c at ao;generalize stI m o ds i=st0 at aa ao⊢;obtain⟨r0,g0⟩:=st0;have aa:r.map (·.2)=r0:=aa
    try dsimp only
    have n4:=iG (o:=.tup [V.ref l.1,V.int c]) bg;have au:(upd H3 pt (.tup [V.ref l.1,V.int c])) pt=some (.tup [V.ref l.1,V.int c]):=iC;have S4:=s3.trans n4;have h4:=n4 _ _ h3;have al:=n4 _ _ ay;have ap:=ad.same n4;have ac:=n4 _ _ be;generalize upd H3 pt (.tup [V.ref l.1,V.int c])=H4 at S4 h4 al ap ac au;walk_at "i";refine⟨_,jt au,rfl,_,_,rfl,_,_,rfl,rfl,?_⟩;rw[ao];unfold stp;by_cases ah:c=0
    ·subst ah
     rw[zn rfl];refine⟨rfl,?_⟩;rw[zn rfl];exact rd ac T.ad0 T.ad4 (by rfl) ⟨_,rfl,rfl,S4,r,h4,al,ap,aa,by omega⟩
    ·rw[ze ah]
     refine⟨rfl,?_⟩;rw[ze (by simpa using ah)];walk_at "m";refine⟨.inl ⟨rfl,_,iH h4⟩,rd ac T.ad0 T.ad1 (by rfl) (rd ac T.ad0 T.ad2 (by rfl) (rd ac T.ad0 T.ad4 (by rfl) ⟨_,rfl,λz dz hz ba _=>?_⟩))⟩;refine pB (A:=A) ⟨l.2.n,l.2.s,c,l.2.c+g0⟩ hz ba λH5 s5 hZ=>?_;have h5:=s5 _ _ h4;refine⟨_,h5,by rw[iQ,zv];omega,(S4.trans s5).upd ab,r++[(z,⟨l.2.n,l.2.s,c,l.2.c+g0⟩)],?_,(iJ ax.symm).trans (s5 _ _ al),λx hx=>?_,by rw[zp,aa];rfl,by rw[yd];show r.length+1<=_;omega⟩
     ·rw[iC];unfold jj;rw[zp];rfl
     ·have hx':lO A H5 x.1 x.2:=by
       rcases yg.mp hx with hx|hx
       ·exact(ap x hx).same s5
       ·obtain rfl:=zx.mp hx
        exact hZ
      obtain⟨an,e⟩:=hx';exact⟨an,(iJ λz=>by rw[z,h5]at e;cases e).trans e⟩
   ·rintro σ H3 ⟨r,v5,v6,v7,rfl,s3,h3,ay,ad,aa,am⟩
    rw[iQ]at aa am⊢;walk_at "m";refine⟨_,.inl (iH h3),?_⟩;rw[iQ];have e:r≠[]:=λz=>aw (by rw[z]at aa;exact aa.symm);have bi:0<r.length:=y8.mpr e;rw[ze (by omega)];obtain⟨r',z,rfl⟩:∃r' z,r=r'++[z]:=⟨_,_,(List.dropLast_concat_getLast e).symm⟩;generalize stI m o ds ls.length=bf at aa k;obtain⟨st,g⟩:=bf;have aa:(r'++[z]).map (·.2)=st:=aa;subst aa;rw[zp]at k
    try dsimp only
    have bc:∃dz,H3 z.1=some (.ins A.abb dz z.2.fs):=ad z (yh _ zm);obtain⟨dz,hz⟩:=bc;walk_at "m";refine⟨.inl ⟨rfl,_,iH h3⟩,pr,_,.ref z.1,rfl,rfl,h3,?_,?_⟩
    ·unfold jj;simp
    have bd:(jj (r'++[z])).dropLast=jj r':=by unfold jj;simp
    rw[bd];have h5:(upd H3 pr (.lst (jj r'))) pr=some (.lst (jj r')):=iC;have S5:=s3.upd (o:=.lst (jj r')) ab;have as:∀{b:Addr}{u:HO},H3 b=some u->(∀xs,u≠.lst xs)->b≠pr:=λe n z=>by rw[z,h3]at e;exact n _ (zw e).symm
    have ak:(upd H3 pr (.lst (jj r'))) z.1=some (.ins A.abb dz z.2.fs):=(iJ (as hz λ_ z=>by cases z)).trans hz
    have av:jU A (upd H3 pr (.lst (jj r'))) r':=λx hx=>by
     obtain⟨dx,e⟩:=ad x (zzn _ hx);exact⟨dx,(iJ (as e λ_ z=>by cases z)).trans e⟩
    generalize upd H3 pr (.lst (jj r'))=H5 at h5 S5 ak av
    try dsimp only
    walk_at "m";refine⟨.inl ⟨rfl,_,iH h5⟩,md ak zm (by rfl) ⟨z.1,z.2,0,g,rfl,⟨dz,ak⟩,λy H6 s6 bl hY=>?_⟩⟩;have h6:=s6 _ _ h5;have bk:r'.length<101:=by rw[yd]at am;omega
    refine⟨_,h6,by rw[iQ,zv];omega,k pr (r'++[(y,⟨z.2.n,z.2.s,z.2.p+0,z.2.c+g⟩)]) _ ((S5.trans s6).upd ab) ab ?_ (λx hx=>?_) ?_⟩
    ·rw[iC];unfold jj;rw[zp];rfl
    ·have hx':lO A H6 x.1 x.2:=by
      rcases yg.mp hx with hx|hx
      ·exact(av x hx).same s6
      ·obtain rfl:=zx.mp hx
       exact hY
     obtain⟨an,e⟩:=hx';exact⟨an,(iJ λz=>by rw[z,h6]at e;cases e).trans e⟩
    ·rw[zp]
     show _=agi (r'.map (·.2)++[z.2],g);rw[Ja,Int.add_zero];rfl
noncomputable def prt(sh wh:Int)(d:jh):jh:=⟨d.n,d.s,d.p,d.c*sh/wh⟩
noncomputable def rst(sh wh:Int)(d:jh):jh:=⟨d.n,d.s,d.p,d.c - d.c*sh/wh⟩
structure Shr(sh wh:Int):Prop where
 a:0<=sh/\sh<=10000000
 b:1<=wh/\wh<=10000000
def Shr.mul{q z c:Int}(h:Shr q z):xg c q:=uG (by have:=h.a;omega) (by have:=h.a;omega)
def Shr.div{z q:Int}(h:Shr z q):Lz 0 q:=⟨by have:=h.b;omega,zzc (show q.natAbs<=10000000 by have:=h.b;omega) (yi (show 10000000<2^24 by decide) (zzp (by decide) (by decide)))⟩
inductive Bx(A:Adr)(vs:List V)(H:Hp)(Q:VK)(E:XK):Prop
 |mk (q:Addr) (ls:RL) (sh wh:Int) (_:vs=[.ref q,.int sh,.int wh]) (_:H q=some (.lst (jj ls))) (_:jU A H ls) (_:ls.length<=100) (_:Shr sh wh) (_:∀t q1 q2 l1 l2 H',Same H H'->H q1=none->H q2=none->q1≠q2->H' t=some (.tup [.ref q1,.ref q2])->H' q1=some (.lst (jj l1))->H' q2=some (.lst (jj l2))->jU A H' l1->jU A H' l2->l1.map (·.2)=(ls.map (·.2)).map (rst sh wh)->l2.map (·.2)=(ls.map (·.2)).map (prt sh wh)->Q (.ref t) H'):Bx A vs H Q E
def Ku(T:Txt K mg A D):jE P w K mg base CX0 3 A.aaw D.aaw ["lots", "share", "whole"] (Bx A):=by
 refine T.acx.F.okv pH λ_ _ _ _ H vs Q E hr h=>?_
 ·obtain⟨q,ls,sh,wh,rfl,hq,hL,hl,hW,k⟩:=h
  refine ⟨_,(iu (mV (i:=3) pH.nd rfl rfl (cap:=[none,some 1,some 2]) (N':=["lot", "share", "whole"]) rfl (by walk_at "c") (jG (K:=K) (pv 0)) (λ_ _ _ _=>(iK (i:=0) (show(["lot", "share", "whole"]:List Str).Nodup from by decide+kernel) rfl orl orr)) (λ_ _ _ _=>jA) (λ_ _ _ _=>(pcg (Dv T) hr T.acd (HX T) (ig (fv K 0) (pav 1 (pav 2 iy))))))
   (iu (mV (i:=4) pH.nd rfl rfl (cap:=[none,none]) (N':=["lot", "part"]) rfl (by walk_at "c") (JR (K:=K) (by rfl) T.adi (pav 0 (pav 3 iy))) (λ_ _ _ _=>(nu (K:=K) (n:=2) rfl (jl (iK (i:=0) (show(["lot", "part"]:List Str).Nodup from by decide+kernel) rfl orl orr) (jl (iK (i:=1) (show(["lot", "part"]:List Str).Nodup from by decide+kernel) rfl orl orr) nA)))) (λ_ _ _ _=>jA) (λ_ _ _ _=>(lD T.ae6 (jH (K:=K) T) (hr.mono (by decide)) (by rfl) T.adv (jM T) .nil jw (ig (fv K 0) (ig (fv K 0) (ig (fv K 0) (ig (iZ pX (fv K 0) (pvD 1)) iy)))))))
   (iu (mV (i:=5) pH.nd rfl rfl (cap:=[none,none]) (N':=["lot", "part"]) rfl (by walk_at "c") (JR (K:=K) (by rfl) T.adi (pav 0 (pav 3 iy))) (λ_ _ _ _=>(nu (K:=K) (n:=2) rfl (jl (iK (i:=0) (show(["lot", "part"]:List Str).Nodup from by decide+kernel) rfl orl orr) (jl (iK (i:=1) (show(["lot", "part"]:List Str).Nodup from by decide+kernel) rfl orl orr) nA)))) (λ_ _ _ _=>jA) (λ_ _ _ _=>(lD T.ae6 (jH (K:=K) T) (hr.mono (by decide)) (by rfl) T.adv (jM T) .nil jw (ig (fv K 0) (ig (fv K 0) (ig (fv K 0) (pav 1 iy)))))))
   (iz (iM (lY (pav 4 (pav 5 iy)))))))),?_⟩
  simp only[start_eq];walk_at "m";refine⟨⟨_,iH hq⟩,?_⟩;refine jZ.listE (K:=K) (λσ=>∃a,σ=[a,some (.int sh),some (.int wh)]) (λi v _=>∃l,ls[i]? =some l/\v=.int (l.2.c*sh/wh)) (iH hq) ⟨_,rfl⟩ (by rw[iQ,zv];omega) ?_ ?_
  ·rintro Da i x hx σ H5 R ⟨_,rfl⟩ sm hD _ kk
   obtain⟨l,ab,rfl⟩:=jJ hx;obtain⟨dx,aa⟩:=(hL l (get_mem ab)).same sm;walk_at "i";exact rd aa T.ad0 T.ad4 (by rfl) ⟨_,_,_,rfl,hW.mul,hW.div,kk _ _ H5 ⟨_,rfl⟩ (same_refl _) λH' _=>⟨l,ab,rfl⟩⟩
  ·intro Da H1 acc hD s1 hA al hF
   rw[Ce (f:=λl=>l.2.c*sh/wh) (by rw[al,iQ]) hF]at hA;walk_at "m";refine⟨⟨_,iH (s1 _ _ hq)⟩,⟨_,iH hA⟩,?_⟩;refine jZ.zipE (K:=K) (λσ=>∃a b,σ=[a,b]) (λi v H'=>∃b l,ls[i]? =some l/\v=.ref b/\lO A H' b (rst sh wh l.2)) (iH (s1 _ _ hq)) (iH hA) (by rw[iQ,za,za]) ⟨_,_,rfl⟩ (by rw[iQ,zv];omega) ?_ ?_
   ·rintro Db i x y hx hy σ H5 p R ⟨_,_,rfl⟩ ai ao ⟨ahW,aj⟩ hp kk
    obtain⟨l,ab,rfl⟩:=jJ hx;obtain⟨c,rfl,hc⟩:=Dh hy;rw[zh,ab]at hc;obtain rfl:=zw hc;obtain⟨dx,aa⟩:=(hL l (get_mem ab)).same (s1.trans ai);have aa:=iG (o:=.tup [V.ref l.1,V.int (l.2.c*sh/wh)]) hp _ _ aa;have ac:(upd H5 p (.tup [V.ref l.1,V.int (l.2.c*sh/wh)])) p=some (.tup [V.ref l.1,V.int (l.2.c*sh/wh)]):=iC;have ad:=iG (o:=.tup [V.ref l.1,V.int (l.2.c*sh/wh)]) hp _ _ aj;generalize upd H5 p (.tup [V.ref l.1,V.int (l.2.c*sh/wh)])=H6 at aa ac ad kk;walk_at "i";refine⟨_,jt ac,rfl,_,_,rfl,_,_,rfl,rfl,?_⟩;refine rd aa T.ad0 T.ad1 (by rfl) (rd aa T.ad0 T.ad2 (by rfl) (rd aa T.ad0 T.ad3 (by rfl) (rd aa T.ad0 T.ad4 (by rfl) ⟨_,rfl,_,rfl,λz dz hz ak _=>?_⟩)));refine pB (A:=A) (rst sh wh l.2) hz ak λH7 s7 hZ=>kk (.ref z) _ H7 ⟨_,_,rfl⟩ s7 λH' hb=>⟨z,l,ab,rfl,hZ.but (λe=>by rw[e,ad]at hz;cases hz) hb⟩
   ·intro Db H2 am ao s2 ah af ap
    rw[iQ]at af
    obtain ⟨l1,q1,q2,q3⟩:=QS (λ_ H r=>lO A H r.1 r.2) (H:=H2) (acc:=am) (ds:=(ls.map (·.2)).map (rst sh wh)) (by rw[af,za,za]) λi v hv=>by
     obtain⟨b,l,h1,h3,h4⟩:=ap i v hv;refine⟨b,_,?_,h3,h4⟩;rw[zh,zh,h1];rfl
    subst q1;have S2:=s1.trans s2;walk_at "m";refine⟨⟨_,iH (S2 _ _ hq)⟩,⟨_,iH (s2 _ _ hA)⟩,?_⟩;refine jZ.zipE (K:=K) (λσ=>∃a b,σ=[a,b]) (λi v H'=>∃b l,ls[i]? =some l/\v=.ref b/\lO A H' b (prt sh wh l.2)) (iH (S2 _ _ hq)) (iH (s2 _ _ hA)) (by rw[iQ,za,za]) ⟨_,_,rfl⟩ (by rw[iQ,zv];omega) ?_ ?_
    ·rintro Dc i x y hx hy σ H5 p R ⟨_,_,rfl⟩ ai ag ⟨ahW,aj⟩ hp kk
     obtain⟨l,ab,rfl⟩:=jJ hx;obtain⟨c,rfl,hc⟩:=Dh hy;rw[zh,ab]at hc;obtain rfl:=zw hc;obtain⟨dx,aa⟩:=(hL l (get_mem ab)).same (S2.trans ai);have aa:=iG (o:=.tup [V.ref l.1,V.int (l.2.c*sh/wh)]) hp _ _ aa;have ac:(upd H5 p (.tup [V.ref l.1,V.int (l.2.c*sh/wh)])) p=some (.tup [V.ref l.1,V.int (l.2.c*sh/wh)]):=iC;have ad:=iG (o:=.tup [V.ref l.1,V.int (l.2.c*sh/wh)]) hp _ _ aj;generalize upd H5 p (.tup [V.ref l.1,V.int (l.2.c*sh/wh)])=H6 at aa ac ad kk;walk_at "i";refine⟨_,jt ac,rfl,_,_,rfl,_,_,rfl,rfl,?_⟩;refine rd aa T.ad0 T.ad1 (by rfl) (rd aa T.ad0 T.ad2 (by rfl) (rd aa T.ad0 T.ad3 (by rfl) (λz dz hz ak _=>?_)));refine pB (A:=A) (prt sh wh l.2) hz ak λH7 s7 hZ=>kk (.ref z) _ H7 ⟨_,_,rfl⟩ s7 λH' hb=>⟨z,l,ab,rfl,hZ.but (λe=>by rw[e,ad]at hz;cases hz) hb⟩
    ·intro Dc H3 an ag s3 aq ae ar
     rw[iQ]at ae
     obtain ⟨l2,p1,p2,p3⟩:=QS (λ_ H r=>lO A H r.1 r.2) (H:=H3) (acc:=an) (ds:=(ls.map (·.2)).map (prt sh wh)) (by rw[ae,za,za]) λi v hv=>by
      obtain⟨b,l,h1,h3,h4⟩:=ar i v hv;refine⟨b,_,?_,h3,h4⟩;rw[zh,zh,h1];rfl
     subst p1;have S3:=S2.trans s3;refine⟨sz,λt ht=>?_⟩;have st:=iG (o:=.tup [V.ref Db,V.ref Dc]) ht;exact k t Db Dc l1 l2 _ (S3.trans st) (s1.free ao) (S2.free ag) (λe=>by rw[e]at ah;rw[ah]at ag;cases ag) iC (st _ _ (s3 _ _ ah)) (st _ _ aq) ((jU.same q3 s3).same st) (jU.same p3 st) q2 p2
def VR{f:jh->jh}(hf:∀d,(f d).n=d.n/\(f d).p=d.p){ls q:RL}(h:q.map (·.2)=(ls.map (·.2)).map f):Sim ls q:=by
 have z:∀l:RL,l.map Tq=(l.map (·.2)).map λd=>(d.n,d.p):=λl=>by rw[zr];rfl
 unfold Sim;rw[z,z,h,zr];refine yH λd _=>?_;obtain⟨a,b⟩:=hf d;show((f d).n,(f d).p)=_;rw[a,b]
structure Sh(kvs:List (Key×V)):Prop where
 k:∀kv∈kvs,∃(z:Str)(i:Int),kv=(Sum.inr z,.int i)/\1<=i
 u:(kvs.map (·.1)).Nodup
def Sh.val{kvs:List (Key×V)}(h:Sh kvs)(z:Str):nY kvs (Sum.inr z)=if 0<jr kvs z then some (.int (jr kvs z))else none:=by
 unfold jr
 cases e:nY kvs (Sum.inr z)with
 |none=>rfl
 |some v=>
  obtain⟨y,i,q,hi⟩:=h.k _ (Dr e);cases q;rw[zn (show(0:Int)<i by omega)]
def Sh.nn{kvs:List (Key×V)}(h:Sh kvs)(z:Str):0<=jr kvs z:=by
 have:=h.val z;by_cases e:0<jr kvs z
 ·omega
 ·rw[ze e]at this
  unfold jr;rw[this];exact zzX _
def Bo{kvs:List (Key×V)}(h:Sh kvs)(z:Str):(nY kvs (Sum.inr z)).getD (.int 0)=.int (jr kvs z):=by
 rw[h.val z];have:=h.nn z;split
 ·rfl
 ·show V.int 0=V.int (jr kvs z)
  congr 1;omega
noncomputable def posK(kv:Key×V):Bool:=match kv.2 with
 |.int i=>decide (0<i)
 |_=>false
def agX(kvs:List (Key×V))(k:Key)(v:V):(putK kvs k v).length<=kvs.length+1:=by
 unfold putK;split
 ·rw[za];omega
 ·rw[yd];exact zj _
noncomputable def Gp(kvs:List (Key×V))(z:Str)(n:Int):List (Key×V):=(putK kvs (Sum.inr z) (.int n)).filter posK
def Vt{kvs:List (Key×V)}(h:Sh kvs)(z:Str)(n:Int):Sh (Gp kvs z n):=by
 refine⟨λkv q=>?_,yyq (List.filter_sublist.map _) (Oc h.u)⟩;obtain⟨h1,h2⟩:=zzf.mp q;rcases Qe h1 with rfl|h1
 ·have h2:decide (0<n)=true:=h2
  exact⟨z,n,rfl,by have:=yK h2;omega⟩
 ·exact h.k kv h1
theorem KR:∀(ps:List (Key×V))(acc:List (Key×V)),((acc++ps).map (·.1)).Nodup->ps.foldl (λa p=>putK a p.1 p.2) acc=acc++ps
 |[],acc,_=>by rw[yX];rfl
 |p::ps,acc,hu=>by
  have q:nY acc p.1=none:=by
   cases h:nY acc p.1 with
   |none=>rfl
   |some v=>
    rw[zp,zf]at hu;exact absurd rfl ((zzq.mp hu).2.2 p.1 (zi.mpr ⟨(p.1,v),Dr h,rfl⟩) p.1 zm)
  rw[zzl]
  have e:putK acc p.1 p.2=acc++[p]:=by
   unfold putK;rw[ze (by rw[oA,q];simp)]
  rw[e,KR ps (acc++[p]) (by rw[zz2];exact hu),zz2];rfl
noncomputable def vK:V->Key
 |.str z=>Sum.inr z
 |.int i=>Sum.inl i
 |_=>Sum.inl 0
def ake(k:Key):vK (kV k)=k:=by cases k<;>rfl
noncomputable def kfD(H:Hp):V->Key
 |.ref b=>match H b with
  |some (.tup [x,_])=>vK x
  |_=>Sum.inl 0
 |_=>Sum.inl 0
noncomputable def vfD(H:Hp):V->V
 |.ref b=>match H b with
  |some (.tup [_,y])=>y
  |_=> .non
 |_=> .non
def XS{H:Hp}{b:Addr}{q:Key×V}(h:H b=some (.tup [kV q.1,q.2])):kfD H (.ref b)=q.1:=by
 unfold kfD;dsimp only;rw[h];exact ake _
def Wz{H:Hp}{b:Addr}{q:Key×V}(h:H b=some (.tup [kV q.1,q.2])):vfD H (.ref b)=q.2:=by
 unfold vfD;dsimp only;rw[h]
def Vi{H:Hp}{ps:List (Key×V)}{acc:List V}(hl:acc.length=ps.length)(h:∀(i:Nat) v,acc[i]? =some v->∃q,ps[i]? =some q/\∃b,v=.ref b/\H b=some (.tup [kV q.1,q.2]))(hu:(ps.map (·.1)).Nodup):Ln (kfD H) (vfD H) acc=ps:=by
 have e:acc.map (λy=>(kfD H y,vfD H y))=ps:=by
  refine zzH λi=>?_;rw[zh];by_cases hi:i<acc.length
  ·obtain⟨q,h1,b,h2,z⟩:=h i _ (zg hi)
   rw[zg hi,h2,h1];show some (kfD H (.ref b),vfD H (.ref b))=some q;rw[XS z,Wz z]
  ·rw[yx (by omega),yx (by omega)]
   rfl
 have:=KR (acc.map λy=>(kfD H y,vfD H y)) [] (by rw[zzS,e];exact hu);rw[List.foldl_map,zzS]at this;unfold Ln;rw[this,e]
inductive vm(vs:List V)(H:Hp)(Q:VK)(E:XK):Prop
 |mk (a:Addr) (kvs:List (Key×V)) (z:Str) (n:Int) (_:vs=[.ref a,.str z,.int n]) (_:Rd H a (.dK kvs)) (_:Sh kvs) (_:kvs.length<=100) (_:∀p H',Same H H'->H p=none->H' p=some (.dK (Gp kvs z n))->Q (.ref p) H'):vm vs H Q E
def vy(T:Txt K mg A D):jE P w K mg base CX0 1 A.aaz D.aaz ["held", "ware", "pieces"] (vm):=by
 refine T.acA.F.okv DW λ_ _ _ _ H vs Q E hr h=>?_
 ·obtain⟨a,kvs,z,n,rfl,ha,hH,hl,k⟩:=h
  refine ⟨_,(iu (iT (i:=3) DW.nd rfl orl (lH HB (by rfl) T.adc (by decide+kernel) (pav 0 iy)))
   (iu (xY (nO hr) (pvD 3) (pvD 1) (pvD 2) rfl)
   (iz (iM (lH (qy (K:=K) rfl) (by rfl) T.adc (by decide+kernel) (ig (jB (cap:=[none,none]) (N':=["name", "count"]) rfl (by walk_at "c") (Rj (HY (K:=K) yQ zzW PySem.F.type_dict_items RD (pvD 3))) (λ_ _ _ _=>(nu (K:=K) (n:=2) rfl (jl (iK (i:=0) (show(["name", "count"]:List Str).Nodup from by decide+kernel) rfl orl orr) (jl (iK (i:=1) (show(["name", "count"]:List Str).Nodup from by decide+kernel) rfl orl orr) nA)))) (λ_ _ _ _=>(Ah (iR (HN) (pvD 1) iB (iY _)))) (λ_ _ _ _=>(lY (pav 0 (pav 1 iy))))) iy)))))),?_⟩
  simp only[start_eq];walk_at "m";refine⟨_,ha,λq ab=>?_⟩;have n1:=iG (o:=.dK kvs) ab;have h1:(upd H q (.dK kvs)) q=some (.dK kvs):=iC;generalize upd H q (.dK kvs)=H1 at n1 h1;walk_at "m";obtain⟨P,hP⟩:∃P,putK kvs (Sum.inr z) (.int n)=P:=⟨_,rfl⟩;have af:P.length<=101:=by rw[<-hP];have:=agX kvs (Sum.inr z) (.int n);omega
  have ae:∀kv∈P,∃(y:Str)(i:Int),kv=(Sum.inr y,.int i):=λkv aa=>by
   rw[<-hP]at aa;rcases Qe aa with rfl|h0
   ·exact⟨z,n,rfl⟩
   ·obtain⟨y,i,e,_⟩:=hH.k kv h0
    exact⟨y,i,e⟩
  refine⟨_,HW (k:=Sum.inr z) h1 (by rw[zv];omega),?_⟩;rw[hP];have s2:Same H (upd H1 q (.dK P)):=n1.upd ab;have h2:(upd H1 q (.dK P)) q=some (.dK P):=iC;generalize upd H1 q (.dK P)=H2 at s2 h2;refine⟨.inr (.inr (.inl ⟨rfl,.inl ⟨_,h2⟩⟩)),_,h2,λv hv=>⟨q,iC,P,?_,λo=>?_⟩⟩
  ·exact(iJ (jz h2 hv)).trans h2
  have s3:Same H (upd (upd H2 v (Ft v q)) q (.frz o (.dK P))):=(s2.trans (iG hv)).upd ab;have h3:(upd (upd H2 v (Ft v q)) q (.frz o (.dK P))) q=some (.frz o (.dK P)):=iC;generalize upd (upd H2 v (Ft v q)) q (.frz o (.dK P))=H3 at s3 h3;refine jZ.itemsF (λσ=>∃a b,σ=[a,b]) posK (λkv v H'=>∃b,v=.ref b/\H' b=some (.tup [kV kv.1,kv.2])) h3 ⟨_,_,rfl⟩ (by rw[zv];omega) ?_ ?_
  ·rintro D i kv aa σ H5 p R1 R2 ⟨_,_,rfl⟩ s5 hD ⟨acc,hA⟩ hp k1 k2
   obtain⟨y,j,rfl⟩:=ae kv (zq aa);have h6:(upd H5 p (.tup [kV (Sum.inr y),.int j])) p=some (.tup [.str y,.int j]):=iC;have ad:=iG (o:=.tup [kV (Sum.inr y),.int j]) hp _ _ hA;generalize upd H5 p (.tup [kV (Sum.inr y),.int j])=H6 at h6 ad k1 k2;walk_at "i";refine⟨_,jt h6,rfl,_,_,rfl,_,_,rfl,rfl,_,rfl,?_⟩;by_cases hj:0<j
   ·rw[zn hj]
    exact⟨sz,λt ht=>k1 (yf hj) _ _ _ ⟨_,_,rfl⟩ (iG ht) λH' hb=>⟨t,rfl,hb _ _ (λe=>by rw[e,ad]at ht;cases ht) iC⟩⟩
   ·rw[ze hj]
    exact k2 (ym hj) _ _ ⟨_,_,rfl⟩ (same_refl _)
  ·intro D H4 acc hD s4 hA ac hF
   have hF':∀(i:Nat) v,acc[i]? =some v->∃kv,(P.filter posK)[i]? =some kv/\∃b,v=.ref b/\H4 b=some (.tup [kV kv.1,kv.2]):=hF
   have ag:((P.filter posK).map (·.1)).Nodup:=by
    have:=(Vt hH z n).u;unfold Gp at this
    rwa [hP]at this
   have ah:(P.filter posK).length<=101:=yw (yV _ _) af;rw[ap_dictPairs];refine⟨acc,kfD H4,vfD H4,iH hA,by omega,λy hy=>?_,λp hp=>?_⟩
   ·obtain⟨i,hi,e⟩:=yC hy
    obtain⟨kv,_,b,rfl,hb⟩:=hF' i y (by rw[zg hi,e]);exact⟨b,rfl,by rw[XS hb,Wz hb];exact jt hb⟩
   ·rw[Vi ac hF' ag]
    have S:=s3.trans s4;refine k p _ (S.trans (iG hp)) (S.free hp) ?_;rw[iC];unfold Gp;rw[hP]
inductive sG(vs:List V)(H:Hp)(Q:VK)(E:XK):Prop
 |mk (a:Addr) (kvs:List (Key×V)) (z:Str) (n:Int) (_:vs=[.ref a,.str z,.int n]) (_:Rd H a (.dK kvs)) (_:Sh kvs) (_:kvs.length<=100) (_:∀p H',Same H H'->H p=none->H' p=some (.dK (Gp kvs z (jr kvs z+n)))->Q (.ref p) H'):sG vs H Q E
def oh(T:Txt K mg A D):jE P w K mg base CX0 2 A.aaA D.aaA ["held", "ware", "pieces"] (sG):=by
 refine T.acB.F.okv Du λ_ _ _ _ H vs Q E hr h=>?_
 ·obtain⟨a,kvs,z,n,rfl,ha,q,hl,k⟩:=h
  refine⟨_,(iz (iM (pcg (vy T) hr T.acA (Aw T) (pav 0 (pav 1 (ig (iZ jD (nC (nO hr) (pvD 0) (pvD 1) iB ⟨rfl,rfl,rfl,rfl⟩) (pvD 2)) iy)))))),?_⟩;walk_at "a";exact⟨.inl ⟨_,ha⟩,_,.inl ⟨kvs,Sum.inr z,ha,rfl,rfl⟩,jr kvs z,Bo q z,a,kvs,z,_,rfl,ha,q,hl,k⟩
inductive qH(vs:List V)(H:Hp)(Q:VK)(E:XK):Prop
 |mk (a:Addr) (kvs:List (Key×V)) (z:Str) (n:Int) (_:vs=[.ref a,.str z,.int n]) (_:Rd H a (.dK kvs)) (_:Sh kvs) (_:kvs.length<=100) (_:(jr kvs z<n->Q .non H)) (_:(n<=jr kvs z->∀p H',Same H H'->H p=none->H' p=some (.dK (Gp kvs z (jr kvs z - n)))->Q (.ref p) H')):qH vs H Q E
def Cr(T:Txt K mg A D):jE P w K mg base CX0 2 A.aaC D.aaC ["held", "ware", "pieces"] (qH):=by
 refine T.acD.F.okv qK λ_ _ _ _ H vs Q E hr h=>?_
 ·obtain⟨a,kvs,z,n,rfl,ha,q,hl,k1,k2⟩:=h
  refine ⟨_,(iu (iT (i:=3) qK.nd rfl orl (nC (nO hr) (pvD 0) (pvD 1) iB ⟨rfl,rfl,rfl,rfl⟩))
   (iu (jK (iR (Mi) (pvD 3) (pvD 2) (iY _)) (iz (iM mJ)) jd)
   (iz (iM (pcg (vy T) hr T.acA (Aw T) (pav 0 (pav 1 (ig (iZ pX (pvD 3) (pvD 2)) iy)))))))),?_⟩
  simp only[start_eq];walk_at "m";refine⟨.inl ⟨_,ha⟩,_,.inl ⟨kvs,Sum.inr z,ha,rfl,rfl⟩,?_⟩;rw[Bo q z];walk_at "m";by_cases c:jr kvs z<n
  ·rw[zn c]
   exact k1 c
  ·rw[ze c]
   exact⟨a,kvs,z,_,rfl,ha,q,hl,k2 (by omega)⟩
noncomputable def Ent.beh:Ent->List (Key×V)->Option (List (Key×V))
 |.buy _ _ w p _ _,kvs=>some (Gp kvs w (jr kvs w+p))
 |.sell _ _ w p _ _ _,kvs=>if jr kvs w<p then none else some (Gp kvs w (jr kvs w - p))
 |.gift _ _ w p _ _,kvs=>some (Gp kvs w (jr kvs w+p))
 |.split _ _ w m f,kvs=>if 0<jr kvs w/\jr kvs w*m/f=0 then none else some (Gp kvs w (jr kvs w*m/f))
 |.part _ _ w u _ _,kvs=>some (Gp kvs u (jr kvs u+jr kvs w))
inductive Fi(A:Adr)(isK:Ent->Bool)(vs:List V)(H:Hp)(Q:VK)(E:XK):Prop
 |mk (x a:Addr) (e:Ent) (kvs:List (Key×V)) (_:isK e=true) (_:vs=[.ref x,.ref a]) (_:IsE A H x e) (_:e.good) (_:Rd H a (.dK kvs)) (_:Sh kvs) (_:kvs.length<=100) (_:(e.beh kvs=none->∀H',Same H H'->Q .non H')) (_:∀kv2,e.beh kvs=some kv2->∀p H',Same H H'->H p=none->H' p=some (.dK kv2)->Q (.ref p) H'):Fi A isK vs H Q E
def Cj(T:Txt K mg A D):jE P w K mg base CX0 3 A.aaB D.aaB ["self", "held"] (Fi A Ca):=by
 refine T.acC.okv Bj λ_ _ _ _ H vs Q E hr h=>?_
 ·obtain⟨x,a,e,kvs,hk,rfl,⟨dx,nv,z,hn⟩,hg,ha,hH,hl,k1,k2⟩:=h
  refine⟨_,(iz (iM (pcg (oh T) hr T.acB (oX T) (pav 1 (ig (fv K 0) (ig (fv K 0) iy)))))),?_⟩
  cases e with
  |buy d n w p r f=>
   walk_at "a";exact rd z T.aeq T.aeu (by rfl) (rd z T.aeq T.aev (by rfl) ⟨a,kvs,w,p,rfl,ha,hH,hl,λq H' s h1 h2=>k2 _ rfl q H' s h1 h2⟩)
  |_=>cases hk
def Af(T:Txt K mg A D):jE P w K mg base CX0 3 A.aaD D.aaD ["self", "held"] (Fi A tQ):=by
 refine T.acE.okv Al λ_ _ _ _ H vs Q E hr h=>?_
 ·obtain⟨x,a,e,kvs,hk,rfl,⟨dx,nv,z,hn⟩,hg,ha,hH,hl,k1,k2⟩:=h
  refine⟨_,(iz (iM (pcg (Cr T) hr T.acD (Cv T) (pav 1 (ig (fv K 0) (ig (fv K 0) iy)))))),?_⟩
  cases e with
  |sell d n w p r f o=>
   walk_at "a";refine rd z T.aeH T.aeL (by rfl) (rd z T.aeH T.aeM (by rfl) ⟨a,kvs,w,p,rfl,ha,hH,hl,λc=>k1 (zn c) H (same_refl _),λc q H' s h1 h2=>k2 _ (ze (by omega)) q H' s h1 h2⟩)
  |_=>cases hk
def Ac(T:Txt K mg A D):jE P w K mg base CX0 3 A.aaE D.aaE ["self", "held"] (Fi A uc):=by
 refine T.acF.okv Az λ_ _ _ _ H vs Q E hr h=>?_
 ·obtain⟨x,a,e,kvs,hk,rfl,⟨dx,nv,z,hn⟩,hg,ha,hH,hl,k1,k2⟩:=h
  refine⟨_,(iz (iM (pcg (oh T) hr T.acB (oX T) (pav 1 (ig (fv K 0) (ig (fv K 0) iy)))))),?_⟩
  cases e with
  |gift d n w p c s=>
   walk_at "a";exact rd z T.aez T.aeD (by rfl) (rd z T.aez T.aeE (by rfl) ⟨a,kvs,w,p,rfl,ha,hH,hl,λq H' s h1 h2=>k2 _ rfl q H' s h1 h2⟩)
  |_=>cases hk
def wX(T:Txt K mg A D):jE P w K mg base CX0 2 A.aaF D.aaF ["self", "held"] (Fi A pF):=by
 refine T.acG.okv mC λ_ _ _ _ H vs Q E hr h=>?_
 ·obtain⟨x,a,e,kvs,hk,rfl,⟨dx,nv,hx,hn⟩,hg,ha,hH,hl,k1,k2⟩:=h
  refine ⟨_,(iu (iT (i:=2) mC.nd rfl orl (nC (nO hr) (pvD 1) (fv K 0) iB ⟨rfl,rfl,rfl,rfl⟩))
   (iu (iT (i:=3) mC.nd rfl orl (iZ mK (iZ kZ (pvD 2) (fv K 0)) (fv K 0)))
   (iu (jK (PW.pt (NP (iR (HN) (pvD 2) iB (iY _)) (Gv (iR (lu) (pvD 3) iB (iY _))))) (iz (iM mJ)) jd)
   (iz (iM (pcg (vy T) hr T.acA (Aw T) (pav 1 (ig (fv K 0) (pav 3 iy))))))))),?_⟩
  cases e with
  |split d n w m f=>
   simp only[start_eq];walk_at "m";obtain⟨_,⟨af,ag⟩,ah,ae⟩:=hg;refine⟨.inl ⟨_,ha⟩,rd hx T.aeR T.aeV (by rfl) ⟨_,.inl ⟨kvs,Sum.inr w,ha,rfl,rfl⟩,?_⟩⟩;rw[Bo hH w];walk_at "m"
   refine ⟨_,dx,_,hx,T.aeR,T.aeW,_,by rfl,_,rfl,uG (by omega) (by omega),_,dx,_,hx,T.aeR,T.aeX,_,by rfl,_,rfl,⟨by omega,by
    have:f.natAbs<=1000:=by omega
    exact zzc this (by decide)⟩,?_⟩
   walk_at "m"
   have ab:¬(0<jr kvs w/\jr kvs w*m/f=0)->∃aa ad ac,H x=some (HO.ins aa ad ac)/\Cls K aa/\iU K aa (Str.ofString "ware")/\∃x,List.lookup (Str.ofString "ware") ac=some x/\vm [V.ref a,x,V.int (jr kvs w*m/f)] H Q E0:=λc=>
    (rd hx T.aeR T.aeV (by rfl) ⟨a,kvs,w,_,rfl,ha,hH,hl,λq H' s h1 h2=>k2 _ (ze c) q H' s h1 h2⟩)
   split
   ·rename_i c1
    split
    ·rename_i c2
     exact k1 (zn ⟨c1,c2⟩) H (same_refl _)
    ·rename_i c2
     exact ab λz=>c2 z.2
   ·rename_i c1
    exact ab λz=>c1 z.1
  |_=>cases hk
def uX(T:Txt K mg A D):jE P w K mg base CX0 3 A.aaG D.aaG ["self", "held"] (Fi A tX):=by
 refine T.acH.okv uW λ_ _ _ _ H vs Q E hr h=>?_
 ·obtain⟨x,a,e,kvs,hk,rfl,⟨dx,nv,hx,hn⟩,hg,ha,z,hl,k1,k2⟩:=h
  refine⟨_,(iz (iM (pcg (oh T) hr T.acB (oX T) (pav 1 (ig (fv K 0) (ig (nC (nO hr) (pvD 1) (fv K 0) iB ⟨rfl,rfl,rfl,rfl⟩) iy)))))),?_⟩
  cases e with
  |part d n w u s t=>
   walk_at "a";refine rd hx T.aeY T.ae3 (by rfl) ⟨.inl ⟨_,ha⟩,rd hx T.aeY T.ae2 (by rfl) ⟨_,.inl ⟨kvs,Sum.inr w,ha,rfl,rfl⟩,?_⟩⟩;rw[Bo z w];exact⟨a,kvs,u,_,rfl,ha,z,hl,λq H' s h1 h2=>k2 _ rfl q H' s h1 h2⟩
  |_=>cases hk
abbrev SP5:=List (Addr×jh×Int)
noncomputable def Iw(ps:SP5):List V:=ps.map λr=>V.ref r.1
def Hg(ps:SP5):(Iw ps).length=ps.length:=by unfold Iw;rw[za]
def Wx{rs:SP5}{i:Nat}{y:V}(h:(Iw rs)[i]? =some y):∃r,rs[i]? =some r/\y=.ref r.1:=by
 unfold Iw at h;rw[zh]at h
 cases e:rs[i]? with
 |none=>rw[e]at h;cases h
 |some r=>rw[e]at h;exact⟨r,rfl,(zw h).symm⟩
structure jx where
 n:Int
 d:Int
 w:Str
 pr:Int
 pl:Addr
 ps:SP5
 lo:Option Int
noncomputable def loV:Option Int->V
 |none=> .non
 |some i=> .int i
noncomputable def jx.fs(s:jx):List (Str×V):=[("number",.int s.n),("day",.int s.d),("ware",.str s.w),("proceeds",.int s.pr),("parts",.ref s.pl),("laid_on",loV s.lo)]
noncomputable def jx.co(s:jx):Int:=(s.ps.map λr=>r.2.1.c).sum
noncomputable def jx.cnt(s:jx):Int:=if s.lo=none then s.pr - s.co else 0
noncomputable def agU(H:Hp)(ps:SP5):Prop:=∀r∈ps,H r.1=some (.tup (r.2.1.vs++[.int r.2.2]))
structure kO(A:Adr)(H:Hp)(x:Addr)(s:jx):Prop where
 i:∃dx,H x=some (.ins A.abd dx s.fs)
 p:H s.pl=some (.lst (Iw s.ps))
 t:agU H s.ps
 l:s.ps.length<=64
def agU.same{H H':Hp}{ps:SP5}(h:agU H ps)(s:Same H H'):agU H' ps:=λr q=>s _ _ (h r q)
theorem kO.same{H H':Hp}{x:Addr}{d:jx}(h:kO A H x d)(s:Same H H'):kO A H' x d:=⟨let⟨dx,e⟩:=h.i;⟨dx,s _ _ e⟩,s _ _ h.p,h.t.same s,h.l⟩
def ahW{ps:SP5}{acc:List V}(z:acc.length=ps.length)(h:∀(i:Nat) v,acc[i]? =some v->∃r,ps[i]? =some r/\v=.int r.2.1.c):acc=(ps.map λr=>r.2.1.c).map V.int:=by
 refine zzO (by simp[z]) λi h1 h2=>?_;obtain⟨l,q,e2⟩:=h i acc[i] (by simp);rw[e2];have h3:i<ps.length:=by omega
 have:ps[i]=l:=by
  rw[zg h3]at q;exact zw q
 simp[this]
inductive uI(vs:List V)(H:Hp)(Q:VK)(E:XK):Prop
 |mk (p:Addr) (ps:SP5) (_:vs=[.ref p]) (_:H p=some (.lst (Iw ps))) (_:agU H ps) (_:ps.length<=64) (_:∀H',Same H H'->Q (.int (ps.map λr=>r.2.1.c).sum) H'):uI vs H Q E
def uE(T:Txt K mg A D):jE P w K mg base CX0 1 A.z0 D.z0 ["parts"] uI:=by
 refine T.ab2.F.okv Et λ_ _ _ _ H vs Q E hr h=>?_
 ·obtain⟨p,ps,rfl,hp,hT,hl,k⟩:=h
  refine⟨_,(iz (iM (jc (lX (K:=K) rfl) (by rfl) T.adk (by decide+kernel) (ig (jB (cap:=[none,none,none,none,none]) (N':=["lot", "since", "pieces", "cost", "share"]) rfl (by walk_at "c") (jG (K:=K) (pv 0)) (λ_ _ _ _=>(nu (K:=K) (n:=5) rfl (jl (iK (i:=0) (show(["lot", "since", "pieces", "cost", "share"]:List Str).Nodup from by decide+kernel) rfl orl orr) (jl (iK (i:=1) (show(["lot", "since", "pieces", "cost", "share"]:List Str).Nodup from by decide+kernel) rfl orl orr) (jl (iK (i:=2) (show(["lot", "since", "pieces", "cost", "share"]:List Str).Nodup from by decide+kernel) rfl orl orr) (jl (iK (i:=3) (show(["lot", "since", "pieces", "cost", "share"]:List Str).Nodup from by decide+kernel) rfl orl orr) (jl (iK (i:=4) (show(["lot", "since", "pieces", "cost", "share"]:List Str).Nodup from by decide+kernel) rfl orl orr) nA))))))) (λ_ _ _ _=>jA) (λ_ _ _ _=>(pvD 3))) iy)))),?_⟩;walk_at "a";refine⟨⟨_,iH hp⟩,?_⟩;refine jZ.listE (K:=K) (λσ=>∃a b c d e,σ=[a,b,c,d,e]) (λi v _=>∃r,ps[i]? =some r/\v=.int r.2.1.c) (iH hp) ⟨_,_,_,_,_,rfl⟩ (by rw[Hg,zv];omega) ?_ ?_
  ·rintro Da i x hx σ H5 R ⟨_,_,_,_,_,rfl⟩ sm hD _ kk
   obtain⟨r,z,rfl⟩:=Wx hx;have ht:=sm _ _ (hT r (zq z));walk_at "i";exact⟨_,jt ht,rfl,_,_,rfl,_,_,rfl,_,_,rfl,_,_,rfl,_,_,rfl,rfl,kk _ _ H5 ⟨_,_,_,_,_,rfl⟩ (same_refl _) λH' _=>⟨r,z,rfl⟩⟩
  ·intro Da H' acc hD sm hA q hF
   rw[ahW (by rw[q,Hg]) hF]at hA;walk_at "a";exact⟨_,iH hA,k H' sm⟩
inductive uD(A:Adr)(vs:List V)(H:Hp)(Q:VK)(E:XK):Prop
 |mk (x p:Addr) (n d pr:Int) (w:Str) (lo:Option Int) (ps:SP5) (B:Hp) (dx:Addr) (_:vs=[.ref x,.int n,.int d,.str w,.int pr,.ref p,loV lo]) (_:New B H x A.abd dx []) (_:B p=some (.lst (Iw ps))) (_:agU B ps) (_:ps.length<=64) (_:∀pl H',Same B H'->B pl=none->kO A H' x ⟨n,d,w,pr,pl,ps,lo⟩->Q .non H'):uD A vs H Q E
def oZ(T:Txt K mg A D):jE P w K mg base CX0 1 A.z6 D.z6 ["self", "number", "day", "ware", "proceeds", "parts", "laid_on"] (uD A):=by
 refine T.ab6.okv Fv λ_ _ _ _ H vs Q E hr h=>?_
 ·obtain⟨x,p,n,d,pr,w,lo,ps,B,dx,rfl,q,hp,hT,hl,k⟩:=h
  refine ⟨_,(iu (jk (K:=K) (pv 0) (pvD 1) rfl)
   (iu (jk (K:=K) (pv 0) (pvD 2) rfl)
   (iu (jk (K:=K) (pv 0) (pvD 3) rfl)
   (iu (jk (K:=K) (pv 0) (pvD 4) rfl)
   (iu (jk (K:=K) (pv 0) (lH (pN (K:=K)) (by rfl) T.ade (by decide+kernel) (pav 5 iy)) rfl)
   (iz (jk (K:=K) (pv 0) (pvD 6) rfl))))))),?_⟩
  simp only[start_eq];refine jC λu hu=>?_;rw[ap_seq];walk_at "i";refine sw q.h T.aef T.aeg (by decide) ?_;rw[wR _ _ (by decide+kernel)];have q:=q.put (gs:=[]++[(Str.ofString "number",V.int n)]) rfl;generalize upd H x _=G1 at q⊢;subst hu
  try dsimp only
  refine jC λu hu=>?_;rw[ap_seq];walk_at "i";refine sw q.h T.aef T.aeh (by simp) ?_;rw[lA (f:=Str.ofString "day") ["number"]];have q:=q.put (gs:=([]++[(Str.ofString "number",V.int n)])++[(Str.ofString "day",V.int d)]) rfl;generalize upd G1 x _=G2 at q⊢;subst hu
  try dsimp only
  refine jC λu hu=>?_;rw[ap_seq];walk_at "i";refine sw q.h T.aef T.aei (by simp) ?_;rw[lA (f:=Str.ofString "ware") ["number", "day"]];have q:=q.put (gs:=(([]++[(Str.ofString "number",V.int n)])++[(Str.ofString "day",V.int d)])++[(Str.ofString "ware",V.str w)]) rfl;generalize upd G2 x _=G3 at q⊢;subst hu
  try dsimp only
  refine jC λu hu=>?_;rw[ap_seq];walk_at "i";refine sw q.h T.aef T.aej (by simp) ?_;rw[lA (f:=Str.ofString "proceeds") ["number", "day", "ware"]];have q:=q.put (gs:=((([]++[(Str.ofString "number",V.int n)])++[(Str.ofString "day",V.int d)])++[(Str.ofString "ware",V.str w)])++[(Str.ofString "proceeds",V.int pr)]) rfl;generalize upd G3 x _=G4 at q⊢;subst hu
  try dsimp only
  refine jC λu hu=>?_;rw[ap_seq];walk_at "i";refine⟨_,.inl (iH (q.s _ _ hp)),λpl z=>?_⟩;have aa:pl≠x:=λe=>by rw[e,q.h]at z;cases z
  have ab:=q.s.free z;have q:=q.same (iG (o:=.lst (Iw ps)) z);have hq:(upd G4 pl (.lst (Iw ps))) pl=some (.lst (Iw ps)):=iC;generalize upd G4 pl _=H5 at q hq⊢;refine sw q.h T.aef T.aek (by simp) ?_;rw[lA (f:=Str.ofString "parts") ["number", "day", "ware", "proceeds"]];have q:=q.put (gs:=(((([]++[(Str.ofString "number",V.int n)])++[(Str.ofString "day",V.int d)])++[(Str.ofString "ware",V.str w)])++[(Str.ofString "proceeds",V.int pr)])++[(Str.ofString "parts",V.ref pl)]) rfl;have hq:=(iJ (o:=HO.ins A.abd dx ((((([]++[(Str.ofString "number",V.int n)])++[(Str.ofString "day",V.int d)])++[(Str.ofString "ware",V.str w)])++[(Str.ofString "proceeds",V.int pr)])++[(Str.ofString "parts",V.ref pl)])) aa).trans hq;generalize upd H5 x _=G5 at q hq⊢;subst hu
  try dsimp only
  walk_at "i";refine sw q.h T.aef T.ael (by simp) ?_;rw[lA (f:=Str.ofString "laid_on") ["number", "day", "ware", "proceeds", "parts"]];have S:=q.s.upd (o:=HO.ins A.abd dx (((((([]++[(Str.ofString "number",V.int n)])++[(Str.ofString "day",V.int d)])++[(Str.ofString "ware",V.str w)])++[(Str.ofString "proceeds",V.int pr)])++[(Str.ofString "parts",V.ref pl)])++[(Str.ofString "laid_on",loV lo)])) q.n;exact k pl _ S ab ⟨⟨dx,iC⟩,(iJ aa).trans hq,hT.same S,hl⟩
inductive Vr(A:Adr)(f:jx->Int)(vs:List V)(H:Hp)(Q:VK)(E:XK):Prop
 |mk (x:Addr) (s:jx) (_:vs=[.ref x]) (_:kO A H x s) (_:∀H',Same H H'->Q (.int (f s)) H'):Vr A f vs H Q E
def oJ(T:Txt K mg A D):jE P w K mg base CX0 2 A.z3 D.z3 ["self"] (Vr A λs=>s.pr - s.co):=by
 refine T.ab3.okv Pq λ_ _ _ _ H vs Q E z h=>?_
 ·obtain⟨x,s,rfl,q,k⟩:=h
  refine⟨_,(iz (iM (iZ pX (fv K 0) (pcg (uE T) z T.ab2 (vI T) (ig (fv K 0) iy))))),?_⟩;obtain⟨dx,hi⟩:=q.i;walk_at "a";exact rd hi T.aef T.aej (by rfl) (rd hi T.aef T.aek (by rfl) ⟨s.pl,s.ps,rfl,q.p,q.t,q.l,λH' s'=>⟨_,rfl,_,rfl,k H' s'⟩⟩)
def Gq(T:Txt K mg A D):jE P w K mg base CX0 3 A.aa3 D.aa3 ["self"] (Vr A jx.cnt):=by
 refine T.ac4.okv GZ λ_ _ _ _ H vs Q E z h=>?_
 ·obtain⟨x,s,rfl,q,k⟩:=h
  refine⟨_,(iz (iM (Ci (iR (Gd) (fv K 0) mJ (iY _)) (lG (pv 0) (mc T.aef T.afo (oJ T) z (qu T) .nil) jw) iB))),?_⟩;obtain⟨dx,hi⟩:=q.i;walk_at "a";refine rd hi T.aef T.ael (v:=loV s.lo) (by rfl) (?_);unfold jx.cnt at k
  cases e:s.lo with
  |none=>
   rw[zn (show loV none=V.non from rfl)];rw[e,zn rfl]at k;exact md hi zm (by rfl) ⟨x,s,rfl,q,k⟩
  |some i=>
   rw[ze (show¬loV (some i)=V.non from λc=>by cases c)];rw[e,ze (λc=>by cases c)]at k;exact k H (same_refl _)
inductive wD(A:Adr)(vs:List V)(H:Hp)(Q:VK)(E:XK):Prop
 |mk (x:Addr) (s:jx) (_:vs=[.ref x]) (_:kO A H x s) (_:∀y pl H',Same H H'->H y=none->H pl=none->kO A H' y {s with pl:=pl}->Q (.ref y) H'):wD A vs H Q E
def GR(T:Txt K mg A D):jE P w K mg base CX0 3 A.aa4 D.aa4 ["sale"] (wD A):=by
 refine T.ac5.F.okv HS λ_ _ _ _ H vs Q E hr h=>?_
 ·obtain⟨x,s,rfl,q,k⟩:=h
  refine⟨_,(iz (iM (lD T.ae7 (oZ (K:=K) T) (hr.mono (by decide)) (by rfl) T.adx (pU T) .nil jw (ig (fv K 0) (ig (fv K 0) (ig (fv K 0) (ig (fv K 0) (ig (fv K 0) (ig (fv K 0) iy))))))))),?_⟩;obtain⟨dx,hi⟩:=q.i;walk_at "a";refine rd hi T.aef T.aeg (by rfl) (rd hi T.aef T.aeh (by rfl) (rd hi T.aef T.aei (by rfl) (rd hi T.aef T.aej (by rfl) (rd hi T.aef T.aek (by rfl) (rd hi T.aef T.ael (by rfl) (λy dy hy z _=>?_))))));exact⟨y,s.pl,s.n,s.d,s.pr,s.w,s.lo,s.ps,H,dy,rfl,ql hy z,q.p,q.t,q.l,λpl H' s' aa hS=>⟨rfl,k y pl H' s' hy aa hS⟩⟩
theorem Ri{H:Hp}:∀{acc:List V}{ls:RL}{cs:List Int},acc.length=ls.length->cs.length=ls.length->(∀(i:Nat) v,acc[i]? =some v->∃b l c,ls[i]? =some l/\cs[i]? =some c/\v=.ref b/\H b=some (.tup (l.2.vs++[.int c])))->∃ps:SP5,acc=Iw ps/\ps.map (λr=>r.2.1)=ls.map (·.2)/\ps.map (λr=>r.2.2)=cs/\agU H ps
 |[],[],[],_,_,_=>⟨[],rfl,rfl,rfl,λr h=>(zl h).elim⟩
 |[],_::_,_,h,_,_=>by simp at h
 |_::_,[],_,h,_,_=>by simp at h
 |_,_::_,[],_,h,_=>by simp at h
 |_,[],_::_,_,h,_=>by simp at h
 |v::acc,l::ls,c::cs,hl,hc,h=>by
  obtain⟨b,l',c',e,e',rfl,z⟩:=h 0 v rfl;cases e;cases e';obtain⟨ps,e1,e2,e4,e3⟩:=Ri (acc:=acc) (ls:=ls) (cs:=cs) (by simpa using hl) (by simpa using hc) λi v hv=>h (i+1) v hv;refine⟨(b,l.2,c)::ps,by rw[e1];rfl,by rw[zf,e2];rfl,by rw[zf,e4],λr q=>?_⟩;rcases zu.mp q with rfl|q
  ·exact z
  ·exact e3 r q
inductive JZ(A:Adr)(vs:List V)(H:Hp)(Q:VK)(E:XK):Prop
 |mk (x q:Addr) (d n p r f:Int) (w:Str) (o:Option Rs) (ls:RL) (_:vs=[.ref x,.ref q]) (_:IsE A H x (.sell d n w p r f o)) (_:H q=some (.lst (jj ls))) (_:jU A H ls) (_:ls≠[]) (_:ls.length<=63) (_:(∀l∈ls,1<=l.2.p)) (_:pcs ls<2^63) (_:∀y s H',Same H H'->H y=none->H s.pl=none->kO A H' y s->s.n=n->s.d=d->s.w=w->s.pr=p*r - f->s.lo=none->s.ps.map (λr=>r.2.1)=ls.map (·.2)->(s.ps.map λr=>r.2.2).sum=s.pr->Q (.ref y) H'):JZ A vs H Q E
def UL(T:Txt K mg A D):jE P w K mg base CX0 3 A.aae D.aae ["entry", "lots"] (JZ A):=by
 refine T.acf.F.okv Cy λ_ _ _ _ H vs Q E hr h=>?_
 ·obtain⟨x,q,d,n,p,r,f,w,o,ls,rfl,⟨dx,nv,hx,_⟩,hq,hL,aq,hl,hp,hb,k⟩:=h
  refine ⟨_,(iu (iT (i:=2) Cy.nd rfl orl (pcg (Rp T) hr T.ace (Wr T) (ig (fv K 0) (ig (jB (cap:=[none]) (N':=["lot"]) rfl (by walk_at "c") (jG (K:=K) (pv 1)) (λ_ _ _ _=>(iK (i:=0) nd1 rfl orl orr)) (λ_ _ _ _=>jA) (λ_ _ _ _=>(fv K 0))) iy))))
   (iu (mV (i:=3) Cy.nd rfl rfl (cap:=[none,none]) (N':=["lot", "share"]) rfl (by walk_at "c") (JR (K:=K) (by rfl) T.adi (pav 1 (pav 2 iy))) (λ_ _ _ _=>(nu (K:=K) (n:=2) rfl (jl (iK (i:=0) (show(["lot", "share"]:List Str).Nodup from by decide+kernel) rfl orl orr) (jl (iK (i:=1) (show(["lot", "share"]:List Str).Nodup from by decide+kernel) rfl orl orr) nA)))) (λ_ _ _ _=>jA) (λ_ _ _ _=>(lY (ig (fv K 0) (ig (fv K 0) (ig (fv K 0) (ig (fv K 0) (pav 1 iy))))))))
   (iz (iM (lD T.ae7 (oZ (K:=K) T) (hr.mono (by decide)) (by rfl) T.adx (pU T) .nil jw (ig (fv K 0) (ig (fv K 0) (ig (fv K 0) (ig (fv K 0) (pav 3 (ig mJ iy))))))))))),?_⟩
  simp only[start_eq];walk_at "m";refine rd hx T.aeH T.aeQ (by rfl) ⟨⟨_,iH hq⟩,?_⟩;refine jZ.listE (K:=K) (λσ=>∃a,σ=[a]) (λi v _=>∃l,ls[i]? =some l/\v=.int l.2.p) (iH hq) ⟨_,rfl⟩ (by rw[iQ,zv];omega) ?_ ?_
  ·rintro Da i y hy σ H5 R ⟨_,rfl⟩ sm hD _ kk
   obtain⟨l,ab,rfl⟩:=jJ hy;obtain⟨dl,aa⟩:=(hL l (get_mem ab)).same sm;walk_at "i";exact rd aa T.ad0 T.ad3 (by rfl) (kk _ _ H5 ⟨_,rfl⟩ (same_refl _) λH' _=>⟨l,ab,rfl⟩)
  ·intro D1 H1 acc ba s1 hA ah hF
   rw[Ce (f:=λl=>l.2.p) (by rw[ah,iQ]) hF]at hA;have am:(ls.map λl=>l.2.p).length=ls.length:=za _;have av:=vC hp;have h0:0<ls.length:=y8.mpr aq;refine⟨_,D1,ls.map (λl:Addr×jh=>l.2.p),rfl,iH hA,λy hy=>?_,(show 0<pcs ls by omega),by omega,hb,λp2 H2 s2 ay h2=>?_⟩
   ·obtain⟨e,he,rfl⟩:=zi.mp hy
    have:=hp e he;omega
   obtain⟨cs,ae⟩:∃cs,shares (p*r - f) (ls.map λl=>l.2.p).sum 0 (ls.map λl=>l.2.p)=cs:=⟨_,rfl⟩;have aj:cs.length=ls.length:=by rw[<-ae,wQ,am]
   have an:cs.sum=p*r - f:=by
    rw[<-ae,CW,zz5,Int.mul_zero,Int.zero_ediv,Int.sub_zero];exact yyj _ (show pcs ls≠0 by omega)
   have h2:H2 p2=some (.lst (cs.map V.int)):=ae▸h2;have S2:=s1.trans s2;walk_at "m";refine⟨⟨_,iH (S2 _ _ hq)⟩,⟨_,iH h2⟩,?_⟩;refine jZ.zipE (K:=K) (λσ=>∃a b,σ=[a,b]) (λi v H'=>∃b l c,ls[i]? =some l/\cs[i]? =some c/\v=.ref b/\H' b=some (.tup (l.2.vs++[.int c]))) (iH (S2 _ _ hq)) (iH h2) (by rw[iQ,za,aj]) ⟨_,_,rfl⟩ (by rw[iQ,zv];omega) ?_ ?_
   ·rintro Db i y z hy hz σ H5 pp R ⟨_,_,rfl⟩ ao az ⟨ahW,ar⟩ af kk
    obtain⟨l,ab,rfl⟩:=jJ hy;obtain⟨c,rfl,hc⟩:=Dh hz;obtain⟨dl,aa⟩:=(hL l (get_mem ab)).same (S2.trans ao);have aa:=iG (o:=.tup [V.ref l.1,V.int c]) af _ _ aa;have ai:(upd H5 pp (.tup [V.ref l.1,V.int c])) pp=some (.tup [V.ref l.1,V.int c]):=iC;have ak:=iG (o:=.tup [V.ref l.1,V.int c]) af _ _ ar;generalize upd H5 pp (.tup [V.ref l.1,V.int c])=H6 at aa ai ak kk;walk_at "i";refine⟨_,jt ai,rfl,_,_,rfl,_,_,rfl,rfl,?_⟩;refine rd aa T.ad0 T.ad1 (by rfl) (rd aa T.ad0 T.ad2 (by rfl) (rd aa T.ad0 T.ad3 (by rfl) (rd aa T.ad0 T.ad4 (by rfl) ⟨sz,λt ht=>?_⟩)));exact kk (.ref t) _ _ ⟨_,_,rfl⟩ (iG ht) λH' hb=>⟨t,l,c,ab,hc,rfl,hb _ _ (λe=>by rw[e,ak]at ht;cases ht) iC⟩
   ·intro D3 H3 aw bb s3 al ac au
    rw[iQ]at ac;obtain⟨ps,e1,e2,e4,e3⟩:=Ri ac aj au;rw[e1]at al;have ad:=s3 _ _ (S2 _ _ hx)
    have ax:ps.length=ls.length:=by
     have:=congrArg List.length e1;rw[Hg]at this;omega
    refine rd ad T.aeH T.aeK (by rfl) (rd ad T.aeH T.aeJ (by rfl) (rd ad T.aeH T.aeL (by rfl) (rd ad T.aeH T.aeQ (by rfl) (λy dy hy ap _=>?_))));have S3:=S2.trans s3;exact⟨y,D3,n,d,p*r - f,w,none,ps,H3,dy,rfl,ql hy ap,al,e3,by omega,λpl H4 s4 ag as=>⟨rfl,k y _ H4 (S3.trans s4) (S3.free hy) (S3.free ag) as rfl rfl rfl rfl rfl e2 (by show(ps.map _).sum=_;rw[e4];exact an)⟩⟩
abbrev RW:=List (Str×Addr×RL)
noncomputable def kvR(rs:RW):List (Key×V):=rs.map λt=>(Sum.inr t.1,.ref t.2.1)
noncomputable def rowOf:RW->Str->RL
 |[],_=>[]
 |t::rs,z=>if t.1=z then t.2.2 else rowOf rs z
noncomputable def VN(rs:RW)(z:Str)(q:Addr)(ls:RL):RW:=if rs.any (λt=>decide (t.1=z))=true then rs.map (λt=>if t.1=z then(t.1,q,ls)else t)else rs++[(z,q,ls)]
theorem ajD:∀(rs:RW)(z:Str),(∃t∈rs,t.1=z/\nY (kvR rs) (Sum.inr z)=some (.ref t.2.1)/\rowOf rs z=t.2.2)\/(nY (kvR rs) (Sum.inr z)=none/\rowOf rs z=[]/\z∉rs.map (·.1))
 |[],z=> .inr ⟨rfl,rfl,by simp⟩
 |t::rs,z=>by
  by_cases e:t.1=z
  ·refine .inl ⟨t,zm,e,?_,?_⟩
   ·show nY ((Sum.inr t.1,V.ref t.2.1)::kvR rs) _=_
    rw[kj (by rw[e])]
   ·unfold rowOf;rw[zn e]
  ·have hv:nY (kvR (t::rs)) (Sum.inr z)=nY (kvR rs) (Sum.inr z):=by
    show nY ((Sum.inr t.1,V.ref t.2.1)::kvR rs) _=_;rw[kE (λh=>e (zzJ h))]
   have hr:rowOf (t::rs) z=rowOf rs z:=by
    show(if t.1=z then t.2.2 else rowOf rs z)=_;rw[ze e]
   rw[hv,hr];rcases ajD rs z with⟨u,h1,h2,q,h4⟩|⟨h1,h2,q⟩
   ·exact .inl ⟨u,ya _ h1,h2,q,h4⟩
   ·refine .inr ⟨h1,h2,λh=>?_⟩
    rw[zf]at h;rcases zu.mp h with h|h
    ·exact e h.symm
    ·exact q h
def agN(rs:RW)(z:Str)(q:Addr)(ls:RL):putK (kvR rs) (Sum.inr z) (.ref q)=kvR (VN rs z q ls):=by
 unfold putK VN kvR
 have ea:(List.any (rs.map λt=>((Sum.inr t.1:Key),V.ref t.2.1)) λkv=>decide (kv.1=Sum.inr z))=rs.any λt=>decide (t.1=z):=by
  rw[List.any_map];congr 1;funext t;show decide ((Sum.inr t.1:Key)=Sum.inr z)=decide (t.1=z);by_cases e:t.1=z
  ·rw[e];simp
  ·rw[ym e,ym];exact λh=>e (zzJ h)
 rw[ea];by_cases h:rs.any (λt=>decide (t.1=z))=true
 ·rw[zn h,zn h,zr,zr]
  refine yH λt _=>?_;show(if(Sum.inr t.1:Key)=Sum.inr z then((Sum.inr t.1:Key),V.ref q)else(Sum.inr t.1,V.ref t.2.1))=_;by_cases e:t.1=z
  ·rw[zn (by rw[e])]
   show _=((Sum.inr (if t.1=z then(t.1,q,ls)else t).1:Key),V.ref (if t.1=z then(t.1,q,ls)else t).2.1);rw[zn e]
  ·rw[ze (λh=>e (zzJ h))]
   show _=((Sum.inr (if t.1=z then(t.1,q,ls)else t).1:Key),V.ref (if t.1=z then(t.1,q,ls)else t).2.1);rw[ze e]
 ·rw[ze h,ze h,zp]
  rfl
def Zd{rs:RW}{z:Str}{q:Addr}{ls:RL}{t:Str×Addr×RL}(h:t∈VN rs z q ls):t=(z,q,ls)\/t∈rs:=by
 unfold VN at h;split at h
 ·obtain⟨u,hu,e⟩:=zi.mp h
  by_cases c:u.1=z
  ·rw[zn c,c]at e;exact .inl e.symm
  ·rw[ze c]at e;exact .inr (e▸hu)
 ·rcases yg.mp h with h|h
  ·exact .inr h
  ·exact .inl (zx.mp h)
def Th{rs:RW}{z:Str}{q:Addr}{ls:RL}:(VN rs z q ls).map (·.1)=if z∈rs.map (·.1)then rs.map (·.1)else rs.map (·.1)++[z]:=by
 unfold VN;by_cases h:rs.any (λt=>decide (t.1=z))=true
 ·have hm:z∈rs.map (·.1):=by
   obtain⟨t,ht,e⟩:=yY.mp h;exact zi.mpr ⟨t,ht,yK e⟩
  rw[zn h,zn hm,zr];refine yH λt _=>?_;show(if t.1=z then(t.1,q,ls)else t).1=t.1;split<;>rfl
 ·have hm:z∉rs.map (·.1):=λhm=>by
   obtain⟨t,ht,e⟩:=zi.mp hm;exact h (yY.mpr ⟨t,ht,yf e⟩)
  rw[ze h,ze hm,zp];rfl
def ahM{rs:RW}{z:Str}{q:Addr}{ls:RL}(h:(rs.map (·.1)).Nodup):((VN rs z q ls).map (·.1)).Nodup:=by
 rw[Th];by_cases c:z∈rs.map (·.1)
 ·rw[zn c];exact h
 ·rw[ze c]
  refine zzq.mpr ⟨h,by simp,λy hy x hx=>?_⟩;obtain rfl:=zx.mp hx;exact λe=>c (e▸hy)
theorem Pb:∀{rs:RW}{z:Str}{q:Addr}{ls:RL}{y:Str},rowOf (rs.map λt=>if t.1=z then(t.1,q,ls)else t) y=if y=z/\z∈rs.map (·.1)then ls else rowOf rs y
 |[],z,q,ls,y=>by rw[ze (by simp)];rfl
 |t::rs,z,q,ls,y=>by
  rw[zf];have ih:=Pb (rs:=rs) (z:=z) (q:=q) (ls:=ls) (y:=y);unfold rowOf;by_cases e:t.1=z
  ·rw[zn e]
   by_cases e2:y=z
   ·rw[zn (show t.1=y by rw[e,e2]),zn ⟨e2,by rw[zf,e];exact zm⟩]
   ·have hy:¬t.1=y:=λh=>e2 (h.symm.trans e)
    rw[ze hy,ze (λh=>e2 h.1),ih,ze (λh=>e2 h.1),ze hy]
  ·rw[ze e]
   by_cases e2:t.1=y
   ·rw[zn e2,zn e2,ze (λh=>e (e2.trans h.1))]
   ·rw[ze e2,ze e2,ih]
    by_cases c:y=z/\z∈rs.map (·.1)
    ·rw[zn c,zn ⟨c.1,by rw[zf];exact ya _ c.2⟩]
    ·rw [ze c,ze λh=>c ⟨h.1,by
      have h2:=h.2;rw[zf]at h2;rcases zu.mp h2 with h2|h2
      ·exact(e h2.symm).elim
      ·exact h2⟩]
theorem Nj:∀{rs:RW}{z:Str}{q:Addr}{ls:RL}{y:Str},z∉rs.map (·.1)->rowOf (rs++[(z,q,ls)]) y=if y=z then ls else rowOf rs y
 |[],z,q,ls,y,_=>by
  show(if z=y then ls else[])=_;by_cases e:y=z
  ·rw[zn e,zn e.symm]
  ·rw[ze e,ze (λh=>e h.symm)];rfl
 |t::rs,z,q,ls,y,hn=>by
  rw[zf]at hn;have ih:=Nj (rs:=rs) (z:=z) (q:=q) (ls:=ls) (y:=y) λh=>hn (ya _ h);show(if t.1=y then t.2.2 else rowOf (rs++[(z,q,ls)]) y)=_;rw[ih];by_cases e:t.1=y
  ·rw[zn e,ze (λh=>hn (by rw[<-h,<-e];exact zm))]
   show _=(if t.1=y then t.2.2 else rowOf rs y);rw[zn e]
  ·rw[ze e]
   show _=(if y=z then ls else if t.1=y then t.2.2 else rowOf rs y);rw[ze e]
def Xi{rs:RW}{z:Str}{q:Addr}{ls:RL}{y:Str}:rowOf (VN rs z q ls) y=if y=z then ls else rowOf rs y:=by
 unfold VN;by_cases h:rs.any (λt=>decide (t.1=z))=true
 ·have hm:z∈rs.map (·.1):=by
   obtain⟨t,ht,e⟩:=yY.mp h;exact zi.mpr ⟨t,ht,yK e⟩
  rw[zn h,Pb];by_cases e:y=z
  ·rw[zn e,zn ⟨e,hm⟩]
  ·rw[ze e,ze λh=>e h.1]
 ·have hm:z∉rs.map (·.1):=λhm=>by
   obtain⟨t,ht,e⟩:=zi.mp hm;exact h (yY.mpr ⟨t,ht,yf e⟩)
  rw[ze h,Nj hm]
noncomputable def QK(rs:RW)(z:Str):RW:=rs.filter λt=>decide (t.1≠z)
def ZF(rs:RW)(z:Str):QL (kvR rs) (Sum.inr z)=kvR (QK rs z):=by
 unfold QL kvR QK;rw[List.filter_map];congr 1;refine List.filter_congr λt _=>?_;show decide ((Sum.inr t.1:Key)≠Sum.inr z)=decide (t.1≠z);by_cases e:t.1=z
 ·rw[e];simp
 ·rw[yf e,yf];exact λh=>e (zzJ h)
theorem Km:∀{rs:RW}{z y:Str},rowOf (QK rs z) y=if y=z then[]else rowOf rs y
 |[],z,y=>by show[]=_;split<;>rfl
 |t::rs,z,y=>by
  have ih:=Km (rs:=rs) (z:=z) (y:=y);unfold QK at ih⊢;rw[yE];by_cases e:t.1=z
  ·rw[ze (by simp[e]),ih]
   by_cases q:y=z
   ·rw[zn q,zn q]
   ·rw[ze q,ze q]
    show _=if t.1=y then _ else _;rw[ze (λc=>q (c.symm.trans e))]
  ·rw[zn (yf e)]
   show(if t.1=y then _ else _)=(if y=z then[]else if t.1=y then _ else _);rw[ih];by_cases q:t.1=y
   ·rw[zn q,zn q,ze (λc=>e (q.trans c))]
   ·rw[ze q,ze q]
noncomputable def keepR(rs:RW)(z:Str)(q:Addr)(ls:RL):RW:=if ls.length=0 then QK rs z else VN rs z q ls
def pL{rs:RW}{z:Str}{q:Addr}{ls:RL}{y:Str}:rowOf (keepR rs z q ls) y=if y=z then ls else rowOf rs y:=by
 unfold keepR;split
 ·next e=>rw[Km,zzv.mp e]
 ·exact Xi
def Jd{rs:RW}{z:Str}{q:Addr}{ls:RL}{t:Str×Addr×RL}(h:t∈keepR rs z q ls):(t=(z,q,ls)/\ls≠[])\/t∈rs:=by
 unfold keepR at h;split at h
 ·exact .inr (zzf.mp h).1
 ·next e=>exact(Zd h).imp_left λc=>⟨c,λz=>e (by rw[z];rfl)⟩
def Uc{rs:RW}{z:Str}(h:z∉rs.map (·.1)):QK rs z=rs:=yyk.mpr λt q=>yf λc=>h (zi.mpr ⟨t,q,c⟩)
structure Mf(ns:List Int)(W:List Str)(rs:RW):Prop where
 u:(rs.map (·.1)).Nodup
 w:∀t∈rs,t.1∈W
 n:∀t∈rs,t.2.2≠[]/\Shp ns t.2.2
def Mf.len{ns:List Int}{W:List Str}{rs:RW}(h:Mf ns W rs):rs.length<=W.length:=by
 have:=Li h.u λn hn=>by
  obtain⟨t,q,rfl⟩:=zi.mp hn;exact h.w t q
 rwa [za]at this
def Mf.row{ns:List Int}{W:List Str}{rs:RW}(h:Mf ns W rs)(z:Str):Shp ns (rowOf rs z):=by
 rcases ajD rs z with⟨t,h1,_,_,q⟩|⟨_,h2,_⟩
 ·rw[q];exact(h.n t h1).2
 ·rw[h2];exact .nil
def Mf.keep{ns:List Int}{W:List Str}{rs:RW}(h:Mf ns W rs){z:Str}(hz:z∈W){q:Addr}{ls:RL}(hs:Shp ns ls):Mf ns W (keepR rs z q ls):=by
 refine⟨?_,λt ht=>?_,λt ht=>?_⟩
 ·unfold keepR
  split
  ·exact(List.filter_sublist.map _).nodup h.u
  ·exact ahM h.u
 ·rcases Jd ht with⟨rfl,_⟩|ht
  ·exact hz
  ·exact h.w t ht
 ·rcases Jd ht with⟨rfl,e⟩|ht
  ·exact⟨e,hs⟩
  ·exact h.n t ht
noncomputable def xG(H:Hp)(M:List Addr):Hp:=λa=>if a∈M then none else H a
def rP{H:Hp}{M:List Addr}:Same (xG H M) H:=λa o h=>by
 unfold xG at h;split at h
 ·cases h
 ·exact h
def tK{H:Hp}{M:List Addr}{a:Addr}{o:HO}(h:H a=some o)(n:a∉M):xG H M a=some o:=by unfold xG;rw[ze n];exact h
structure Stp(M M':List Addr)(H H':Hp):Prop where
 k:∀a o,a∉M->H a=some o->H' a=some o
 f:∀m∈M',m∈M\/H m=none
def Stp.same{M M':List Addr}{H H':Hp}(s:Stp M M' H H'):Same (xG H M) (xG H' M'):=λa o h=>by
 unfold xG at h;split at h
 ·cases h
 ·next n=>exact tK (s.k a o n h) λc=>(s.f a c).elim n λe=>by rw[e]at h;cases h
def pA{M:List Addr}{H H':Hp}(s:Same H H'):Stp M M H H':=⟨λa o _ h=>s a o h,λm h=> .inl h⟩
def rH{M:List Addr}{H:Hp}{m:Addr}{o:HO}(h:m∈M):Stp M M H (upd H m o):=⟨λa o n e=>(iJ λc:a=m=>n (c▸h)).trans e,λm h=> .inl h⟩
def Stp.trans{M M' M'':List Addr}{H H' H'':Hp}(s:Stp M M' H H')(t:Stp M' M'' H' H''):Stp M M'' H H'':=by
 have ne:∀{a:Addr}{o:HO},a∉M->H a=some o->a∉M':=λn h c=>(s.f _ c).elim n λe=>by rw[e]at h;cases h
 refine⟨λa o n h=>t.k a o (ne n h) (s.k a o n h),λm hm=>?_⟩;rcases t.f m hm with h|h
 ·exact s.f m h
 ·by_cases c:m∈M
  ·exact .inl c
  ·right
   cases e:H m with
   |none=>rfl
   |some o=>rw[s.k m o c e]at h;cases h
abbrev LY:=List (Addr×Int×Int×Int)
noncomputable def uf(ts:LY):List V:=ts.map λt=>V.ref t.1
noncomputable def lyT(t:Addr×Int×Int×Int):HO:=.tup [.int t.2.1,.int t.2.2.1,.int t.2.2.2]
structure BkD where
 C:Addr
 way:Addr
 rows:Addr
 sales:Addr
 givs:Addr
 rs:RW
 last:Option (Addr×Int×Int)
 paid:Int
 brought:Int
 sl:List (Addr×jx)
 gv:List (Addr×Int×Addr×RL)
 x:Option (Int×Addr×LY)
noncomputable def PN:Option (Addr×Int×Int)->V
 |none=> .non
 |some t=> .ref t.1
noncomputable def BkD.xs(k:BkD):List (Str×V):=match k.x with
 |none=>[]
 |some y=>[("days",.int y.1),("layings",.ref y.2.1)]
noncomputable def BkD.fs(k:BkD):List (Str×V):=("way",.ref k.way)::("rows",.ref k.rows)::("last_place",PN k.last)::("paid",.int k.paid)::("brought",.int k.brought)::("sales_done",.ref k.sales)::("givings_done",.ref k.givs)::k.xs
noncomputable def BkD.xm(k:BkD):List Addr:=match k.x with
 |none=>[]
 |some y=>[y.2.1]
noncomputable def BkD.M(b:Addr)(k:BkD):List Addr:=[b,k.rows,k.sales,k.givs]++k.xm
noncomputable def Kf(A:Adr)(H:Hp)(rs:RW):Prop:=∀t∈rs,H t.2.1=some (.lst (jj t.2.2))/\jU A H t.2.2
theorem Kf.same{H H':Hp}{rs:RW}(h:Kf A H rs)(s:Same H H'):Kf A H' rs:=λt q=>⟨s _ _ (h t q).1,(h t q).2.same s⟩
noncomputable def Ff(sl:List (Addr×jx)):List V:=sl.map λt=>V.ref t.1
noncomputable def akf(gv:List (Addr×Int×Addr×RL)):List V:=gv.map λt=>V.ref t.1
structure Frz(A:Adr)(G:Hp)(k:BkD):Prop where
 l:Kf A G k.rs
 p:∀t,k.last=some t->G t.1=some (.tup [.int t.2.1,.int t.2.2])
 s:∀t∈k.sl,kO A G t.1 t.2
 g:∀t∈k.gv,G t.1=some (.tup [.int t.2.1,.ref t.2.2.1])/\G t.2.2.1=some (.lst (jj t.2.2.2))/\jU A G t.2.2.2
 y:∀y,k.x=some y->∀t∈y.2.2,G t.1=some (lyT t)
theorem Frz.same{G G':Hp}{k:BkD}(h:Frz A G k)(s:Same G G'):Frz A G' k:=⟨h.l.same s,λt q=>s _ _ (h.p t q),λt q=>(h.s t q).same s,λt q=>let⟨a,b,c⟩:=h.g t q;⟨s _ _ a,s _ _ b,c.same s⟩,λy e t q=>s _ _ (h.y y e t q)⟩
structure iV(A:Adr)(H:Hp)(b:Addr)(k:BkD):Prop where
 c:(k.C=A.aba/\k.x=none)\/(k.C=A.abc/\k.x≠none)
 i:∃dx,H b=some (.ins k.C dx k.fs)
 r:H k.rows=some (.dK (kvR k.rs))
 s:H k.sales=some (.lst (Ff k.sl))
 g:H k.givs=some (.lst (akf k.gv))
 y:∀y,k.x=some y->H y.2.1=some (.lst (uf y.2.2))/\y.2.1≠k.sales/\y.2.1≠k.givs
 d:k.sales≠k.givs
 z:Frz A (xG H (k.M b)) k
def BkD.mb{b:Addr}{k:BkD}:b∈k.M b:=zm
def BkD.mr{b:Addr}{k:BkD}:k.rows∈k.M b:=ya _ zm
def BkD.ms{b:Addr}{k:BkD}:k.sales∈k.M b:=ya _ (ya _ zm)
theorem iV.same{H H':Hp}{b:Addr}{k:BkD}(h:iV A H b k)(s:Same H H'):iV A H' b k:=
 ⟨h.c,let⟨dx,e⟩:=h.i;⟨dx,s _ _ e⟩,s _ _ h.r,s _ _ h.s,s _ _ h.g,λy e=>let⟨a,t⟩:=h.y y e;⟨s _ _ a,t⟩,h.d,h.z.same (pA s).same⟩
def iV.frz{H:Hp}{b:Addr}{k:BkD}(h:iV A H b k):Frz A H k:=h.z.same rP
def iV.neb{H:Hp}{b:Addr}{k:BkD}(h:iV A H b k){x:Addr}{o:HO}(q:H x=some o)(z:∀C dx fs,o≠.ins C dx fs):x≠b:=λe=>by
 obtain⟨dx,hb⟩:=h.i;rw[e,hb]at q;exact z _ _ _ (zw q).symm
def iV.ner{H:Hp}{b:Addr}{k:BkD}(h:iV A H b k){x:Addr}{o:HO}(q:H x=some o)(ho:∀z,o≠.dK z):x≠k.rows:=λe=>by
 rw[e,h.r]at q;exact ho _ (zw q).symm
def iV.row{H:Hp}{b:Addr}{k:BkD}(h:iV A H b k){z:Str}{q:Addr}{ls:RL}(hq:xG H (k.M b) q=some (.lst (jj ls)))(hL:jU A (xG H (k.M b)) ls):iV A (upd H k.rows (.dK (kvR (keepR k.rs z q ls)))) b {k with rs:=keepR k.rs z q ls}:=by
 have hs:Same (xG H (k.M b)) (xG (upd H k.rows (.dK (kvR (keepR k.rs z q ls)))) (k.M b)):=(rH BkD.mr).same;have n:∀{a:Addr}{o:HO},H a=some o->(∀kv,o≠.dK kv)->(upd H k.rows (.dK (kvR (keepR k.rs z q ls)))) a=some o:=λe f=>(iJ (h.ner e f)).trans e;have F:=h.z.same hs;refine⟨h.c,let⟨dx,e⟩:=h.i;⟨dx,n e λ_ c=>by cases c⟩,iC,n h.s λ_ c=>(by cases c),n h.g λ_ c=>(by cases c),λy e=>let⟨a,t⟩:=h.y y e;⟨n a λ_ c=>(by cases c),t⟩,h.d,⟨λt ht=>?_,F.p,F.s,F.g,F.y⟩⟩;rcases Jd ht with⟨rfl,_⟩|ht
 ·exact⟨hs _ _ hq,hL.same hs⟩
 ·exact F.l t ht
def iV.put{H:Hp}{b dx:Addr}{k:BkD}(h:iV A H b k){la:Option (Addr×Int×Int)}{pa br:Int}(hl:∀t,la=some t->xG H (k.M b) t.1=some (.tup [.int t.2.1,.int t.2.2])):iV A (upd H b (.ins k.C dx {k with last:=la,paid:=pa,brought:=br}.fs)) b {k with last:=la,paid:=pa,brought:=br}:=by
 have q:Same (xG H (k.M b)) (xG (upd H b (.ins k.C dx {k with last:=la,paid:=pa,brought:=br}.fs)) (k.M b)):=(rH BkD.mb).same;have n:∀{a:Addr}{o:HO},H a=some o->(∀C dx fs,o≠.ins C dx fs)->(upd H b (.ins k.C dx {k with last:=la,paid:=pa,brought:=br}.fs)) a=some o:=λe f=>(iJ (h.neb e f)).trans e;have F:=h.z.same q;exact⟨h.c,⟨dx,iC⟩,n h.r λ_ _ _ c=>(by cases c),n h.s λ_ _ _ c=>(by cases c),n h.g λ_ _ _ c=>(by cases c),λy e=>let⟨a,t⟩:=h.y y e;⟨n a λ_ _ _ c=>(by cases c),t⟩,h.d,⟨F.l,λt z=>q _ _ (hl t z),F.s,F.g,F.y⟩⟩
def iV.sale{H:Hp}{b y:Addr}{k:BkD}{s:jx}(h:iV A H b k)(hy:kO A (xG H (k.M b)) y s):iV A (upd H k.sales (.lst (Ff (k.sl++[(y,s)])))) b {k with sl:=k.sl++[(y,s)]}:=by
 have z:Same (xG H (k.M b)) (xG (upd H k.sales (.lst (Ff (k.sl++[(y,s)])))) (k.M b)):=(rH BkD.ms).same;have n:∀{a:Addr}{o:HO},H a=some o->a≠k.sales->(upd H k.sales (.lst (Ff (k.sl++[(y,s)])))) a=some o:=λe f=>(iJ f).trans e;have F:=h.z.same z;refine⟨h.c,let⟨dx,e⟩:=h.i;⟨dx,n e λc=>by rw[c,h.s]at e;cases e⟩,n h.r λc=>(by have:=h.r;rw[c,h.s]at this;cases this),iC,n h.g h.d.symm,λy e=>let⟨a,t⟩:=h.y y e;⟨n a t.1,t⟩,h.d,⟨F.l,F.p,λt q=>?_,F.g,F.y⟩⟩;rcases yg.mp q with q|q
 ·exact F.s t q
 ·rw[zx.mp q];exact hy.same z
structure CB(K:Fg_)(C:Addr):Prop where
 c:Cls K C
 w:iU K C "way"
 r:iU K C "rows"
 l:iU K C "last_place"
 p:iU K C "paid"
 b:iU K C "brought"
 s:iU K C "sales_done"
 g:iU K C "givings_done"
def CQ(T:Txt K mg A D){H:Hp}{b:Addr}{k:BkD}(h:iV A H b k):CB K k.C:=by
 rcases h.c with⟨e,_⟩|⟨e,_⟩
 ·rw[e];exact⟨T.adS,T.adT,T.adU,T.adV,T.adW,T.adX,T.adY,T.adZ⟩
 ·rw[e];exact⟨T.ad5,T.ad6,T.ad7,T.ad8,T.ad9,T.aea,T.aeb,T.aec⟩
def iV.own{H:Hp}{b:Addr}{k:BkD}(h:iV A H b k){m:Addr}(hm:m∈k.M b):∃o,H m=some o/\((∃dx,o=.ins k.C dx k.fs)\/(∃q,o=.dK q)\/∃xs,o=.lst xs):=by
 obtain⟨dx,hi⟩:=h.i;unfold BkD.M at hm;rcases yg.mp hm with c|c
 ·rcases zu.mp c with rfl|c
  ·exact⟨_,hi,.inl ⟨dx,rfl⟩⟩
  rcases zu.mp c with rfl|c
  ·exact⟨_,h.r,.inr (.inl ⟨_,rfl⟩)⟩
  rcases zu.mp c with rfl|c
  ·exact⟨_,h.s,.inr (.inr ⟨_,rfl⟩)⟩
  ·rw[zx.mp c]
   exact⟨_,h.g,.inr (.inr ⟨_,rfl⟩)⟩
 ·unfold BkD.xm at c
  split at c
  ·exact(zl c).elim
  ·next y e=>
   rw[zx.mp c];exact⟨_,(h.y y e).1,.inr (.inr ⟨_,rfl⟩)⟩
def iV.fresh{H:Hp}{b:Addr}{k:BkD}(h:iV A H b k){x:Addr}(q:H x=none):x∉k.M b:=λc=>by
 obtain⟨o,e,_⟩:=h.own c;rw[q]at e;cases e
theorem iV.tup{H:Hp}{b:Addr}{k:BkD}(h:iV A H b k){x:Addr}{xs:List V}(q:H x=some (.tup xs)):xG H (k.M b) x=some (.tup xs):=tK q λc=>by
 obtain⟨o,e,c⟩:=h.own c;rw[q]at e;obtain rfl:=zw e;rcases c with⟨_,c⟩|⟨_,c⟩|⟨_,c⟩<;>cases c
theorem iV.ins{H:Hp}{b:Addr}{k:BkD}(h:iV A H b k){x C dx:Addr}{fs:List (Str×V)}{v:V}(q:H x=some (.ins C dx ((Str.ofString "number",v)::fs))):xG H (k.M b) x=some (.ins C dx ((Str.ofString "number",v)::fs)):=tK q λc=>by
 obtain⟨o,e,c⟩:=h.own c;rw[q]at e;obtain rfl:=zw e;rcases c with⟨_,c⟩|⟨_,c⟩|⟨_,c⟩
 ·injection c with _ _ c
  exact absurd (Prod.mk.inj (zzD c).1).1 (by decide+kernel)
 ·cases c
 ·cases c
def iV.lots{H:Hp}{b:Addr}{k:BkD}(h:iV A H b k){ls:RL}(z:jU A H ls):jU A (xG H (k.M b)) ls:=λl q=>let⟨dx,e⟩:=z l q;⟨dx,h.ins e⟩
def iV.sal{H:Hp}{b y:Addr}{k:BkD}{s:jx}(h:iV A H b k)(q:kO A H y s)(hp:s.pl∉k.M b):kO A (xG H (k.M b)) y s:=⟨let⟨dx,e⟩:=q.i;⟨dx,h.ins e⟩,tK q.p hp,λr z=>h.tup (q.t r z),q.l⟩
inductive xO(A:Adr)(vs:List V)(H:Hp)(Q:VK)(E:XK):Prop
 |mk (b:Addr) (z:Str) (k:BkD) (_:vs=[.ref b,.str z]) (_:iV A H b k) (_:∀l H',Same H H'->H l=none->H' l=some (.lst (jj (rowOf k.rs z)))->jU A H' (rowOf k.rs z)->Q (.ref l) H'):xO A vs H Q E
def jF(T:Txt K mg A D):jE P w K mg base CX0 1 A.zS D.zS ["self", "ware"] (xO A):=by
 refine T.abU.okv Jw λ_ _ _ _ H vs Q E hr h=>?_
 ·obtain⟨b,z,kb,rfl,hB,k⟩:=h
  refine⟨_,(iz (iM (lH (pN (K:=K)) (by rfl) T.ade (by decide+kernel) (ig (nC (nO hr) (fv K 0) (pvD 1) (jX iy) ⟨rfl,rfl,rfl,rfl⟩) iy)))),?_⟩;walk_at "a";obtain⟨dx,hb⟩:=hB.i;have hC:=CQ T hB;refine rd hb hC.c hC.r (by rfl) ⟨kb.rows,rfl,.inl ⟨_,.inl hB.r⟩,sz,λp hp=>?_⟩;have q:=iG (o:=.lst []) hp;refine⟨_,.inl ⟨_,Sum.inr z,.inl (q _ _ hB.r),rfl,rfl⟩,?_⟩;rcases ajD kb.rs z with⟨t,h1,h2,h3,h4⟩|⟨h1,h2,h3⟩
  ·rw[h3]
   obtain⟨g1,g2⟩:=hB.frz.l t h1;show Gu K [.ref t.2.1] _ Q;rw[ap_rListOf];refine⟨_,.inl (iH (q _ _ g1)),λl hl=>?_⟩;have s2:=q.trans (iG (o:=.lst (jj t.2.2)) hl);rw[h4]at k;exact k l _ s2 (q.free hl) iC (g2.same s2)
  ·rw[h1]
   show Gu K [.ref p] _ Q;rw[ap_rListOf];refine⟨_,.inl (iH iC),λl hl=>?_⟩;rw[h2]at k;exact k l _ (q.trans (iG hl)) (q.free hl) iC λl h=>(zl h).elim
inductive uo(A:Adr)(vs:List V)(H:Hp)(Q:VK)(E:XK):Prop
 |mk (b q:Addr) (z:Str) (k:BkD) (ls:RL) (_:vs=[.ref b,.str z,.ref q]) (_:iV A H b k) (_:H q=some (.lst (jj ls))) (_:jU A H ls) (_:q∉k.M b) (_:k.rs.length<=50) (_:∀H',Stp (k.M b) (k.M b) H H'->iV A H' b {k with rs:=keepR k.rs z q ls}->Q .non H'):uo A vs H Q E
def jL(T:Txt K mg A D):jE P w K mg base CX0 1 A.zT D.zT ["self", "ware", "row"] (uo A):=by
 refine T.abV.okv Fo λ_ _ _ _ H vs Q E hr h=>?_
 ·obtain⟨b,q,z,kb,ls,rfl,hB,hq,hL,hs,hz,k⟩:=h
  refine⟨_,(iz (jK (iR (HN) (jc (mG (K:=K)) (by rfl) T.add (by decide+kernel) (pav 2 iy)) iB (iY _)) (iz (xY (nO hr) (fv K 0) (pvD 1) (pvD 2) rfl)) (iz (jf (Zx (fv K 0) (pvD 1) mJ ⟨rfl,rfl,rfl,rfl⟩))))),?_⟩;walk_at "a";obtain⟨dx,hb⟩:=hB.i;have hC:=CQ T hB;refine⟨_,.inl (iH hq),?_⟩;rw[iQ];have hR:=hB.row (z:=z) (tK hq hs) (hB.lots hL);by_cases hl:ls.length=0
  ·rw[ze (by omega)]
   unfold agu;walk_at "i";have e:keepR kb.rs z q ls=QK kb.rs z:=zn hl;rw[e]at hR k;refine rd hb hC.c hC.r (by rfl) ⟨kb.rows,rfl,.inl ⟨_,.inl hB.r⟩,_,hB.r,Sum.inr z,rfl,λv hv=>?_,λhn=>?_⟩
   ·rw[ZF]
    exact k _ (rH BkD.mr) hR
   ·rcases ajD kb.rs z with⟨t,_,_,h3,_⟩|⟨_,_,h3⟩
    ·rw[hn]at h3;cases h3
    ·rw[Uc h3]at k
     exact k H (pA (same_refl _)) hB
  ·rw[zn (by omega)]
   have e:keepR kb.rs z q ls=VN kb.rs z q ls:=ze hl;rw[e]at hR k;refine rd hb hC.c hC.r (by rfl) ⟨kb.rows,rfl,_,HW (k:=Sum.inr z) hB.r (by unfold kvR;rw[za,zv];omega),?_⟩;rw[agN _ _ _ ls];exact k _ (rH BkD.mr) hR
def iV.me{H:Hp}{b:Addr}{k:BkD}(h:iV A H b k){sp:Sp}:(k.C,sp)∈[(A.aba,sp),(A.abc,sp)]:=by
 rcases h.c with⟨e,_⟩|⟨e,_⟩
 ·rw[e];exact zm
 ·rw[e];exact ya _ zm
def Ze{ls:RL}{i:Nat}{l:Addr×jh}(h:ls[i]? =some l):pcs (ls.take (i+1))=pcs (ls.take i)+l.2.p:=by
 rw[yk,h];show pcs (ls.take i++[l])=_;rw[ahd];unfold pcs;simp
def Yg{ls ms:RL}{d:jh}(hu:(ls.map (·.2.n)).Nodup)(e1:d.n∈ls.map (·.2.n)->ms.map (·.2)=(ls.map (·.2)).map (pG d))(e2:d.n∉ls.map (·.2.n)->(ms.map (·.2)).Perm (ls.map (·.2)++[d])):mz ms=mz ls+d.c:=by
 have fn:∀l:RL,l.map (·.2.n)=(l.map (·.2)).map jh.n:=λl=>by rw[zr];rfl
 by_cases hm:d.n∈ls.map (·.2.n)
 ·rw[nG,nG,e1 hm]
  obtain⟨q,hq,eq⟩:=zi.mp hm;rw[fn]at hu
  have c:=sJ (f:=λx=>(pG d x).c) (g:=jh.c) hu (zi.mpr ⟨q,hq,rfl⟩) λx _ aa=>by
   show(pG d x).c=x.c;unfold pG;rw[ze (λz=>aa (z.trans eq.symm))]
  rw[zr];have h2:(pG d q.2).c=q.2.c+d.c:=by unfold pG;rw[zn eq]
  have c:((ls.map (·.2)).map (jh.c∘pG d)).sum=((ls.map (·.2)).map jh.c).sum - q.2.c+(pG d q.2).c:=c;omega
 ·rw[nG,nG,La ((e2 hm).map jh.c)]
  simp
def Xq{ls:RL}{i:Nat}{l:Addr×jh}(h:ls[i]? =some l):mz (ls.take (i+1))=mz (ls.take i)+l.2.c:=by
 rw[yk,h];show mz (ls.take i++[l])=_;unfold mz;simp
inductive Ge(A:Adr)(vs:List V)(H:Hp)(Q:VK)(E:XK):Prop
 |mk (b q:Addr) (z:Str) (k:BkD) (ls:RL) (ns:List Int) (_:vs=[.ref b,.str z,.ref q]) (_:iV A H b k) (_:H q=some (.lst (jj ls))) (_:jU A H ls) (_:(∀l∈ls,1<=l.2.p/\l.2.n∈ns)) (_:Shp ns (rowOf k.rs z)) (_:ns.length<=61) (_:k.rs.length<=50) (_:∀q' ms H',Stp (k.M b) (k.M b) H H'->iV A H' b {k with rs:=keepR k.rs z q' ms}->Shp ns ms->pcs ms=pcs (rowOf k.rs z)+pcs ls->mz ms=mz (rowOf k.rs z)+mz ls->Q .non H'):Ge A vs H Q E
def nR(T:Txt K mg A D):jE P w K mg base CX0 5 A.zY D.zY ["self", "ware", "lots"] (Ge A):=by
 refine T.ab0.okv tR λ_ _ _ _ H vs Q E hr h=>?_
 ·obtain⟨b,q,z,kb,ls,ns,rfl,hB,hq,hL,an,hS,hn,hz,k⟩:=h
  refine ⟨_,(iu (iT (i:=3) tR.nd rfl orl (jq (pv 0) (mc T.adS T.afk (jF T) hr (jO T) (mc T.ad5 T.afl (jF T) hr (jO T) .nil)) jw (pav 1 iy)))
   (iu (qC yB rfl (jG (K:=K) (pv 2)) (iK (i:=4) tR.nd rfl orl)
    (iz (iT (i:=3) tR.nd rfl orl (pcg (QH T) hr T.abZ (Uq T) (pav 3 (pav 4 iy))))))
   (iz (jf (jq (pv 0) (mc T.adS T.afm (jL T) hr (jR T) (mc T.ad5 T.afn (jL T) hr (jR T) .nil)) jw (pav 1 (pav 3 iy))))))),?_⟩
  simp only[start_eq];walk_at "m";obtain⟨dx,hb⟩:=hB.i;refine md hb hB.me (by unfold BkD.fs BkD.xs;cases kb.x<;>rfl) ⟨b,z,kb,rfl,hB,λr H1 s1 ak ai aj=>?_⟩
  try dsimp only
  rw[ap_seq,ap_for];walk_at "i";refine⟨⟨_,iH (s1 _ _ hq)⟩,?_⟩
  refine wJ (K:=K) (a:=q) (xs:=jj ls) (λi σ H2=>∃(r':Addr)(v4:Option V),σ=[some (.ref b),some (.str z),some (.ref q),some (.ref r'),v4]/\Same H H2/\H r'=none/\∃ms:RL,H2 r'=some (.lst (jj ms))/\jU A H2 ms/\Shp ns ms/\pcs ms=pcs (rowOf kb.rs z)+pcs (ls.take i)/\mz ms=mz (rowOf kb.rs z)+mz (ls.take i))
   ⟨r,_,rfl,s1,ak,rowOf kb.rs z,ai,aj,hS,by unfold pcs;simp,by unfold mz;simp⟩ (λi σ H2 _ ⟨_,_,_,s,_⟩=>s.seq (iH hq)) ?_ ?_
  ·rintro i y σ H2 hi ⟨r',v4,rfl,s2,ah,ms,h2,ae,aa,ab,ad⟩
   obtain⟨l,ac,rfl⟩:=jJ hi;have ar:=aa.len;have ag:=an l (get_mem ac);walk_at "i";refine⟨r',l.1,ms,l.2,rfl,h2,ae,(hL l (get_mem ac)).same s2,by omega,aa.u,λl3 aq H3 s3 am h3 ao e1 e2=>?_⟩;obtain⟨g1,g2⟩:=Ur aa ag.1 ag.2 e1 e2;refine⟨l3,rfl,s2.trans s3,s2.free am,aq,h3,ao,g1,?_,?_⟩
   ·rw[g2,ab,Ze ac]
    omega
   ·rw[Yg aa.u e1 e2,ad,Xq ac]
    omega
  ·rintro σ H2 ⟨r',v4,rfl,s2,ah,ms,h2,ae,aa,ab,ad⟩
   have af:=hB.same s2;obtain⟨as,al⟩:=af.i;rw[iQ,yJ]at ab ad
   try dsimp only
   walk_at "i";exact md al af.me (by unfold BkD.fs BkD.xs;cases kb.x<;>rfl) ⟨b,r',z,kb,ms,rfl,af,h2,ae,hB.fresh ah,hz,λH4 o4 ap=>k r' ms H4 ((pA s2).trans o4) ap aa ab ad⟩
noncomputable def Jm(rs:RW):List (Key×V):=rs.map λt=>(Sum.inr t.1,.int (pcs t.2.2))
def YS{ns:List Int}{W:List Str}{rs:RW}(h:Mf ns W rs):Sh (Jm rs):=by
 refine⟨λkv aa=>?_,?_⟩
 ·obtain⟨t,ht,rfl⟩:=zi.mp aa
  refine⟨t.1,pcs t.2.2,rfl,?_⟩;have h1:=vC (h.n t ht).2.p;have h2:=y8.mpr (h.n t ht).1;omega
 ·unfold Jm
  rw[zr];have:((λx:Key×V=>x.1)∘λt:Str×Addr×RL=>((Sum.inr t.1:Key),V.int (pcs t.2.2)))=(λz:Str=>(Sum.inr z:Key))∘λt:Str×Addr×RL=>t.1:=rfl;rw[this,<-zr];exact yu.mpr (h.u.imp fun{a b} q e=>q (zzJ e))
theorem Nv:∀(rs:RW)(z:Str),jr (Jm rs) z=pcs (rowOf rs z)
 |[],z=>rfl
 |t::rs,z=>by
  have q:=Nv rs z;show jr ((Sum.inr t.1,V.int (pcs t.2.2))::Jm rs) z=pcs (if t.1=z then t.2.2 else rowOf rs z);by_cases e:t.1=z
  ·rw[zn e]
   unfold jr;rw[kj (by rw[e])]
  ·rw[ze e,<-q]
   unfold jr;rw[kE (λh=>e (zzJ h))]
noncomputable def ajV:Key->Str
 |.inr z=>z
 |.inl _=>Str.ofString ""
theorem LQ:∀{rs:RW}{t:Str×Addr×RL},(rs.map (·.1)).Nodup->t∈rs->rowOf rs t.1=t.2.2
 |u::rs,t,hu,q=>by
  rw[zf,yq]at hu;unfold rowOf;rcases zu.mp q with e|q
  ·rw[e,zn rfl]
  ·have:u.1≠t.1:=λe=>hu.1 (by rw[e];exact zi.mpr ⟨t,q,rfl⟩)
   rw[ze this];exact LQ hu.2 q
inductive Ec(A:Adr)(vs:List V)(H:Hp)(Q:VK)(E:XK):Prop
 |mk (b:Addr) (k:BkD) (ns:List Int) (W:List Str) (_:vs=[.ref b]) (_:iV A H b k) (_:Mf ns W k.rs) (_:W.length<=50) (_:ns.length<=61) (_:∀p kv H',Same H H'->H p=none->H' p=some (.dK kv)->Sh kv->kv.length<=50->(∀z,jr kv z=pcs (rowOf k.rs z))->Q (.ref p) H'):Ec A vs H Q E
def qP(T:Txt K mg A D):jE P w K mg base CX0 2 A.aaI D.aaI ["self"] (Ec A):=by
 refine T.acJ.okv Mu λ_ _ _ _ H vs Q E hr h=>?_
 ·obtain⟨b,q,ns,W,rfl,hB,hO,hW,hN,k⟩:=h
  refine⟨_,(iz (iM (Qj (lH (qy (K:=K) rfl) (by rfl) T.adc (by decide+kernel) (ig (jB (cap:=[none,none]) (N':=["ware", "row"]) rfl (by walk_at "c") (Rj (HY (K:=K) yQ zzW PySem.F.type_dict_items RD (fv K 0))) (λ_ _ _ _=>(nu (K:=K) (n:=2) rfl (jl (iK (i:=0) (show(["ware", "row"]:List Str).Nodup from by decide+kernel) rfl orl orr) (jl (iK (i:=1) (show(["ware", "row"]:List Str).Nodup from by decide+kernel) rfl orl orr) nA)))) (λ_ _ _ _=>jA) (λ_ _ _ _=>(lY (pav 0 (ig (pcg (Ou T) hr T.acI (QF T) (pav 1 iy)) iy))))) iy))))),?_⟩;walk_at "a";obtain⟨dx,hb⟩:=hB.i;have hC:=CQ T hB;refine rd hb hC.c hC.r (v:=.ref q.rows) (by rfl) ⟨.inr (.inr (.inl ⟨rfl,.inl ⟨_,hB.r⟩⟩)),?_⟩;refine⟨_,_,rfl,rfl,hB.r,λv hv=>⟨v,rfl,q.rows,iC,kvR q.rs,(iJ (jz hB.r hv)).trans hB.r,λo=>?_⟩⟩;have h3:(upd (upd H v (Ft v q.rows)) q.rows (.frz o (.dK (kvR q.rs)))) q.rows=some (.frz o (.dK (kvR q.rs))):=iC;have o3:∀a o',a≠q.rows->H a=some o'->(upd (upd H v (Ft v q.rows)) q.rows (.frz o (.dK (kvR q.rs)))) a=some o':=λa o' ai h=>(iJ ai).trans (iG hv _ _ h);generalize upd (upd H v (Ft v q.rows)) q.rows (.frz o (.dK (kvR q.rs)))=H3 at h3 o3⊢
  have ag:Kf A H3 q.rs:=λt ht=>⟨o3 _ _ (hB.ner (hB.frz.l t ht).1 λ_ c=>by cases c) (hB.frz.l t ht).1,λl hl=>by
   obtain⟨dy,hy⟩:=(hB.frz.l t ht).2 l hl;exact⟨dy,o3 _ _ (hB.ner hy λ_ c=>by cases c) hy⟩⟩
  have aj:(kvR q.rs).length=q.rs.length:=by unfold kvR;rw[za]
  have hz:q.rs.length<=50:=yw hO.len hW;refine jZ.itemsF (λσ=>∃a b,σ=[a,b]) (λ_=>true) (λkv v H'=>∃b,v=.ref b/\H' b=some (.tup [kV kv.1,.int (pcs (rowOf q.rs (ajV kv.1)))])) h3 ⟨_,_,rfl⟩ (by rw[aj,zv];omega) ?_ ?_
  ·rintro D i kv z σ H5 p R1 R2 ⟨_,_,rfl⟩ s5 hD ⟨acc,hA⟩ hp k1 k2
   obtain ⟨t,ht,rfl⟩:∃t,q.rs[i]? =some t/\kv=(Sum.inr t.1,.ref t.2.1):=by
    unfold kvR at z;rw[zh]at z
    cases e:q.rs[i]? with
    |none=>rw[e]at z;cases z
    |some t=>rw[e]at z;exact⟨t,rfl,(zw z).symm⟩
   have ab:=zq ht;have s6:=iG (o:=.tup [kV (Sum.inr t.1),.ref t.2.1]) hp;have h6:(upd H5 p (.tup [kV (Sum.inr t.1),.ref t.2.1])) p=some (.tup [.str t.1,.ref t.2.1]):=iC;have ae:=s6 _ _ hA;have aa:=(ag.same s5).same s6 t ab;generalize upd H5 p (.tup [kV (Sum.inr t.1),.ref t.2.1])=H6 at h6 ae aa k1 k2⊢;walk_at "i";refine⟨_,jt h6,rfl,_,_,rfl,_,_,rfl,rfl,t.2.1,t.2.2,rfl,aa.1,aa.2,by have:=(hO.n t ab).2.len;omega,λH7 s7=>?_⟩;refine⟨sz,λu hu=>k1 rfl _ _ _ ⟨_,_,rfl⟩ (s7.trans (iG hu)) λH' hb=>⟨u,rfl,?_⟩⟩;have e1:rowOf q.rs (ajV (Sum.inr t.1))=t.2.2:=LQ hO.u ab;have ep:((t.2.2.map (·.2)).map jh.p).sum=pcs t.2.2:=by unfold pcs;rw[zr];rfl
   rw[e1,<-ep];exact hb _ _ (λe=>by rw[e,s7 _ _ ae]at hu;cases hu) iC
  ·intro D H4 acc hD s4 hA ad hF
   have ah:(kvR q.rs).filter (λ_=>true)=kvR q.rs:=yyk.mpr λ_ _=>rfl;rw[ah]at ad hF;have ak:(Jm q.rs).length=q.rs.length:=by unfold Jm;rw[za]
   have hF':∀(i:Nat) v,acc[i]? =some v->∃kv,(Jm q.rs)[i]? =some kv/\∃b,v=.ref b/\H4 b=some (.tup [kV kv.1,kv.2]):=λi v hv=>by
    obtain⟨kv,h1,b,h2,h4⟩:=hF i v hv;unfold kvR at h1;rw[zh]at h1
    cases e:q.rs[i]? with
    |none=>rw[e]at h1;cases h1
    |some t=>
     rw[e]at h1;cases h1;have e1:rowOf q.rs (ajV (Sum.inr t.1))=t.2.2:=LQ hO.u (zq e);rw[e1]at h4;exact⟨(Sum.inr t.1,.int (pcs t.2.2)),by unfold Jm;rw[zh,e];rfl,b,h2,h4⟩
   have hH:=YS hO;rw[ap_dictPairs];refine⟨acc,kfD H4,vfD H4,iH hA,by omega,λy hy=>?_,λp hp=>?_⟩
   ·obtain⟨i,hi,e⟩:=yC hy
    obtain⟨kv,_,b,rfl,hb⟩:=hF' i y (by rw[zg hi,e]);exact⟨b,rfl,by rw[XS hb,Wz hb];exact jt hb⟩
   ·rw[Vi (by omega) hF' hH.u]
    have s5:=s4.trans (iG (o:=.dK (Jm q.rs)) hp);have ac:p≠q.rows:=λe=>by rw[e,s4 _ _ h3]at hp;cases hp
    have af:H p=none:=by
     cases e:H p with
     |none=>rfl
     |some o'=>rw[s4 _ _ (o3 _ _ ac e)]at hp;cases hp
    refine⟨q.rows,o,kvR q.rs,s5 _ _ h3,λo u e=>?_,k p (Jm q.rs) _ (λa o' h=>?_) af ((iJ ac).trans iC) hH (by omega) (Nv q.rs)⟩
    ·have e:H q.rows=some (.frz o u):=e
     rw[hB.r]at e;cases e
    ·by_cases c:a=q.rows
     ·rw[c,hB.r]at h
      rw[c,iC];exact h
     ·rw[iJ c]
      exact s5 _ _ (o3 _ _ c h)
inductive uy(A:Adr)(vs:List V)(H:Hp)(Q:VK)(E:XK):Prop
 |mk (b x:Addr) (k:BkD) (ns:List Int) (W:List Str) (d n m f:Int) (w:Str) (_:vs=[.ref b,.ref x]) (_:iV A H b k) (_:IsE A H x (.split d n w m f)) (_:Mo m f) (_:Mf ns W k.rs) (_:W.length<=50) (_:ns.length<=61) (_:(rowOf k.rs w=[]\/1<=pcs (rowOf k.rs w)*m/f)) (_:∀q ms H',Stp (k.M b) (k.M b) H H'->iV A H' b {k with rs:=keepR k.rs w q ms}->Shp ns ms->pcs ms=pcs (rowOf k.rs w)*m/f->mz ms=mz (rowOf k.rs w)->Q .non H'):uy A vs H Q E
def uz(T:Txt K mg A D):jE P w K mg base CX0 5 A.aav D.aav ["self", "entry"] (uy A):=by
 refine T.acw.okv Fx λ_ _ _ _ H vs Q E hr h=>?_
 ·obtain⟨b,x,kb,ns,W,d,n,m,f,w,rfl,z,⟨dx,nv,hx,_⟩,hM,hO,hW,hN,hp,k⟩:=h
  refine⟨_,(iz (jf (jq (pv 0) (mc T.adS T.afm (jL T) hr (jR T) (mc T.ad5 T.afn (jL T) hr (jR T) .nil)) jw (ig (fv K 1) (ig (pcg (Ox T) hr T.acv (Qx T) (ig (jq (pv 0) (mc T.adS T.afk (jF T) hr (jO T) (mc T.ad5 T.afl (jF T) hr (jO T) .nil)) jw (ig (fv K 1) iy)) (ig (fv K 1) (ig (fv K 1) iy)))) iy))))),?_⟩;walk_at "a";obtain⟨db,hb⟩:=z.i;have hl:=(hO.row w).len;have hz:=hO.len;refine md hb z.me (by unfold BkD.fs BkD.xs;cases kb.x<;>rfl) (rd hx T.aeR T.aeV (by rfl) (md hb z.me (by unfold BkD.fs BkD.xs;cases kb.x<;>rfl) (rd hx T.aeR T.aeV (by rfl) ⟨b,w,kb,rfl,z,λr H1 s1 ak ab ac=>?_⟩)));have aa:=s1 _ _ hx;refine rd aa T.aeR T.aeW (by rfl) (rd aa T.aeR T.aeX (by rfl) ⟨r,rowOf kb.rs w,m,f,ns,rfl,ab,ac,by omega,hM,hO.row w,hp,λq ms H2 s2 hq af ag ah ad ae=>?_⟩);have S2:=s1.trans s2;have aj:=z.same S2;exact⟨b,q,w,kb,ms,rfl,aj,af,ag,z.fresh (s1.free hq),by omega,λH3 o3 ai=>k q ms H3 ((pA S2).trans o3) ai ah ad ae⟩
theorem iV.day{H:Hp}{b:Addr}{k:BkD}(h:iV A H b k){x C dx:Addr}{fs:List (Str×V)}{v:V}(q:H x=some (.ins C dx ((Str.ofString "day",v)::fs))):xG H (k.M b) x=some (.ins C dx ((Str.ofString "day",v)::fs)):=tK q λc=>by
 obtain⟨o,e,c⟩:=h.own c;rw[q]at e;obtain rfl:=zw e;rcases c with⟨_,c⟩|⟨_,c⟩|⟨_,c⟩
 ·injection c with _ _ c
  exact absurd (Prod.mk.inj (zzD c).1).1 (by decide+kernel)
 ·cases c
 ·cases c
def Wo{s t:Int}{ls q z:RL}(e1:q.map (·.2)=(ls.map (·.2)).map (rst s t))(e2:z.map (·.2)=(ls.map (·.2)).map (prt s t)):mz q+mz z=mz ls:=by
 rw[nG,nG,nG,e1,e2];generalize ls.map (·.2)=ds
 induction ds with
 |nil=>rfl
 |cons d ds ih=>
  simp only[zf,yn];have:(rst s t d).c+(prt s t d).c=d.c:=by unfold rst prt;simp only[];omega
  omega
inductive qI(A:Adr)(vs:List V)(H:Hp)(Q:VK)(E:XK):Prop
 |mk (b x:Addr) (k:BkD) (ns:List Int) (W:List Str) (d n s t:Int) (w u:Str) (_:vs=[.ref b,.ref x]) (_:iV A H b k) (_:IsE A H x (.part d n w u s t)) (_:Shr s t) (_:w≠u) (_:w∈W) (_:Mf ns W k.rs) (_:W.length<=50) (_:ns.length<=61) (_:∀q1 l1 q ms H',Stp (k.M b) (k.M b) H H'->iV A H' b {k with rs:=keepR (keepR k.rs w q1 l1) u q ms}->Shp ns l1->pcs l1=pcs (rowOf k.rs w)->Shp ns ms->pcs ms=pcs (rowOf k.rs u)+pcs (rowOf k.rs w)->mz l1+mz ms=mz (rowOf k.rs w)+mz (rowOf k.rs u)->Q .non H'):qI A vs H Q E
def qQ(T:Txt K mg A D):jE P w K mg base CX0 6 A.aax D.aax ["self", "entry"] (qI A):=by
 refine T.acy.okv qJ λ_ _ _ _ H vs Q E hr h=>?_
 ·obtain⟨b,x,z,ns,W,d,n,s,t,w,u,rfl,hB,⟨dx,nv,hx,_⟩,hs,al,hw,hO,hW,hN,k⟩:=h
  refine ⟨_,(iu (iT (i:=2) qJ.nd rfl orl (pcg (Ku T) hr T.acx (Nr T) (ig (jq (pv 0) (mc T.adS T.afk (jF T) hr (jO T) (mc T.ad5 T.afl (jF T) hr (jO T) .nil)) jw (ig (fv K 1) iy)) (ig (fv K 1) (ig (fv K 1) iy)))))
   (iu (jf (jq (pv 0) (mc T.adS T.afm (jL T) hr (jR T) (mc T.ad5 T.afn (jL T) hr (jR T) .nil)) jw (ig (fv K 1) (ig (jm (iW (K:=K)) (pvD 2) iB (λ_ _=>rfl)) iy))))
   (iz (jf (jq (pv 0) (mc T.adS T.afq (nR T) hr (pK T) (mc T.ad5 T.afr (nR T) hr (pK T) .nil)) jw (ig (fv K 1) (ig (jm (iW (K:=K)) (pvD 2) iB (λ_ _=>rfl)) iy))))))),?_⟩
  obtain⟨db,hb⟩:=hB.i;have hl:=(hO.row w).len;have hz:=hO.len;simp only[start_eq];walk_at "m";refine md hb hB.me (by unfold BkD.fs BkD.xs;cases z.x<;>rfl) (rd hx T.aeY T.ae2 (by rfl) ⟨b,w,z,rfl,hB,λr H1 s1 ay aj ak=>?_⟩);have ah:=s1 _ _ hx;refine rd ah T.aeY T.ae4 (by rfl) (rd ah T.aeY T.ae5 (by rfl) ⟨r,rowOf z.rs w,s,t,rfl,aj,ak,by omega,hs,λtt q1 q2 l1 l2 H2 s2 an ao ba ht h1 h2 av as e1 e2=>?_⟩);have S2:=s1.trans s2;have aa:=hB.same S2;obtain⟨bb,am⟩:=aa.i;have ae:=S2 _ _ hx;have m1:Sim (rowOf z.rs w) l1:=VR (f:=rst s t) (λd=>⟨rfl,rfl⟩) e1;have m2:Sim (rowOf z.rs w) l2:=VR (f:=prt s t) (λd=>⟨rfl,rfl⟩) e2;have af:=m1.shp (hO.row w);have ag:=m2.shp (hO.row w);walk_at "m";refine md am aa.me (by unfold BkD.fs BkD.xs;cases z.x<;>rfl) (rd ae T.aeY T.ae2 (by rfl) ⟨_,jt ht,_,rfl,b,q1,w,z,l1,rfl,aa,h1,av,hB.fresh (s1.free an),by omega,λH3 o3 ab=>?_⟩);have G:Same (xG H2 (z.M b)) H3:=λa o h=>rP _ _ (o3.same _ _ h);have ai:=G _ _ (aa.tup ht);have aq:=G _ _ (tK h2 (hB.fresh (s1.free ao)));have ap:=jU.same (aa.lots as) G;have au:=G _ _ (aa.day ae);obtain⟨az,aw⟩:=ab.i;have ac:=hO.keep hw (q:=q1) af;have ax:=ac.len;have ad:rowOf (keepR z.rs w q1 l1) u=rowOf z.rs u:=by rw[pL,ze (λc=>al c.symm)]
  exact md aw ab.me (by unfold BkD.fs BkD.xs;cases z.x<;>rfl) (rd au T.aeY T.ae3 (by rfl) ⟨_,jt ai,_,rfl,b,q2,u,_,l2,ns,rfl,ab,aq,ap,λl hl=>⟨ag.p l hl,ag.m l hl⟩,ac.row u,hN,(show(keepR z.rs w q1 l1).length<=50 by omega),λq' ms H4 o4 ar g1 g2 gc=>k q1 l1 q' ms H4 ((pA S2).trans (o3.trans o4)) ar af m1.pcs g1 (by rw[g2,m2.pcs];show pcs (rowOf (keepR z.rs w q1 l1) u)+_=_;rw[ad]) (by have gc:mz ms=mz (rowOf (keepR z.rs w q1 l1) u)+mz l2:=gc;rw[ad]at gc;have:=Wo e1 e2;omega)⟩)
def Ss(k:BkD):k.fs.length<1000:=by unfold BkD.fs BkD.xs;cases k.x<;>simp
def Mt(k:BkD)(i:Int):CN (Str.ofString "brought") (.int i) k.fs={k with brought:=i}.fs:=by cases k;rfl
def Yj(k:BkD)(i:Int):CN (Str.ofString "paid") (.int i) k.fs={k with paid:=i}.fs:=by cases k;rfl
def akt{H:Hp}{y:Addr}{d:jh}(h:lO A H y d):jU A H [(y,d)]:=λl q=>by rw[zx.mp q];exact h
inductive uZ(A:Adr)(vs:List V)(H:Hp)(Q:VK)(E:XK):Prop
 |mk (b x:Addr) (k:BkD) (ns:List Int) (W:List Str) (d n p c s:Int) (w:Str) (_:vs=[.ref b,.ref x]) (_:iV A H b k) (_:IsE A H x (.gift d n w p c s)) (_:1<=p) (_:n∈ns) (_:Mf ns W k.rs) (_:W.length<=50) (_:ns.length<=61) (_:∀q ms H',Stp (k.M b) (k.M b) H H'->iV A H' b {k with rs:=keepR k.rs w q ms,brought:=k.brought+c}->Shp ns ms->pcs ms=pcs (rowOf k.rs w)+p->mz ms=mz (rowOf k.rs w)+c->Q .non H'):uZ A vs H Q E
def vX(T:Txt K mg A D):jE P w K mg base CX0 6 A.aaa D.aaa ["self", "entry"] (uZ A):=by
 refine T.aca.okv Il λ_ _ _ _ H vs Q E hr h=>?_
 ·obtain⟨b,x,kb,ns,W,d,n,p,c,s,w,rfl,hB,⟨dx,nv,hx,_⟩,hp,hn,hO,hW,hN,k⟩:=h
  refine ⟨_,(iu (jf (jq (pv 0) (mc T.adS T.afq (nR T) hr (pK T) (mc T.ad5 T.afr (nR T) hr (pK T) .nil)) jw (ig (fv K 1) (ig (jX (ig (lD T.ae6 (jH (K:=K) T) (hr.mono (by decide)) (by rfl) T.adv (jM T) .nil jw (ig (fv K 1) (ig (fv K 1) (ig (fv K 1) (ig (fv K 1) iy))))) iy)) iy))))
   (iz (jk (K:=K) (pv 0) (iZ jD (fv K 0) (fv K 1)) rfl))),?_⟩
  obtain⟨db,hb⟩:=hB.i;have hz:=hO.len;simp only[start_eq];walk_at "m";refine md hb hB.me (by unfold BkD.fs BkD.xs;cases kb.x<;>rfl) (rd hx T.aez T.aeD (by rfl) (rd hx T.aez T.aeC (by rfl) (rd hx T.aez T.aeG (by rfl) (rd hx T.aez T.aeE (by rfl) (rd hx T.aez T.aeF (by rfl) (λy dy hy af _=>?_))))));refine pB (A:=A) ⟨n,s,p,c⟩ hy af λH1 s1 hL=>⟨sz,λq hq=>?_⟩;have s2:=s1.trans (iG (o:=.lst [.ref y]) hq);have ab:(upd H1 q (.lst [.ref y])) q=some (.lst (jj [(y,⟨n,s,p,c⟩)])):=iC;have ac:=hL.same (iG (o:=.lst [.ref y]) hq);generalize upd H1 q (HO.lst [.ref y])=H2 at s2 ab ac⊢;have ae:=hB.same s2;refine⟨b,q,w,kb,[(y,⟨n,s,p,c⟩)],ns,rfl,ae,ab,akt ac,λl hl=>by rw[zx.mp hl];exact⟨hp,hn⟩,hO.row w,hN,by omega,λq' ms H3 o3 aa g1 g2 gc=>?_⟩;have G:Same (xG H2 (kb.M b)) H3:=λa o h=>rP _ _ (o3.same _ _ h);have ah:=G _ _ (ae.day (s2 _ _ hx));obtain⟨ag,ad⟩:=aa.i;have z:=CQ T aa
  try dsimp only
  refine rd ad z.c z.b (by rfl) (rd ah T.aez T.aeF (by rfl) ⟨_,rfl,_,rfl,_,ag,_,ad,z.c,z.b,Ss _,?_⟩);rw[Mt];exact k q' ms _ ((pA s2).trans (o3.trans (rH BkD.mb))) (aa.put (la:=kb.last) (pa:=kb.paid) (br:=kb.brought+c) aa.z.p) g1 (by rw[g2];unfold pcs;simp) (by rw[gc];unfold mz;simp)
noncomputable def Tk(e:Ent)(w:Str)(p:Int):Prop:=∃d n r f,e=.sell d n w p r f none
def ajR(T:Txt K mg A D){H:Hp}{x:Addr}{e:Ent}{w:Str}{p:Int}(h:IsE A H x e)(z:Tk e w p):∃C dx v fs,H x=some (.ins C dx ((Str.ofString "day",v)::fs))/\Cls K C/\iU K C "ware" /\iU K C "pieces" /\iU K C "named" /\
  List.lookup (Str.ofString "ware") ((Str.ofString "day",v)::fs)=some (.str w)/\List.lookup (Str.ofString "pieces") ((Str.ofString "day",v)::fs)=some (.int p)/\List.lookup (Str.ofString "named") ((Str.ofString "day",v)::fs)=some .non:=by
 obtain⟨dx,nv,q,hn⟩:=h;obtain⟨d,n,r,f,rfl⟩:=z;have hn:nv=.non:=hn;subst hn;exact⟨_,dx,_,_,q,T.aeH,T.aeL,T.aeM,T.aeP,by rfl,by rfl,by rfl⟩
inductive rT(A:Adr)(vs:List V)(H:Hp)(Q:VK)(E:XK):Prop
 |mk (b x Cw dw:Addr) (k:BkD) (ns:List Int) (W:List Str) (e:Ent) (w:Str) (p:Int) (_:vs=[.ref b,.ref x]) (_:iV A H b k) (_:H k.way=some (.ins Cw dw [])) (_:RT A Cw) (_:IsE A H x e) (_:Tk e w p) (_:Mf ns W k.rs) (_:W.length<=50) (_:ns.length<=61) (_:1<=p) (_:p<=pcs (rowOf k.rs w)) (_:pcs (rowOf k.rs w)<=1000000000) (_:∀la l1 q ms H',Stp (k.M b) (k.M b) H H'->iV A H' b {k with rs:=keepR k.rs w q ms}->H la=none->H' la=some (.lst (jj l1))->jU A H' l1->Shp ns l1->pcs l1=p->l1≠[]->Shp ns ms->pcs ms=pcs (rowOf k.rs w) - p->mz l1+mz ms=mz (rowOf k.rs w)->Q (.ref la) H'):rT A vs H Q E
def su(T:Txt K mg A D):jE P w K mg base CX0 6 A.aar D.aar ["self", "entry"] (rT A):=by
 refine T.acs.okv sE λ_ _ _ _ H vs Q E hr h=>?_
 ·obtain⟨b,x,Cw,dw,z,ns,W,e,w,p,rfl,hB,hw,ab,af,he,hO,hW,hN,aj,ac,ae,k⟩:=h
  obtain⟨C,dx,v,fs,hx,c0,c1,c2,c3,f1,f2,f3⟩:=ajR T af he
  refine ⟨_,(iu (Ud ((iz (iT (i:=2) sE.nd rfl orl (pcg (Mg T) hr T.acr (Px T) (ig (fv K 0) (ig (jq (pv 0) (mc T.adS T.afk (jF T) hr (jO T) (mc T.ad5 T.afl (jF T) hr (jO T) .nil)) jw (ig (fv K 1) iy)) (ig (fv K 1) (ig (fv K 1) iy)))))))))
   (iu (jf (jq (pv 0) (mc T.adS T.afm (jL T) hr (jR T) (mc T.ad5 T.afn (jL T) hr (jR T) .nil)) jw (ig (fv K 1) (ig (jm (iW (K:=K)) (pvD 2) iB (λ_ _=>rfl)) iy))))
   (iz (iM (jm (iW (K:=K)) (pvD 2) iB (λ_ _=>rfl)))))),?_⟩
  simp only[start_eq];walk_at "m";obtain⟨db,hb⟩:=hB.i;have hC:=CQ T hB;have hz:=hO.len;refine rd hb hC.c hC.w (by rfl) (md hb hB.me (by unfold BkD.fs BkD.xs;cases z.x<;>rfl) (rd hx c0 c1 f1 ⟨b,w,z,rfl,hB,λl H1 s1 ak h1 ah=>?_⟩));have aa:=s1 _ _ hx;refine rd aa c0 c2 f2 (rd aa c0 c3 f3 ⟨z.way,Cw,dw,l,ns,rowOf z.rs w,p,rfl,s1 _ _ hw,ab,h1,ah,hO.row w,by omega,ae,aj,ac,λt la lb l1 l2 H2 s2 ht h5 h6 h7 h8 g1 g2 g3 g4 g5 gc g6 g7 g8=>?_⟩);have S2:=s1.trans s2;have q:=hB.same S2;obtain⟨al,ad⟩:=q.i;have ag:=s2 _ _ aa;walk_at "m";refine md ad q.me (by unfold BkD.fs BkD.xs;cases z.x<;>rfl) (rd ag c0 c1 f1 ⟨_,jt ht,.ref lb,rfl,b,lb,w,z,l2,rfl,q,h6,h8,hB.fresh (s1.free g7),by omega,λH3 o3 ai=>?_⟩);have G:Same (xG H2 (z.M b)) H3:=λa o h=>rP _ _ (o3.same _ _ h);exact⟨_,jt (G _ _ (q.tup ht)),.ref la,rfl,k la l1 lb l2 H3 ((pA S2).trans o3) ai (s1.free g6) (G _ _ (tK h5 (hB.fresh (s1.free g6)))) (jU.same (q.lots h7) G) g1 g2 g3 g4 g5 gc⟩
inductive vJ(A:Adr)(vs:List V)(H:Hp)(Q:VK)(E:XK):Prop
 |mk (b x Cw dw:Addr) (k:BkD) (ns:List Int) (W:List Str) (d n p r f:Int) (w:Str) (_:vs=[.ref b,.ref x]) (_:iV A H b k) (_:H k.way=some (.ins Cw dw [])) (_:RT A Cw) (_:IsE A H x (.sell d n w p r f none)) (_:Mf ns W k.rs) (_:W.length<=50) (_:ns.length<=61) (_:1<=p) (_:p<=pcs (rowOf k.rs w)) (_:pcs (rowOf k.rs w)<=1000000000) (_:k.sl.length<=100) (_:∀y s q ms H',Stp (k.M b) (k.M b) H H'->iV A H' b {k with rs:=keepR k.rs w q ms,sl:=k.sl++[(y,s)]}->s.n=n->s.d=d->s.w=w->s.lo=none->(s.ps.map λr=>r.2.2).sum=s.pr->s.pr=p*r - f->Shp ns ms->pcs ms=pcs (rowOf k.rs w) - p->s.co+mz ms=mz (rowOf k.rs w)->Q .non H'):vJ A vs H Q E
def vY(T:Txt K mg A D):jE P w K mg base CX0 7 A.aas D.aas ["self", "entry"] (vJ A):=by
 refine T.act.okv Gy λ_ _ _ _ H vs Q E hr h=>?_
 ·obtain⟨b,x,Cw,dw,z,ns,W,d,n,p,r,f,w,rfl,hB,hw,ac,hx,hO,hW,hN,aj,ae,af,am,k⟩:=h
  refine⟨_,(iz (jf (vD (K:=K) yt yy yz mH (fv K 0) (ig (pcg (UL T) hr T.acf (Wn T) (pav 1 (ig (jq (pv 0) (mc T.adS T.afE (su T) hr (uw T) (mc T.ad5 T.afF (su T) hr (uw T) .nil)) jw (pav 1 iy)) iy))) iy)))),?_⟩;obtain⟨db,hb⟩:=hB.i;have hC:=CQ T hB;walk_at "a";refine rd hb hC.c hC.s (v:=.ref z.sales) (by rfl) ⟨tyL (iH hB.s),?_⟩;refine md hb hB.me (by unfold BkD.fs BkD.xs;cases z.x<;>rfl) ⟨b,x,Cw,dw,z,ns,W,_,w,p,rfl,hB,hw,ac,hx,⟨d,n,r,f,rfl⟩,hO,hW,hN,aj,ae,af,λla l1 q ms H1 o1 ab al h1 ah g1 g2 g3 g4 g5 gc=>?_⟩;have G:Same (xG H (z.M b)) H1:=λa o h=>rP _ _ (o1.same _ _ h);have ai:IsE A H1 x (.sell d n w p r f none):=let⟨dx,nv,e,c⟩:=hx;⟨dx,nv,G _ _ (hB.day e),c⟩
  have ak:=g1.len;refine⟨x,la,d,n,p,r,f,w,none,l1,rfl,ai,h1,ah,g3,by omega,g1.p,by omega,λy s H2 s2 hy ad hS e1 e2 e3 e4 e5 e6 e7=>?_⟩;have aa:=ab.same s2;have ag:=aa.sal hS (ab.fresh ad);have hE:=aa.sale ag;show Lx (V.ref z.sales) [V.ref y] H2 _;rw[ap_append];refine⟨_,aa.s,?_,?_⟩
  ·unfold Ff
   rw[za,zv];show z.sl.length<_;omega
  rw[show Ff z.sl++[V.ref y]=Ff (z.sl++[(y,s)]) by unfold Ff;rw[zp];rfl];exact k y s q ms _ (o1.trans ((pA s2).trans (rH BkD.ms))) hE e1 e2 e3 e5 e7 e4 g4 g5 (by rw[<-gc];congr 1;unfold jx.co;rw[nG,<-e6,zr];rfl)
inductive vQ(A:Adr)(vs:List V)(H:Hp)(Q:VK)(E:XK):Prop
 |mk (x:Addr) (s:jx) (n:Int) (_:vs=[.ref x,.int n]) (_:kO A H x s) (_:∀y pl H',Same H H'->H y=none->H pl=none->kO A H' y {s with pl:=pl,lo:=some n}->Q (.ref y) H'):vQ A vs H Q E
def Hj(T:Txt K mg A D):jE P w K mg base CX0 3 A.z7 D.z7 ["sale", "number"] (vQ A):=by
 refine T.ab7.F.okv HJ λ_ _ _ _ H vs Q E hr h=>?_
 ·obtain⟨x,s,n,rfl,q,k⟩:=h
  refine⟨_,(iz (iM (lD T.ae7 (oZ (K:=K) T) (hr.mono (by decide)) (by rfl) T.adx (pU T) .nil jw (ig (fv K 0) (ig (fv K 0) (ig (fv K 0) (ig (fv K 0) (ig (fv K 0) (pav 1 iy))))))))),?_⟩;obtain⟨dx,hi⟩:=q.i;walk_at "a";refine rd hi T.aef T.aeg (by rfl) (rd hi T.aef T.aeh (by rfl) (rd hi T.aef T.aei (by rfl) (rd hi T.aef T.aej (by rfl) (rd hi T.aef T.aek (by rfl) (λy dy hy z _=>?_)))));exact⟨y,s.pl,s.n,s.d,s.pr,s.w,some n,s.ps,H,dy,rfl,ql hy z,q.p,q.t,q.l,λpl H' s' aa hS=>⟨rfl,k y pl H' s' hy aa hS⟩⟩
noncomputable def jx.opn(s:jx):Bool:=decide (s.lo=none) && decide (s.pr - s.co<0)
inductive vA(A:Adr)(vs:List V)(H:Hp)(Q:VK)(E:XK):Prop
 |mk (x:Addr) (s:jx) (_:vs=[.ref x]) (_:kO A H x s) (_:∀H',Same H H'->Q (.bl s.opn) H'):vA A vs H Q E
def Gs(T:Txt K mg A D):jE P w K mg base CX0 3 A.z4 D.z4 ["sale"] (vA A):=by
 refine T.ab4.F.okv HF λ_ _ _ _ H vs Q E z h=>?_
 ·obtain⟨x,s,rfl,q,k⟩:=h
  refine⟨_,(iz (iM (Ka (rO (Gd) (fv K 0) mJ (iY _)) (Rn (rO (Mi) (lG (pv 0) (mc T.aef T.afo (oJ T) z (qu T) .nil) jw) iB (iY _)))))),?_⟩;obtain⟨dx,hi⟩:=q.i;walk_at "a";refine rd hi T.aef T.ael (v:=loV s.lo) (by rfl) (?_);unfold jx.opn at k
  cases e:s.lo with
  |none=>
   rw[zn (show loV none=V.non from rfl)];rw[e,yf rfl,Bool.true_and]at k;exact md hi zm (by rfl) ⟨x,s,rfl,q,λH' s'=>⟨_,rfl,k H' s'⟩⟩
  |some i=>
   rw[ze (show¬loV (some i)=V.non from λc=>by cases c)];rw[e,ym (λc=>by cases c),yym]at k;exact k H (same_refl _)
noncomputable def Oa(s:jx)(w:Str)(d g:Int):Bool:=s.opn && (decide (s.w=w) && decide (d - s.d<=g))
inductive jY(A:Adr)(vs:List V)(H:Hp)(Q:VK)(E:XK):Prop
 |mk (b x y:Addr) (k:BkD) (g:Int) (la:Addr) (zs:LY) (s:jx) (d n p r f:Int) (w:Str) (_:vs=[.ref b,.ref x,.ref y]) (_:iV A H b k) (_:k.x=some (g,la,zs)) (_:IsE A H x (.buy d n w p r f)) (_:kO A H y s) (_:∀H',Same H H'->Q (.bl (Oa s w d g)) H'):jY A vs H Q E
def nJ(T:Txt K mg A D):jE P w K mg base CX0 4 A.z5 D.z5 ["self", "entry", "sale"] (jY A):=by
 refine T.ab5.okv uV λ_ _ _ _ H vs Q E hr h=>?_
 ·obtain⟨b,x,y,kb,g,la,zs,s,d,n,p,r,f,w,rfl,hB,hk,⟨dx,nv,hx,_⟩,hy,k⟩:=h
  refine⟨_,(iz (iM (Ka (pcg (Gs T) hr T.ab4 (Jk T) (pav 2 iy)) (Ka (rO (lu) (fv K 2) (fv K 1) (iY _)) (Rn (rO (ahz) (iZ pX (fv K 1) (fv K 2)) (fv K 0) (iY _))))))),?_⟩;walk_at "a";refine⟨y,s,rfl,hy,λH1 q=>?_⟩;refine⟨_,rfl,?_⟩;unfold Oa at k;obtain⟨dy,hi⟩:=hy.i;have aa:=q _ _ hi;have ab:=q _ _ hx
  cases e:s.opn with
  |false=>
   rw[ze (by decide)];rw[e,yym]at k;exact k H1 q
  |true=>
   rw[zn rfl];rw[e,Bool.true_and]at k;refine rd aa T.aef T.aei (by rfl) (rd ab T.aeq T.aeu (by rfl) ⟨rfl,?_⟩);by_cases c:s.w=w
   ·rw[zn (by rw[c])]
    rw[yf c,Bool.true_and]at k;obtain⟨db,hb⟩:=(hB.same q).i;rcases hB.c with⟨_,c2⟩|⟨c1,_⟩
    ·rw[hk]at c2;cases c2
    ·refine rd ab T.aeq T.aes (by rfl) (rd aa T.aef T.aeh (by rfl) ⟨_,rfl,_,rfl,rd hb (by rw[c1];exact T.ad5) (by rw[c1];exact T.aed) (v:=.int g) (by unfold BkD.fs BkD.xs;rw[hk];rfl) (?_)⟩)
     exact⟨_,rfl,k H1 q⟩
   ·rw[ze (λz=>c (V.str.inj z))]
    rw[ym c,yym]at k;exact k H1 q
noncomputable def tD{α:Type}(P:α->V->Prop):List α->List V->Prop
 |[],[]=>True
 |y::ys,v::vs=>P y v/\tD P ys vs
 |[],_::_=>False
 |_::_,[]=>False
theorem tD.snoc{α:Type}{P:α->V->Prop}:∀{ys:List α}{vs:List V}{y:α}{v:V},tD P ys vs->P y v->tD P (ys++[y]) (vs++[v])
 |[],[],_,_,_,p=>⟨p,trivial⟩
 |_::_,_::_,_,_,h,p=>⟨h.1,tD.snoc h.2 p⟩
 |[],_::_,_,_,h,_=>h.elim
 |_::_,[],_,_,h,_=>h.elim
theorem tD.imp{α:Type}{P R:α->V->Prop}:∀{ys:List α}{vs:List V},tD P ys vs->(∀y v,P y v->R y v)->tD R ys vs
 |[],[],_,_=>trivial
 |_::_,_::_,h,f=>⟨f _ _ h.1,tD.imp h.2 f⟩
 |[],_::_,h,_=>h.elim
 |_::_,[],h,_=>h.elim
theorem tD.len{α:Type}{P:α->V->Prop}:∀{ys:List α}{vs:List V},tD P ys vs->vs.length=ys.length
 |[],[],_=>rfl
 |_::_,_::_,h=>congrArg (·+1) (tD.len h.2)
 |[],_::_,h=>h.elim
 |_::_,[],h=>h.elim
theorem tD.map{α:Type}{f:α->V}:∀{ys:List α}{vs:List V},tD (λy v=>v=f y) ys vs->vs=ys.map f
 |[],[],_=>rfl
 |_::_,_::_,h=>by rw[zf,<-tD.map h.2,h.1]
 |[],_::_,h=>h.elim
 |_::_,[],h=>h.elim
def tD.ints{α:Type}{f:α->Int}{ys:List α}{vs:List V}(h:tD (λy v=>v=.int (f y)) ys vs):vs=(ys.map f).map V.int:=by rw[tD.map h,zr];rfl
def filter_all{α:Type}(l:List α):l.filter (λ_=>true)=l:=yyk.mpr λ_ _=>rfl
def Xe{α:Type}{f:α->V}{ys:List α}{a:Addr}{cap:List (Option Nat)}{g:TG}{tt:TT}{te:TE}{σ:L2.St}{H:Hp}{Q:VK}(Sσ:L2.St->Prop)(ab:α->Bool)(F:Addr->α->V->Hp->Prop)(hS:SqL K H a (ys.map f))(h0:Sσ (pI σ cap))(hz:ys.length<=100000)
  (hs:∀D y,y∈ys->∀(σ:L2.St)(H5:Hp)(R1:L2.St->VK)(R2:L2.St->Hp->Prop),Sσ σ->Same H H5->H D=none->(∃acc,H5 D=some (.lst acc))->(ab y=true->∀v z H6,Sσ z->Same H5 H6->(∀H',But D H6 H'->F D y v H')->R1 z v H6)->(ab y=false->∀z H6,Sσ z->Same H5 H6->R2 z H6)->g (f y) σ H5 λz H4=>tt z H4 λb H5=>if b=true then te z H5 (R1 z)else R2 z H5)
  (k:∀D H' acc,H D=none->Same H H'->H' D=some (.lst acc)->tD (λy v=>F D y v H') (ys.filter ab) acc->Q (.ref D) H'):jZ cap (Itl K a) g tt te σ H Q:=by
 intro D hD;have hz':ys.length<=sizeLine:=by rw[zv];omega
 refine⟨λi m acc σ H2=>m=ys.length - i/\i<=ys.length/\Sσ σ/\Same H H2/\acc.length<=i/\tD (λy v=>∀H',But D H2 H'->F D y v H') ((ys.take i).filter ab) acc,⟨ys.length,rfl,yj _,h0,iG hD,yj _,trivial⟩,?_⟩;rintro i m acc σ1 H2 ⟨rfl,hi,hσ,sm,ae,hF⟩ hA;by_cases aa:i<ys.length
 ·have hx:(ys.map f)[i]? =some (f ys[i]):=by simp[aa]
  refine .inr ⟨⟨ys.map f,f ys[i],sm.seq hS,hx⟩,λy H3 hy=>?_⟩;obtain rfl:H3=H2:=hy.1;obtain rfl:y=f ys[i]:=zw ((hy.2 _ (sm.seq hS)).symm.trans hx);have htk:ys.take (i+1)=ys.take i++[ys[i]]:=by rw[yk,zg aa];rfl
  refine hs D ys[i] (zzi aa) σ1 H3 _ _ hσ sm hD ⟨_,hA⟩ (λhf v z H6 ac s6 ad=>?_) λhf z H6 ac s6=>?_
  ·refine⟨acc,s6 _ _ hA,by omega,ys.length - (i+1),by omega,rfl,aa,ac,(sm.trans s6).upd hD,by rw[yd];show acc.length+1<=_;omega,?_⟩
   rw[htk,yS,yZ hf];exact tD.snoc (tD.imp hF λy v h H' hb=>h H' λb o q e=>hb b o q ((iJ q).trans (s6 _ _ e))) λH' hb=>ad H' λb o q e=>hb b o q ((iJ q).trans e)
  ·refine⟨ys.length - (i+1),by omega,acc,s6 _ _ hA,rfl,aa,ac,sm.trans s6,by omega,?_⟩
   rw[htk,yS,yR (by rw[hf];decide),List.filter_nil,yX];exact tD.imp hF λy v h H' hb=>h H' λb o q e=>hb b o q (s6 _ _ e)
 ·obtain rfl:i=ys.length:=by omega
  rw[yJ]at hF;exact .inl ⟨⟨_,sm.seq hS,by rw[za];exact zj _⟩,k D H2 acc hD sm hA (tD.imp hF λy v h=>h H2 λb o _ e=>e)⟩
def Jx{α:Type}{f:α->V}{ys:List α}{a:Addr}{cap:List (Option Nat)}{g:TG}{te:TE}{σ:L2.St}{H:Hp}{Q:VK}(Sσ:L2.St->Prop)(F:Addr->α->V->Hp->Prop)(hS:SqL K H a (ys.map f))(h0:Sσ (pI σ cap))(hz:ys.length<=100000)
  (hs:∀D y,y∈ys->∀(σ:L2.St)(q:Hp)(R:L2.St->VK),Sσ σ->Same H q->H D=none->(∃acc,q D=some (.lst acc))->(∀v z H6,Sσ z->Same q H6->(∀H',But D H6 H'->F D y v H')->R z v H6)->g (f y) σ q λz H4=>te z H4 (R z))
  (k:∀D H' acc,H D=none->Same H H'->H' D=some (.lst acc)->tD (λy v=>F D y v H') ys acc->Q (.ref D) H'):jZ cap (Itl K a) g JF te σ H Q:=
 Xe Sσ (λ_=>true) F hS h0 hz (λD y hy σ5 q R1 R2 hσ sm hD hA k1 k2=>by
  simp only[ap_noIf,if_true];exact hs D y hy σ5 q R1 hσ sm hD hA (k1 rfl)) λD H' acc hD sm hA hF=>k D H' acc hD sm hA (by rw[filter_all]at hF;exact hF)
def BkD.noM(k:BkD)(f:Str)(h:f∉["way", "rows", "last_place", "paid", "brought", "sales_done", "givings_done", "days", "layings"].map Str.ofString):List.lookup f k.fs=none:=by
 simp only[zf,zzx,zu,zl,or_false,not_or]at h;obtain⟨h1,h2,h3,h4,z,h6,h7,h8,h9⟩:=h;unfold BkD.fs BkD.xs
 have q:∀{g:String}{v:V}{r:List (Str×V)},f≠Str.ofString g->List.lookup f ((Str.ofString g,v)::r)=List.lookup f r:=fun{g v r} c=>by
  rw[yyC];rw[show(f==Str.ofString g)=false from beq_eq_false_iff_ne.mpr c]
 cases k.x with
 |none=>exact(q h1).trans ((q h2).trans ((q h3).trans ((q h4).trans ((q z).trans ((q h6).trans (q h7))))))
 |some y=>exact(q h1).trans ((q h2).trans ((q h3).trans ((q h4).trans ((q z).trans ((q h6).trans ((q h7).trans ((q h8).trans (q h9))))))))
def ug{H:Hp}{M:List Addr}{a:Addr}{o:HO}(h:xG H M a=some o):a∉M:=λc=>by
 unfold xG at h;rw[zn c]at h;cases h
noncomputable def jx.core(s:jx):Int×Int×Str×Int×SP5:=(s.n,s.d,s.w,s.pr,s.ps)
def iV.swap{H H':Hp}{b D dx:Addr}{k:BkD}{sl:List (Addr×jx)}(h:iV A H b k)(s:Same H H')(q:H D=none)(hl:H' D=some (.lst (Ff sl)))(hS:∀t∈sl,kO A H' t.1 t.2/\t.2.pl≠D/\t.2.pl∉k.M b):
  Stp (k.M b) ({k with sales:=D,sl:=sl}.M b) H (upd H' b (.ins k.C dx {k with sales:=D}.fs))/\iV A (upd H' b (.ins k.C dx {k with sales:=D}.fs)) b {k with sales:=D,sl:=sl}:=by
 have hM:∀m∈{k with sales:=D,sl:=sl}.M b,m=D\/m∈k.M b:=λm hm=>by
  have hm:m∈[b,k.rows,D,k.givs]++k.xm:=hm;show m=D\/m∈[b,k.rows,k.sales,k.givs]++k.xm;simp only[yg,zu,zl,or_false]at hm⊢;rcases hm with(c|c|c|c)|c
  ·exact .inr (.inl (.inl c))
  ·exact .inr (.inl (.inr (.inl c)))
  ·exact .inl c
  ·exact .inr (.inl (.inr (.inr (.inr c))))
  ·exact .inr (.inr c)
 have aa:D≠b:=λe=>by obtain⟨dy,hb⟩:=h.i;rw[<-e,q]at hb;cases hb
 have st:Stp (k.M b) ({k with sales:=D,sl:=sl}.M b) H (upd H' b (.ins k.C dx {k with sales:=D}.fs)):=⟨λa o n e=>(iJ λc:a=b=>n (c▸BkD.mb)).trans (s _ _ e),λm hm=>(hM m hm).elim (λe=> .inr (e▸q)) .inl⟩;have n:∀{a:Addr}{o:HO},H a=some o->(∀C dx fs,o≠.ins C dx fs)->(upd H' b (.ins k.C dx {k with sales:=D}.fs)) a=some o:=λe f=>(iJ (h.neb e f)).trans (s _ _ e);have hB':=h.same s;have F:=h.z.same st.same;have g:∀{a:Addr}{o:HO},H' a=some o->a≠D->a∉k.M b->xG (upd H' b (.ins k.C dx {k with sales:=D}.fs)) ({k with sales:=D,sl:=sl}.M b) a=some o:=fun{a o} e c1 z=>tK ((iJ λc:a=b=>z (c▸BkD.mb)).trans e) λc=>(hM _ c).elim c1 z;refine⟨st,h.c,⟨dx,iC⟩,n h.r λ_ _ _ c=>(by cases c),(iJ aa).trans hl,n h.g λ_ _ _ c=>(by cases c),λy e=>?_,λc=>?_,⟨F.l,F.p,λt ht=>?_,F.g,F.y⟩⟩
 ·obtain⟨a,t⟩:=h.y y e
  exact⟨n a λ_ _ _ c=>(by cases c),fun(c:y.2.1=D)=>(by rw[c,q]at a;cases a),t.2⟩
 ·have:=h.g
  rw[<-show D=k.givs from c,q]at this;cases this
 ·obtain⟨⟨⟨dy,hi⟩,hp,hT,ab⟩,c1,z⟩:=hS t ht
  refine⟨⟨dy,g hi (λc=>by rw[c,hl]at hi;cases hi) (ug (hB'.ins hi))⟩,g hp c1 z,λr hr=>g (hT r hr) (λc=>?_) (ug (hB'.tup (hT r hr))),ab⟩;have:=hT r hr;rw[c,hl]at this;cases this
def iV.lay{H:Hp}{b la:Addr}{k:BkD}{g:Int}{zs ws:LY}(h:iV A H b k)(q:k.x=some (g,la,zs))(hw:∀t∈ws,xG H (k.M b) t.1=some (lyT t)):Stp (k.M b) ({k with x:=some (g,la,ws)}.M b) H (upd H la (.lst (uf ws)))/\iV A (upd H la (.lst (uf ws))) b {k with x:=some (g,la,ws)}:=by
 have hM:{k with x:=some (g,la,ws)}.M b=k.M b:=by unfold BkD.M BkD.xm;rw[q]
 have hm:la∈k.M b:=by unfold BkD.M BkD.xm;rw[q];exact yh _ zm
 obtain⟨y1,y2,y3⟩:=h.y _ q;have z:=rH (H:=H) (o:=.lst (uf ws)) hm;have F:=h.z.same z.same;have n:∀{a:Addr}{o:HO},H a=some o->a≠la->(upd H la (.lst (uf ws))) a=some o:=λe f=>(iJ f).trans e;refine⟨by rw[hM];exact z,h.c.imp (λc=>by rw[q]at c;cases c.2) λc=>⟨c.1,λc=>by cases c⟩,?_,n h.r λc=>?_,n h.s (Ne.symm y2),n h.g (Ne.symm y3),λy e=>?_,h.d,?_⟩
 ·obtain⟨dx,e⟩:=h.i
  refine⟨dx,(n e λc=>by rw[c,y1]at e;cases e).trans ?_⟩;unfold BkD.fs BkD.xs;rw[q]
 ·have:=h.r
  rw[c,y1]at this;cases this
 ·cases e
  exact⟨iC,y2,y3⟩
 ·rw[hM]
  exact⟨F.l,F.p,F.s,F.g,λy e t ht=>by cases e;exact z.same _ _ (hw t ht)⟩
noncomputable def BkD.ll(k:BkD):Nat:=match k.x with
 |none=>0
 |some y=>y.2.2.length
noncomputable def jx.dat(s:jx):(Int×Int×Str×Int×SP5)×Option Int:=(s.core,s.lo)
noncomputable def Rb(k:BkD)(w:Str)(d:Int)(s:jx):Bool:=match k.x with
 |some y=>Oa s w d y.1
 |none=>false
noncomputable def JW(k:BkD)(w:Str)(d n:Int)(s:jx):(Int×Int×Str×Int×SP5)×Option Int:=(s.core,if Rb k w d s=true then some n else s.lo)
noncomputable def agy(k:BkD)(w:Str)(d:Int):Int:=((k.sl.filter λt=>Rb k w d t.2).map λt=> -(t.2.pr - t.2.co)).sum
noncomputable def ajw(k:BkD)(w:Str)(d n:Int):List (Int×Int×Int):=(k.sl.filter λt=>Rb k w d t.2).map λt=>(t.2.n,n, -(t.2.pr - t.2.co))
noncomputable def ajo(k:BkD)(w:Str)(d n:Int)(x':Option (Int×Addr×LY)):Prop:=(k.x=none->x'=none)/\∀y,k.x=some y->∃ts:LY,x'=some (y.1,y.2.1,y.2.2++ts)/\ts.map (·.2)=ajw k w d n
def YB{k:BkD}{w:Str}{d n:Int}(h:k.x=none):k.sl.map (λt=>t.2.dat)=k.sl.map (λt=>JW k w d n t.2)/\agy k w d=0:=by
 have q:∀s,Rb k w d s=false:=λs=>by unfold Rb;rw[h]
 refine⟨yH λt _=>?_,?_⟩
 ·unfold JW
  rw[q,ze (by decide)];rfl
 ·unfold agy
  rw[List.filter_eq_nil_iff.mpr λt _=>by rw[q];decide];rfl
def Zr{k:BkD}{w:Str}{d n:Int}{sl:List (Addr×jx)}(h:sl.map (λt=>t.2.dat)=k.sl.map (λt=>JW k w d n t.2)):sl.map (λt=>t.2.core)=k.sl.map (λt=>t.2.core):=by
 have:=congrArg (List.map Prod.fst) h
 rwa [zr,zr]at this
inductive Tp(A:Adr)(C:Addr)(z:Bool)(vs:List V)(H:Hp)(Q:VK)(E:XK):Prop
 |mk (b x:Addr) (k:BkD) (d n p r f:Int) (w:Str) (_:vs=[.ref b,.ref x]) (_:k.C=C) (_:k.x.isSome=z) (_:iV A H b k) (_:IsE A H x (.buy d n w p r f)) (_:k.sl.length<=100) (_:k.ll<=10000) (_:∀sa sl x' i H',Stp (k.M b) ({k with sales:=sa,sl:=sl,x:=x'}.M b) H H'->iV A H' b {k with sales:=sa,sl:=sl,x:=x'}->sl.map (λt=>t.2.dat)=k.sl.map (λt=>JW k w d n t.2)->i=agy k w d->ajo k w d n x'->{k with sales:=sa,sl:=sl,x:=x'}.ll<=k.ll+100->Q (.int i) H'):Tp A C z vs H Q E
def Jt(T:Txt K mg A D):jE P w K mg base CX0 1 A.zZ D.zZ ["self", "entry"] (Tp A A.aba false):=by
 refine T.ab1.okv Js λ_ _ _ _ H vs Q E hr h=>?_
 ·obtain⟨b,x,z,d,n,p,r,f,w,rfl,hC,hz,hB,hx,hl,aa,k⟩:=h
  refine⟨_,(iz (iM iB)),?_⟩;walk_at "a";have q:z.x=none:=Option.isNone_iff_eq_none.mp (Option.isSome_eq_false_iff.mp hz);obtain⟨e1,e2⟩:=YB (k:=z) (w:=w) (d:=d) (n:=n) q;exact k z.sales z.sl z.x 0 H (pA (same_refl _)) hB e1 e2.symm ⟨λc=>c,λy c=>by rw[q]at c;cases c⟩ (zzu _ _)
def kO.but{H H':Hp}{D x:Addr}{s:jx}{xs:List V}(h:kO A H x s)(q:H D=some (.lst xs))(hp:s.pl≠D)(b:But D H H'):kO A H' x s:=by
 obtain⟨dx,hi⟩:=h.i;refine⟨⟨dx,b _ _ (λe=>by rw[e,q]at hi;cases hi) hi⟩,b _ _ hp h.p,λr z=>?_,h.l⟩;have h1:=h.t r z;exact b _ _ (λe=>by rw[e,q]at h1;cases h1) h1
theorem aib{H:Hp}{R:jx->Prop}{F:jx->(Int×Int×Str×Int×SP5)×Option Int}:∀{sl:List (Addr×jx)}{acc:List V},tD (λt v=>∃y s,v=.ref y/\kO A H y s/\R s/\s.dat=F t.2) sl acc->∃q:List (Addr×jx),acc=Ff q/\q.map (λt=>t.2.dat)=sl.map (λt=>F t.2)/\∀t∈q,kO A H t.1 t.2/\R t.2
 |[],[],_=>⟨[],rfl,rfl,λt h=>(zl h).elim⟩
 |t::sl,v::acc,h=>by
  obtain⟨⟨y,s,rfl,hs,hr,hc⟩,h2⟩:=h;obtain⟨q,e1,e2,e3⟩:=aib h2;refine⟨(y,s)::q,by rw[e1];rfl,by rw[zf,zf,e2,hc],λu z=>?_⟩;rcases zu.mp z with rfl|z
  ·exact⟨hs,hr⟩
  ·exact e3 u z
 |[],_::_,h=>h.elim
 |_::_,[],h=>h.elim
theorem ahY{H:Hp}{F:jx->Int×Int×Int}:∀{sl:List (Addr×jx)}{acc:List V},tD (λt v=>∃a,v=.ref a/\H a=some (lyT (a,F t.2))) sl acc->∃ts:LY,acc=uf ts/\ts.map (·.2)=sl.map (λt=>F t.2)/\∀t∈ts,H t.1=some (lyT t)
 |[],[],_=>⟨[],rfl,rfl,λt h=>(zl h).elim⟩
 |t::sl,v::acc,h=>by
  obtain⟨⟨a,rfl,ha⟩,h2⟩:=h;obtain⟨ts,e1,z,e3⟩:=ahY h2;refine⟨(a,F t.2)::ts,by rw[e1];rfl,by rw[zf,zf,z],λu q=>?_⟩;rcases zu.mp q with rfl|q
  ·exact ha
  ·exact e3 u q
 |[],_::_,h=>h.elim
 |_::_,[],h=>h.elim
def Tv(k:BkD)(a:Addr):CN (Str.ofString "sales_done") (.ref a) k.fs={k with sales:=a}.fs:=by cases k;rfl
def wY(T:Txt K mg A D):jE P w K mg base CX0 5 A.z8 D.z8 ["self", "entry"] (Tp A A.abc true):=by
 refine T.ab8.okv ph λ_ _ _ _ H vs Q E hr h=>?_
 ·obtain⟨b,x,kb,d,n,p,r,f,w,rfl,ah,hz,hB,hx,hl,ap,k⟩:=h
  obtain⟨⟨g,la,zs⟩,hk⟩:=zze.mp hz;have hP:∀s,Rb kb w d s=Oa s w d g:=λs=>by unfold Rb;rw[hk]
  refine ⟨_,(iu (mV (i:=2) ph.nd rfl rfl (cap:=[none,some 0,some 1]) (N':=["sale", "self", "entry"]) rfl (by walk_at "c") (lN (K:=K) (fv K 0)) (λ_ _ _ _=>(iK (i:=0) (show(["sale", "self", "entry"]:List Str).Nodup from by decide+kernel) rfl orl orr)) (λ_ _ _ _=>(Ah (oF (jq (pv 1) (mc T.ad5 T.afp (nJ T) hr (oH T) .nil) jw (pav 2 (pav 0 iy)))))) (λ_ _ _ _=>(pvD 0)))
   (iu (jf (vD (K:=K) yt PySem.F.slot_list_extend PySem.F.type_list_extend XF (fv K 0) (ig (jB (cap:=[none,some 1]) (N':=["sale", "entry"]) rfl (by walk_at "c") (jG (K:=K) (pv 2)) (λ_ _ _ _=>(iK (i:=0) (show(["sale", "entry"]:List Str).Nodup from by decide+kernel) rfl orl orr)) (λ_ _ _ _=>jA) (λ_ _ _ _=>(lY (ig (fv K 0) (ig (fv K 1) (ig (ZJ SJ (lG (pv 0) (mc T.aef T.afo (oJ T) hr (qu T) .nil) jw)) iy)))))) iy)))
   (iu (jk (K:=K) (pv 0) (jB (cap:=[none,some 0,some 1]) (N':=["sale", "self", "entry"]) rfl (by walk_at "c") (lN (K:=K) (fv K 0)) (λ_ _ _ _=>(iK (i:=0) (show(["sale", "self", "entry"]:List Str).Nodup from by decide+kernel) rfl orl orr)) (λ_ _ _ _=>jA) (λ_ _ _ _=>(Ci (oF (jq (pv 1) (mc T.ad5 T.afp (nJ T) hr (oH T) .nil) jw (pav 2 (pav 0 iy)))) (pcg (Hj T) hr T.ab7 (Jj T) (pav 0 (ig (fv K 2) iy))) (pvD 0)))) rfl)
   (iz (iM (jc (lX (K:=K) rfl) (by rfl) T.adk (by decide+kernel) (ig (jB (cap:=[none]) (N':=["sale"]) rfl (by walk_at "c") (jG (K:=K) (pv 2)) (λ_ _ _ _=>(iK (i:=0) nd1 rfl orl orr)) (λ_ _ _ _=>jA) (λ_ _ _ _=>(ZJ SJ (lG (pv 0) (mc T.aef T.afo (oJ T) hr (qu T) .nil) jw)))) iy))))))),?_⟩
  obtain⟨db,hb⟩:=hB.i;have hC:=CQ T hB;have b1:zs.length<=10000:=by unfold BkD.ll at ap;rw[hk]at ap;exact ap
  simp only[start_eq];walk_at "m";refine rd hb hC.c hC.s (by rfl) ⟨kb.sales,rfl,⟨_,iH hB.s⟩,?_⟩;refine Xe (f:=λt:Addr×jx=>V.ref t.1) (λσ=>∃a,σ=[a,some (.ref b),some (.ref x)]) (λt=>Oa t.2 w d g) (λ_ t v _=>v=.ref t.1) (iH hB.s) ⟨_,rfl⟩ (by omega) ?_ ?_
  ·rintro Da t ht σ H5 R1 R2 ⟨_,rfl⟩ sm hD hA k1 k2
   walk_at "i";obtain⟨an,ao⟩:=(hB.same sm).i;refine⟨_,an,_,ao,jY A,by rw[ah];exact zm,BkD.noM _ _ (by decide+kernel),b,x,t.1,kb,g,la,zs,t.2,d,n,p,r,f,w,rfl,hB.same sm,hk,hx.same sm,(hB.frz.s t ht).same sm,λH6 s6=>⟨_,rfl,?_⟩⟩
   cases e:Oa t.2 w d g with
   |true=>rw[zn rfl];exact k1 e _ _ H6 ⟨_,rfl⟩ s6 λ_ _=>rfl
   |false=>rw[ze (by decide)];exact k2 e _ H6 ⟨_,rfl⟩ s6
  ·intro D1 H1 bw bd s1 ac bk
   rw[tD.map bk]at ac;have bb:(kb.sl.filter λt=>Oa t.2 w d g).length<=kb.sl.length:=yV _ _;have ai:∀t∈kb.sl.filter λt=>Oa t.2 w d g,t∈kb.sl:=λt h=>(zzf.mp h).1;have hI:agy kb w d=((kb.sl.filter λt=>Oa t.2 w d g).map λt=> -(t.2.pr - t.2.co)).sum:=by unfold agy;simp only[hP]
   have hT:ajw kb w d n=(kb.sl.filter λt=>Oa t.2 w d g).map λt=>(t.2.n,n, -(t.2.pr - t.2.co)):=by unfold ajw;simp only[hP]
   generalize(kb.sl.filter λt=>Oa t.2 w d g)=tk at ac bb ai hI hT;have ar:=hB.same s1;obtain⟨b3,bj⟩:=ar.i;walk_at "m";refine rd bj (by rw[ah];exact T.ad5) (by rw[ah];exact T.aee) (v:=.ref la) (by unfold BkD.fs BkD.xs;rw[hk];rfl) ⟨tyL (iH (ar.y _ hk).1),⟨_,iH ac⟩,?_⟩;refine Jx (f:=λt:Addr×jx=>V.ref t.1) (λσ=>∃a,σ=[a,some (.ref x)]) (λ_ t v H'=>∃a,v=.ref a/\H' a=some (lyT (a,t.2.n,n, -(t.2.pr - t.2.co)))) (iH ac) ⟨_,rfl⟩ (by omega) ?_ ?_
   ·rintro Da t ht σ H5 R ⟨_,rfl⟩ sm hD ⟨acc,hA⟩ kk
    have aa:=((hB.frz.s t (ai t ht)).same s1).same sm;obtain⟨dt,hi⟩:=aa.i;obtain⟨dx,nv,as,_⟩:=(hx.same s1).same sm;walk_at "i";exact rd hi T.aef T.aeg (by rfl) (rd as T.aeq T.aet (by rfl) (md hi zm (by rfl) ⟨t.1,t.2,rfl,aa,λH6 s6=>⟨_,rfl,sz,λp hp=>kk _ _ _ ⟨_,rfl⟩ (s6.trans (iG hp)) λH' hb=>⟨p,rfl,hb _ _ (λe=>by rw[e,s6 _ _ hA]at hp;cases hp) iC⟩⟩⟩))
   ·intro D2 H2 af bz s2 bl bc
    have b4:=tD.len bc;have ag:=ar.same s2;obtain⟨ts,au,be,bq⟩:=ahY (F:=λs=>(s.n,n, -(s.pr - s.co))) bc;refine⟨la,D2,uf zs,af,rfl,rfl,(ag.y _ hk).1,bl,by rw[zv,show(uf zs).length=zs.length from za _];omega,?_⟩;have bu:uf zs++af=uf (zs++ts):=by rw[au];unfold uf;rw[zp]
    rw[bu];have b0:af.length=ts.length:=by rw[au];exact za _
    obtain⟨o3,q⟩:=ag.lay hk (ws:=zs++ts) λt ht=>(yg.mp ht).elim (ag.z.y _ hk t) λh=>ag.tup (bq t h);have S2:=s1.trans s2;have ak:(upd H2 la (.lst (uf (zs++ts)))) D1=some (.lst (tk.map λt=>V.ref t.1)):=o3.k D1 _ (hB.fresh bd) (s2 _ _ ac);have aw:IsE A (upd H2 la (.lst (uf (zs++ts)))) x (.buy d n w p r f):=let⟨dx,nv,e,c⟩:=hx.same S2;⟨dx,nv,o3.k x _ (ug (ag.day e)) e,c⟩
    generalize upd H2 la (.lst (uf (zs++ts)))=H3 at o3 q ak aw;obtain⟨k3,ad⟩:∃k3,k3={kb with x:=some (g,la,zs++ts)}:=⟨_,rfl⟩;have bg:k3.C=A.abc:=by rw[ad];exact ah
    have bt:k3.x=some (g,la,zs++ts):=by rw[ad]
    have aq:k3.sl=kb.sl:=by rw[ad]
    have az:∀{sa sl},{kb with sales:=sa,sl:=sl,x:=some (g,la,zs++ts)}={k3 with sales:=sa,sl:=sl}:=by rw[ad];exact rfl
    rw[<-ad]at o3 q;clear ad;rw[<-aq]at hl bb ai;have bp:kb.sl.map (λt=>JW kb w d n t.2)=k3.sl.map (λt=>(t.2.core,if Oa t.2 w d g=true then some n else t.2.lo)):=by rw[aq];exact yH λt _=>by unfold JW;rw[hP]
    obtain⟨b2,bs⟩:=q.i;have aj:=CQ T q;walk_at "m";refine rd bs aj.c aj.s (by rfl) ⟨k3.sales,rfl,⟨_,iH q.s⟩,?_⟩;refine Jx (f:=λt:Addr×jx=>V.ref t.1) (λσ=>∃a,σ=[a,some (.ref b),some (.ref x)]) (λDa t v H'=>∃y s,v=.ref y/\kO A H' y s/\(s.pl≠Da/\s.pl∉k3.M b)/\s.dat=(t.2.core,if Oa t.2 w d g=true then some n else t.2.lo)) (iH q.s) ⟨_,rfl⟩ (by omega) ?_ ?_
    ·rintro Da t ht σ H5 R ⟨_,rfl⟩ sm hD ⟨acc,hA⟩ kk
     have ab:=q.same sm;obtain⟨an,ao⟩:=ab.i;have av:=q.frz.s t ht;have aa:=av.same sm;have ay:=aw.same sm;walk_at "i";refine⟨_,an,_,ao,jY A,by rw[bg];exact zm,BkD.noM _ _ (by decide+kernel),b,x,t.1,k3,g,la,_,t.2,d,n,p,r,f,w,rfl,ab,bt,ay,aa,λH6 s6=>⟨_,rfl,?_⟩⟩
     cases e:Oa t.2 w d g with
     |true=>
      rw[zn rfl];obtain⟨dx,nv,as,_⟩:=ay.same s6
      exact ⟨_,dx,_,as,T.aeq,T.aet,_,by rfl,t.1,t.2,n,rfl,aa.same s6,λy pl H7 s7 hy am bo=>kk (.ref y) _ H7 ⟨_,rfl⟩ (s6.trans s7) λH' hb=>
       have ae:pl≠Da:=λc=>by rw[c,s6 _ _ hA]at am;cases am
       ⟨y,_,rfl,bo.but (s7 _ _ (s6 _ _ hA)) ae hb,⟨ae,(ab.same s6).fresh am⟩,by rw[zn e];rfl⟩⟩
     |false=>
      rw[ze (by decide)];have ae:t.2.pl≠Da:=λc=>by have:=av.p;rw[c,hD]at this;cases this
      exact kk (.ref t.1) _ H6 ⟨_,rfl⟩ s6 λH' hb=>⟨t.1,t.2,rfl,(aa.same s6).but (s6 _ _ hA) ae hb,⟨ae,ug (q.z.s t ht).p⟩,by rw[ze (by rw[e];decide)];rfl⟩
    ·intro D4 H4 bv br s4 ax bm
     obtain⟨bf,e1,e2,e3⟩:=aib (R:=λs=>s.pl≠D4/\s.pl∉k3.M b) (F:=λs=>(s.core,if Oa s w d g=true then some n else s.lo)) bm;rw[e1]at ax;obtain⟨bh,bi⟩:=(q.same s4).i;refine sw bi aj.c aj.s (Ss _) (?_);rw[Tv];obtain⟨o5,ab⟩:=q.swap s4 br ax (dx:=bh) λt ht=>e3 t ht;generalize upd H4 b _=H5 at o5 ab;have o:=(pA S2).trans (o3.trans o5);have al:=o5.k D1 _ (λc=>(o3.f D1 c).elim (hB.fresh bd) λz=>by rw[s2 _ _ ac]at z;cases z) ak;have aa:∀t∈tk,kO A H5 t.1 t.2:=λt ht=>(hB.z.s t (aq▸ai t ht)).same λa u h=>rP _ _ (o.same _ _ h);refine⟨⟨_,iH al⟩,?_⟩;refine Jx (f:=λt:Addr×jx=>V.ref t.1) (λσ=>∃a,σ=[a]) (λ_ t v _=>v=.int (-(t.2.pr - t.2.co))) (iH al) ⟨_,rfl⟩ (by omega) ?_ ?_
     ·rintro Da t ht σ H6 R ⟨_,rfl⟩ sm hD hA kk
      obtain⟨dt,hi⟩:=((aa t ht).same sm).i;walk_at "i";exact md hi zm (by rfl) ⟨t.1,t.2,rfl,(aa t ht).same sm,λH7 s7=>⟨_,rfl,kk _ _ _ ⟨_,rfl⟩ s7 λ_ _=>rfl⟩⟩
     ·intro D6 H6 bx b5 s6 ba bn
      rw[tD.ints bn]at ba;walk_at "a";refine⟨_,iH ba,k D4 bf (some (g,la,zs++ts)) _ H6 ?_ ?_ (e2.trans bp.symm) hI.symm ⟨λc=>(by rw[hk]at c;cases c),λy c=>(by rw[hk]at c;cases c;exact⟨ts,rfl,be.trans hT.symm⟩)⟩ ?_⟩
      ·rw[az];exact o.trans (pA s6)
      ·rw[az];exact ab.same s6
      ·unfold BkD.ll
       rw[hk];show(zs++ts).length<=zs.length+100;rw[yd];omega
def Ck(K:Fg_)(C:Addr):kitOne K (.ref C) (.ref C)=some true:=zn (by simp)
def aiX(T:Txt K mg A D){H:Hp}{x:Addr}{e:Ent}(h:IsE A H x e):Jh K H (.ref x) (.ref (e.cls A)):=by
 obtain⟨dx,z,q,_⟩:=h
 cases e with
 |buy=>exact T.aer.of q
 |sell=>exact T.aeI.of q
 |gift=>exact T.aeA.of q
 |split=>exact T.aeS.of q
 |part=>exact T.aeZ.of q
def akH(T:Txt K mg A D)(e:Ent):kitOne K (.ref (e.cls A)) (.ref A.abk)=some (Ca e)/\kitOne K (.ref (e.cls A)) (.ref A.abm)=some (tQ e)/\kitOne K (.ref (e.cls A)) (.ref A.abl)=some (uc e)/\
  kitOne K (.ref (e.cls A)) (.ref A.abn)=some false/\kitOne K (.ref (e.cls A)) (.ref A.abo)=some (pF e)/\kitOne K (.ref (e.cls A)) (.ref A.abp)=some (tX e):=by
 cases e with
 |buy=>obtain⟨a,b,c,d,f⟩:=T.af9;exact⟨Ck _ _,a,b,c,d,f⟩
 |sell=>obtain⟨a,b,c,d,f⟩:=T.aga;exact⟨a,Ck _ _,b,c,d,f⟩
 |gift=>obtain⟨a,b,c,d,f⟩:=T.agb;exact⟨a,b,Ck _ _,c,d,f⟩
 |split=>obtain⟨a,b,c,d,f⟩:=T.agc;exact⟨a,b,c,d,Ck _ _,f⟩
 |part=>obtain⟨a,b,c,d,f⟩:=T.agd;exact⟨a,b,c,d,f,Ck _ _⟩
noncomputable def Ent.oth:Ent->Str
 |.part _ _ _ u _ _=>u
 |e=>e.ware
noncomputable def jo:List Str:=["tin", "ore", "abcdefgh"]
noncomputable def agq(c:Str->Int):Ent->Str->Int
 |.buy _ _ w p _ _,z=>if z=w then c w+p else c z
 |.gift _ _ w p _ _,z=>if z=w then c w+p else c z
 |.sell _ _ w p _ _ _,z=>if z=w then c w - p else c z
 |.split _ _ w m f,z=>if z=w then c w*m/f else c z
 |.part _ _ w u _ _,z=>if z=u then c u+c w else c z
noncomputable def ahn(c:Str->Int):Ent->Prop
 |.sell _ _ w p _ _ _=>p<=c w
 |.split _ _ w m f=>c w=0\/1<=c w*m/f
 |_=>True
noncomputable def runC(es:List Ent):Str->Int:=es.foldl agq λ_=>0
def sO(es:List Ent)(e:Ent):runC (es++[e])=agq (runC es) e:=by unfold runC;rw[List.foldl_append];rfl
structure Vb(es:List Ent):Prop where
 g:∀e∈es,e.good/\e.lots=none/\e.ware∈jo/\e.oth∈jo
 f:∀(i:Nat) e,es[i]? =some e->ahn (runC (es.take i)) e
 m:∀(i:Nat) z,runC (es.take i) z<=1000000000
def Vb.nil:Vb []:=⟨λe h=>(zl h).elim,λi e h=>by simp at h,λi z=>by rw[List.take_nil];show(0:Int)<=_;decide⟩
def Vb.snoc{es:List Ent}{e:Ent}(h:Vb es)(hg:e.good/\e.lots=none/\e.ware∈jo/\e.oth∈jo)(hf:ahn (runC es) e)(hm:∀z,agq (runC es) e z<=1000000000):Vb (es++[e]):=by
 refine⟨λd hd=>?_,λi d hi=>?_,λi z=>?_⟩
 ·rcases yg.mp hd with hd|hd
  ·exact h.g d hd
  ·rw[zx.mp hd];exact hg
 ·by_cases c:i<es.length
  ·rw[yL c]at hi
   rw[zzw (by omega)];exact h.f i d hi
  ·rw[yI (by omega)]at hi
   have q:i - es.length=0:=by
    have:=(zo.mp hi).1;simp at this;omega
   rw[q]at hi;cases hi;rw[show i=es.length by omega,zzw (zj _),yJ];exact hf
 ·by_cases c:i<=es.length
  ·rw[zzw c]
   exact h.m i z
  ·rw[yr (by rw[yd];show es.length+1<=i;omega),sO]
   exact hm z
noncomputable def Mj(H:Hp)(tl:EL):Prop:=∀r∈tl,YH H r.1 r.2
theorem Mj.same{H H':Hp}{tl:EL}(h:Mj H tl)(s:Same H H'):Mj H' tl:=λr q=>(h r q).same s
def iV.lm{H:Hp}{b:Addr}{k:BkD}(h:iV A H b k):∃z,(k.C,Tp A k.C z)∈[(A.aba,Tp A A.aba false),(A.abc,Tp A A.abc true)]/\k.x.isSome=z:=by
 rcases h.c with⟨e,c⟩|⟨e,c⟩
 ·exact⟨false,by rw[e];exact zm,by rw[c];rfl⟩
 ·exact⟨true,by rw[e];exact ya _ zm,Option.isSome_iff_ne_none.mpr c⟩
inductive xV(A:Adr)(vs:List V)(H:Hp)(Q:VK)(E:XK):Prop
 |mk (b x:Addr) (k:BkD) (ns:List Int) (W:List Str) (d n p r f:Int) (w:Str) (_:vs=[.ref b,.ref x]) (_:iV A H b k) (_:IsE A H x (.buy d n w p r f)) (_:1<=p) (_:n∈ns) (_:Mf ns W k.rs) (_:W.length<=50) (_:ns.length<=61) (_:k.sl.length<=100) (_:k.ll<=10000) (_:∀sa sl x' q ms H',Stp (k.M b) ({k with sales:=sa,sl:=sl,x:=x'}.M b) H H'->iV A H' b {k with sales:=sa,sl:=sl,x:=x',rs:=keepR k.rs w q ms,paid:=k.paid+(p*r+f)}->sl.map (λt=>t.2.dat)=k.sl.map (λt=>JW k w d n t.2)->ajo k w d n x'->{k with sales:=sa,sl:=sl,x:=x'}.ll<=k.ll+100->Shp ns ms->pcs ms=pcs (rowOf k.rs w)+p->mz ms=mz (rowOf k.rs w)+(p*r+f+agy k w d)->Q .non H'):xV A vs H Q E
def xj(T:Txt K mg A D):jE P w K mg base CX0 6 A.z9 D.z9 ["self", "entry"] (xV A):=by
 refine T.ab9.okv xU λ_ _ _ _ H vs Q E hr h=>?_
 ·obtain⟨b,x,kb,ns,W,d,n,p,r,f,w,rfl,hB,hE,hp,hn,hO,hW,hN,an,aj,k⟩:=h
  have al:=hE;obtain⟨dx,nv,hx,_⟩:=al
  refine ⟨_,(iu (iT (i:=2) xU.nd rfl orl (iZ jD (fv K 1) (jq (pv 0) (mc T.adS T.afs (Jt T) hr (KN T) (mc T.ad5 T.aft (wY T) hr (Ar T) .nil)) jw (pav 1 iy))))
   (iu (jf (jq (pv 0) (mc T.adS T.afq (nR T) hr (pK T) (mc T.ad5 T.afr (nR T) hr (pK T) .nil)) jw (ig (fv K 1) (ig (jX (ig (lD T.ae6 (jH (K:=K) T) (hr.mono (by decide)) (by rfl) T.adv (jM T) .nil jw (ig (fv K 1) (ig (fv K 1) (ig (fv K 1) (pav 2 iy))))) iy)) iy))))
   (iz (jk (K:=K) (pv 0) (iZ jD (fv K 0) (fv K 1)) rfl)))),?_⟩
  obtain⟨db,hb⟩:=hB.i;have hz:=hO.len;obtain⟨z,hm,am⟩:=hB.lm;simp only[start_eq];walk_at "m";refine rd hx T.aeq T.aey (by rfl) (md hb hm (kb.noM _ (by decide+kernel)) ⟨b,x,kb,d,n,p,r,f,w,rfl,rfl,am,hB,hE,an,aj,λsa sl x' i H1 o1 ad e1 ei ex e2=>?_⟩);refine⟨_,rfl,_,rfl,?_⟩;have aa:=o1.k x _ (ug (hB.day hx)) hx;obtain⟨aq,ak⟩:=ad.i;walk_at "m";refine md ak ad.me (BkD.noM _ _ (by decide+kernel)) (rd aa T.aeq T.aeu (by rfl) (rd aa T.aeq T.aet (by rfl) (rd aa T.aeq T.aes (by rfl) (rd aa T.aeq T.aev (by rfl) (λy dy hy ai _=>?_)))));refine pB (A:=A) ⟨n,d,p,_⟩ hy ai λH2 s1 hL=>⟨sz,λq hq=>?_⟩;have s2:=s1.trans (iG (o:=.lst [.ref y]) hq);have ae:(upd H2 q (.lst [.ref y])) q=some (.lst (jj [(y,⟨n,d,p,p*r+f+i⟩)])):=iC;have af:=hL.same (iG (o:=.lst [.ref y]) hq);generalize upd H2 q (HO.lst [.ref y])=H3 at s2 ae af⊢;have ah:=ad.same s2;refine⟨b,q,w,_,[(y,⟨n,d,p,p*r+f+i⟩)],ns,rfl,ah,ae,akt af,λl hl=>by rw[zx.mp hl];exact⟨hp,hn⟩,hO.row w,hN,(show kb.rs.length<=50 by omega),λq' ms H4 o4 ac g1 g2 gc=>?_⟩;have ap:=o4.k x _ (ug (ah.day (s2 _ _ aa))) (s2 _ _ aa);obtain⟨ao,ag⟩:=ac.i;have ab:=CQ T ac
  try dsimp only
  refine rd ag ab.c ab.p (by rfl) (rd ap T.aeq T.aey (by rfl) ⟨_,rfl,_,rfl,_,ao,_,ag,ab.c,ab.p,Ss _,?_⟩);rw[Yj];exact k sa sl x' q' ms _ (o1.trans ((pA s2).trans (o4.trans (rH BkD.mb)))) (ac.put (la:=kb.last) (pa:=kb.paid+(p*r+f)) (br:=kb.brought) ac.z.p) e1 ex e2 g1 (by rw[g2];unfold pcs;simp) (by rw[gc,<-ei];unfold mz;simp)
noncomputable def JM(rs:RW):Int:=(jo.map λz=>mz (rowOf rs z)).sum
def pJ{rs:RW}{w:Str}{q:Addr}{ms:RL}(z:w∈jo):JM (keepR rs w q ms)=JM rs - mz (rowOf rs w)+mz ms:=by
 unfold JM;simp only[pL];have n1:¬("ore" :Str)= "tin" :=by decide+kernel
 have n2:¬("abcdefgh" :Str)= "tin" :=by decide+kernel
 have n3:¬("abcdefgh" :Str)= "ore" :=by decide+kernel
 unfold jo at z⊢;simp only[zu,zl,or_false]at z;simp only[zf,zzx,yn,List.sum_nil];rcases z with rfl|rfl|rfl
 ·rw[zn rfl,ze n1,ze n2];omega
 ·rw[ze (λc=>n1 c.symm),zn rfl,ze n3];omega
 ·rw[ze (λc=>n2 c.symm),ze (λc=>n3 c.symm),zn rfl];omega
abbrev Yl:=(Int×Int×Str×Int×SP5)×Option Int
noncomputable def coD(c:Yl):Int:=(c.1.2.2.2.2.map λr=>r.2.1.c).sum
noncomputable def prD(c:Yl):Int:=c.1.2.2.2.1
noncomputable def wW(c:Yl):Int:=if c.2=none then 0 else -(prD c - coD c)
noncomputable def Qf(k:BkD):Int:=(k.sl.map λt=>coD t.2.dat).sum
noncomputable def Bc(k:BkD):Int:=(k.sl.map λt=>prD t.2.dat).sum
noncomputable def Qu(k:BkD):Int:=(k.sl.map λt=>wW t.2.dat).sum
noncomputable def ZV(k:BkD):Int:=(k.gv.map λt=>mz t.2.2.2).sum
noncomputable def YG:Ent->Int
 |.buy _ _ _ p r f=>p*r+f
 |_=>0
noncomputable def ajy:Ent->Int
 |.gift _ _ _ _ c _=>c
 |_=>0
noncomputable def ajB:Ent->Int
 |.sell _ _ _ p r f _=>p*r - f
 |_=>0
noncomputable def lnD(cs:List Yl):List Int:=(cs.filter λc=>decide (c.2≠none)).map λc=>c.1.1
theorem VJ{k:BkD}{w:Str}{d n:Int}:∀(sl:List (Addr×jx)),(lnD (sl.map λt=>JW k w d n t.2)).Perm (lnD (sl.map λt=>t.2.dat)++((sl.filter λt=>Rb k w d t.2).map λt=>t.2.n))
 |[]=>zz3 _
 |t::sl=>by
  have q:=VJ (k:=k) (w:=w) (d:=d) (n:=n) sl
  cases e:Rb k w d t.2 with
  |false=>
   have h1:JW k w d n t.2=t.2.dat:=by unfold JW;rw[e,ze (by decide)];rfl
   rw[zf,zf,yE,e,ze (by decide),h1];unfold lnD at q⊢;rw[yE,yE];split
   ·rw[zf,zf,zzN]
    exact q.cons _
   ·exact q
  |true=>
   have z:t.2.lo=none:=by
    unfold Rb at e;split at e
    ·unfold Oa jx.opn at e
     simp only[yyb,decide_eq_true_eq]at e;exact e.1.1
    ·cases e
   have h1:JW k w d n t.2=(t.2.core,some n):=by unfold JW;rw[e,zn rfl]
   have h2:t.2.dat=(t.2.core,none):=by unfold jx.dat;rw[z]
   rw[zf,zf,yE,e,zn rfl,h1,h2];unfold lnD at q⊢;rw[yE,yE,zn (by simp),ze (by simp),zf,zf];exact(q.cons _).trans List.perm_middle.symm
structure Bal(es:List Ent)(k:BkD):Prop where
 b:JM k.rs+Qf k+ZV k=k.paid+k.brought+Qu k
 p:k.paid=(es.map YG).sum
 r:k.brought=(es.map ajy).sum
 s:Bc k=(es.map ajB).sum
 v:k.gv=[]
 y:∀y,k.x=some y->(y.2.2.map λt=>t.2.1).Perm (lnD (k.sl.map λt=>t.2.dat))
def lB(f:Ent->Int)(es:List Ent)(e:Ent):((es++[e]).map f).sum=(es.map f).sum+f e:=by simp
theorem Sg{k:BkD}{w:Str}{d n:Int}:∀(sl:List (Addr×jx)),(sl.map λt=>wW (JW k w d n t.2)).sum=(sl.map λt=>wW t.2.dat).sum+((sl.filter λt=>Rb k w d t.2).map λt=> -(t.2.pr - t.2.co)).sum
 |[]=>rfl
 |t::sl=>by
  have z:=Sg (k:=k) (w:=w) (d:=d) (n:=n) sl;rw[zf,zf,yn,yn,z,yE]
  cases e:Rb k w d t.2 with
  |false=>
   rw[ze (by decide)];have:JW k w d n t.2=t.2.dat:=by unfold JW;rw[e,ze (by decide)];rfl
   rw[this];omega
  |true=>
   rw[zn rfl,zf,yn]
   have h1:wW (JW k w d n t.2)= -(t.2.pr - t.2.co):=by
    unfold JW;rw[e,zn rfl];rfl
   have q:t.2.lo=none:=by
    unfold Rb at e;split at e
    ·unfold Oa jx.opn at e
     simp only[yyb,decide_eq_true_eq]at e;exact e.1.1
    ·cases e
   have h2:wW t.2.dat=0:=by
    unfold wW jx.dat;rw[q,zn rfl]
   rw[h1,h2];omega
def Qd{f:Yl->Int}{sl:List (Addr×jx)}{k:BkD}{w:Str}{d n:Int}(e:sl.map (λt=>t.2.dat)=k.sl.map (λt=>JW k w d n t.2)):(sl.map λt=>f t.2.dat)=k.sl.map λt=>f (JW k w d n t.2):=by
 have:=congrArg (List.map f) e;rw[zr,zr]at this;exact this
theorem Bal.buy{es:List Ent}{k:BkD}{d n p r f:Int}{w:Str}(h:Bal es k)(hw:w∈jo){sa q:Addr}{sl:List (Addr×jx)}{x':Option (Int×Addr×LY)}{ms:RL}(e1:sl.map (λt=>t.2.dat)=k.sl.map (λt=>JW k w d n t.2))(hX:ajo k w d n x')(hc:mz ms=mz (rowOf k.rs w)+(p*r+f+agy k w d)):
  Bal (es++[.buy d n w p r f]) {k with sales:=sa,sl:=sl,x:=x',rs:=keepR k.rs w q ms,paid:=k.paid+(p*r+f)}:=by
 have s1:(sl.map λt=>coD t.2.dat)=k.sl.map λt=>coD t.2.dat:=Qd (f:=coD) e1;have s2:(sl.map λt=>prD t.2.dat)=k.sl.map λt=>prD t.2.dat:=Qd (f:=prD) e1;have s3:(sl.map λt=>wW t.2.dat).sum=Qu k+agy k w d:=by rw[Qd (f:=wW) e1];exact Sg k.sl
 refine⟨?_,?_,?_,?_,h.v,λy' z=>?_⟩
 ·show JM (keepR k.rs w q ms)+(sl.map λt=>coD t.2.dat).sum+ZV k=k.paid+(p*r+f)+k.brought+(sl.map λt=>wW t.2.dat).sum
  rw[pJ hw,s1,s3,hc];have:=h.b;unfold Qf at this;omega
 ·rw[lB,<-h.p];rfl
 ·rw[lB,<-h.r];show k.brought=k.brought+0;omega
 ·show(sl.map λt=>prD t.2.dat).sum=_
  rw[s2,lB,<-h.s];show Bc k=Bc k+0;omega
 ·have z:x'=some y':=z
  cases hk:k.x with
  |none=>rw[hX.1 hk]at z;cases z
  |some y=>
   obtain⟨ts,e2,e3⟩:=hX.2 y hk;rw[e2]at z;cases z;show((y.2.2++ts).map λt=>t.2.1).Perm (lnD (sl.map λt=>t.2.dat));rw[e1,zp];refine((h.y y hk).append ?_).trans (VJ k.sl).symm
   have e4:(ts.map λt=>t.2.1)=(k.sl.filter λt=>Rb k w d t.2).map λt=>t.2.n:=by
    have:=congrArg (List.map Prod.fst) e3;unfold ajw at this;rw[zr,zr]at this;exact this
   rw[e4]
theorem Bal.gift{es:List Ent}{k:BkD}{d n p c s:Int}{w:Str}(h:Bal es k)(hw:w∈jo){q:Addr}{z:RL}(hc:mz z=mz (rowOf k.rs w)+c):Bal (es++[.gift d n w p c s]) {k with rs:=keepR k.rs w q z,brought:=k.brought+c}:=by
 refine⟨?_,?_,?_,?_,h.v,h.y⟩
 ·show JM (keepR k.rs w q z)+Qf k+ZV k=k.paid+(k.brought+c)+Qu k
  rw[pJ hw,hc];have:=h.b;omega
 ·rw[lB,<-h.p];show k.paid=k.paid+0;omega
 ·rw[lB,<-h.r];rfl
 ·show Bc k=_
  rw[lB,<-h.s];show Bc k=Bc k+0;omega
theorem Bal.split{es:List Ent}{k:BkD}{d n m f:Int}{w:Str}(h:Bal es k)(hw:w∈jo){q:Addr}{z:RL}(hc:mz z=mz (rowOf k.rs w)):Bal (es++[.split d n w m f]) {k with rs:=keepR k.rs w q z}:=by
 refine⟨?_,?_,?_,?_,h.v,h.y⟩
 ·show JM (keepR k.rs w q z)+Qf k+ZV k=k.paid+k.brought+Qu k
  rw[pJ hw,hc];have:=h.b;omega
 ·rw[lB,<-h.p];show k.paid=k.paid+0;omega
 ·rw[lB,<-h.r];show k.brought=k.brought+0;omega
 ·show Bc k=_
  rw[lB,<-h.s];show Bc k=Bc k+0;omega
theorem Bal.part{es:List Ent}{k:BkD}{d n s t:Int}{w u:Str}(h:Bal es k)(hw:w∈jo)(hu:u∈jo)(aa:w≠u){q1 q:Addr}{z ms:RL}(hc:mz z+mz ms=mz (rowOf k.rs w)+mz (rowOf k.rs u)):Bal (es++[.part d n w u s t]) {k with rs:=keepR (keepR k.rs w q1 z) u q ms}:=by
 refine⟨?_,?_,?_,?_,h.v,h.y⟩
 ·show JM (keepR (keepR k.rs w q1 z) u q ms)+Qf k+ZV k=k.paid+k.brought+Qu k
  rw[pJ hu,pJ hw,pL,ze (λc=>aa c.symm)];have:=h.b;omega
 ·rw[lB,<-h.p];show k.paid=k.paid+0;omega
 ·rw[lB,<-h.r];show k.brought=k.brought+0;omega
 ·show Bc k=_
  rw[lB,<-h.s];show Bc k=Bc k+0;omega
theorem Bal.sell{es:List Ent}{k:BkD}{d n p r f:Int}{w:Str}{o:Option Rs}(h:Bal es k)(hw:w∈jo){q y:Addr}{s:jx}{z:RL}(hl:s.lo=none)(hp:s.pr=p*r - f)(hc:s.co+mz z=mz (rowOf k.rs w)):Bal (es++[.sell d n w p r f o]) {k with rs:=keepR k.rs w q z,sl:=k.sl++[(y,s)]}:=by
 have a1:∀g:Yl->Int,((k.sl++[(y,s)]).map λt=>g t.2.dat).sum=(k.sl.map λt=>g t.2.dat).sum+g s.dat:=λg=>by simp
 have l0:wW s.dat=0:=by unfold wW jx.dat;rw[hl,zn rfl]
 have c0:coD s.dat=s.co:=rfl;refine⟨?_,?_,?_,?_,h.v,λy' e'=>?_⟩
 ·show JM (keepR k.rs w q z)+((k.sl++[(y,s)]).map λt=>coD t.2.dat).sum+ZV k=k.paid+k.brought+((k.sl++[(y,s)]).map λt=>wW t.2.dat).sum
  rw[pJ hw,a1,a1,l0,c0];have:=h.b;unfold Qf Qu at this;omega
 ·rw[lB,<-h.p];show k.paid=k.paid+0;omega
 ·rw[lB,<-h.r];show k.brought=k.brought+0;omega
 ·show((k.sl++[(y,s)]).map λt=>prD t.2.dat).sum=_
  rw[a1,lB,<-h.s];show Bc k+s.pr=Bc k+(p*r - f);rw[hp]
 ·show(y'.2.2.map λt=>t.2.1).Perm (lnD ((k.sl++[(y,s)]).map λt=>t.2.dat))
  have e5:lnD ((k.sl++[(y,s)]).map λt=>t.2.dat)=lnD (k.sl.map λt=>t.2.dat):=by
   unfold lnD jx.dat;rw[zp,yS];show List.map _ (_++List.filter _ [(s.core,s.lo)])=_;rw[hl,yR (by simp)];simp
  rw[e5];exact h.y y' e'
structure StB(ns:List Int)(es:List Ent)(k:BkD):Prop where
 r:Mf ns jo k.rs
 c:∀z,pcs (rowOf k.rs z)=runC es z
 n:(k.sl.map λt=>t.2.core.1).Sublist (es.map Ent.num)
 p:∀c∈k.sl.map (λt=>t.2.core),(c.2.2.2.2.map λr=>r.2.2).sum=c.2.2.2.1/\c.2.1<=1000000
 l:k.ll<=100*es.length
 bal:Bal es k
theorem StB.sl{ns:List Int}{es:List Ent}{k:BkD}(h:StB ns es k):k.sl.length<=es.length:=by have:=h.n.length_le;rwa [za,za]at this
structure Can(A:Adr)(H:Hp)(ns:List Int)(es:List Ent)(k:BkD)(e:Ent):Prop where
 s:StB ns es k
 l:es.length<=59
 nl:ns.length<=61
 g:e.good/\e.lots=none/\e.ware∈jo/\e.oth∈jo
 n:e.num∈ns
 f:ahn (runC es) e
 m:∀z,runC es z<=1000000000
 w:∃Cw dw,H k.way=some (.ins Cw dw [])/\RT A Cw
def agF(k:BkD):(k.sl.map λt=>t.2.core.1)=(k.sl.map λt=>t.2.core).map (·.1):=by rw[zr];rfl
def StB.next{ns:List Int}{es:List Ent}{k q:BkD}{e:Ent}(h:StB ns es k)(hr:Mf ns jo q.rs)(hc:∀z,pcs (rowOf q.rs z)=agq (λz=>pcs (rowOf k.rs z)) e z)(hs:q.sl.map (λt=>t.2.core)=k.sl.map (λt=>t.2.core))(hl:q.ll<=k.ll+100)(hb:Bal (es++[e]) q):StB ns (es++[e]) q:=by
 refine⟨hr,λz=>?_,?_,?_,?_,hb⟩
 ·rw[hc,sO,show(λz=>pcs (rowOf k.rs z))=runC es from funext h.c]
 ·rw[agF,hs,<-agF,zp]
  exact h.n.trans (zzR _ _)
 ·rw[hs];exact h.p
 ·have:=h.l;rw[yd];show _<=100*(es.length+1);omega
theorem ajo.some{k:BkD}{w:Str}{d n:Int}{z:Option (Int×Addr×LY)}(h:ajo k w d n z)(c:k.x≠none):z≠none:=λe=>by
 cases q:k.x with
 |none=>exact c q
 |some y=>obtain⟨ts,h2,_⟩:=h.2 y q;rw[h2]at e;cases e
inductive qO(A:Adr)(vs:List V)(H:Hp)(Q:VK)(E:XK):Prop
 |mk (b x:Addr) (k:BkD) (e:Ent) (es:List Ent) (ns:List Int) (_:vs=[.ref b,.ref x]) (_:iV A H b k) (_:IsE A H x e) (_:Can A H ns es k e) (_:∀k' H',iV A H' b k'->Stp (k.M b) (k'.M b) H H'->StB ns (es++[e]) k'->k'.C=k.C->k'.way=k.way->(k.x≠none->k'.x≠none)->Q .non H'):qO A vs H Q E
def qN(T:Txt K mg A D):jE P w K mg base CX0 8 A.aay D.aay ["self", "entry"] (qO A):=by
 refine T.acz.okv Bq λ_ _ _ _ H vs Q E hr h=>?_
 ·obtain⟨b,x,kb,e,es,ns,rfl,hB,hE,hC,k⟩:=h
  obtain⟨db,hb⟩:=hB.i;refine⟨_,(iz (jK (oF (jc (rY (K:=K)) (by rfl) T.ado (by decide+kernel) (pav 1 (ig (lK (v:=V.ref A.abk) (by rfl) T.adC rfl) iy)))) (iz (jf (jq (pv 0) (mc T.adS T.afG (xj T) hr (BK T) (mc T.ad5 T.afH (xj T) hr (BK T) .nil)) jw (pav 1 iy)))) (iz (jK (oF (jc (rY (K:=K)) (by rfl) T.ado (by decide+kernel) (pav 1 (ig (lK (v:=V.ref A.abl) (by rfl) T.adD rfl) iy)))) (iz (jf (jq (pv 0) (mc T.adS T.afI (vX T) hr (xq T) (mc T.ad5 T.afJ (vX T) hr (xq T) .nil)) jw (pav 1 iy)))) (iz (jK (oF (jc (rY (K:=K)) (by rfl) T.ado (by decide+kernel) (pav 1 (ig (lK (v:=V.ref A.abm) (by rfl) T.adE rfl) iy)))) (iz (jf (jq (pv 0) (mc T.adS T.afK (vY T) hr (xQ T) (mc T.ad5 T.afL (vY T) hr (xQ T) .nil)) jw (pav 1 iy)))) (iz (jK (oF (jc (rY (K:=K)) (by rfl) T.ado (by decide+kernel) (pav 1 (ig (lK (v:=V.ref A.abn) (by rfl) T.adF rfl) iy)))) (iz (kY)) (iz (jK (oF (jc (rY (K:=K)) (by rfl) T.ado (by decide+kernel) (pav 1 (ig (lK (v:=V.ref A.abo) (by rfl) T.adG rfl) iy)))) (iz (jf (jq (pv 0) (mc T.adS T.afM (uz T) hr (wF T) (mc T.ad5 T.afN (uz T) hr (wF T) .nil)) jw (pav 1 iy)))) (iz (jK (oF (jc (rY (K:=K)) (by rfl) T.ado (by decide+kernel) (pav 1 (ig (lK (v:=V.ref A.abp) (by rfl) T.adH rfl) iy)))) (iz (jf (jq (pv 0) (mc T.adS T.afO (qQ T) hr (rW T) (mc T.ad5 T.afP (qQ T) hr (rW T) .nil)) jw (pav 1 iy)))) jd)))))))))))),?_⟩;have ty:=aiX T hE;obtain⟨k1,k2,k3,k4,k5,k6⟩:=akH T e;obtain⟨hg,ho,hw,hu⟩:=hC.g;have hS:=hC.s;have hl:=hC.l;have af:=hS.sl;have ae:=hS.l;have w3:jo.length<=50:=by decide
  have hf:=hC.f;have hm:=hC.m;rw[<-show(λz=>pcs (rowOf kb.rs z))=runC es from funext hS.c]at hf hm;have nf:∀f:Str,f∉["way", "rows", "last_place", "paid", "brought", "sales_done", "givings_done", "days", "layings"].map Str.ofString->List.lookup f kb.fs=none:=λf=>kb.noM f
  have ab:∀{rs:RW}{z:Str}{q:Addr}{ms:RL}{y:Str},rs=keepR kb.rs z q ms->pcs (rowOf rs y)=if y=z then pcs ms else pcs (rowOf kb.rs y):=fun{rs z q ms y} e=>by
   rw[e,pL];split<;>rfl
  simp only[start_eq]
  cases e with
  |buy d n w p r f=>
   dsimp only[Ca,tQ,uc,pF,tX]at k1 k2 k3 k4 k5 k6;refine sc1 rfl ty k1 ?_;walk_at "i";refine md hb hB.me (nf _ (by decide+kernel)) ⟨b,x,kb,ns,jo,d,n,p,r,f,w,rfl,hB,hE,hg.2.1.1,hC.n,hS.r,w3,hC.nl,by omega,by omega,λsa sl x' q ms H' o aa e1 ex e2 e3 e4 ec=>k _ H' aa o (hS.next (hS.r.keep hw e3) (λz=>?_) (Zr e1) e2 (hS.bal.buy hw e1 ex ec)) rfl rfl ex.some⟩;rw[ab rfl,e4];rfl
  |gift d n w p c s=>
   dsimp only[Ca,tQ,uc,pF,tX]at k1 k2 k3 k4 k5 k6;refine sc0 rfl ty k1 ?_;refine sc1 rfl ty k3 ?_;walk_at "i";refine md hb hB.me (nf _ (by decide+kernel)) ⟨b,x,kb,ns,jo,d,n,p,c,s,w,rfl,hB,hE,hg.2.1.1,hC.n,hS.r,w3,hC.nl,λq ms H' o aa e3 e4 ec=>k _ H' aa o (hS.next (hS.r.keep hw e3) (λz=>?_) rfl (zzu _ _) (hS.bal.gift hw ec)) rfl rfl id⟩;rw[ab rfl,e4];rfl
  |sell d n w p r f o=>
   dsimp only[Ca,tQ,uc,pF,tX]at k1 k2 k3 k4 k5 k6;obtain rfl:o=none:=ho;obtain⟨Cw,dw,ad,ac⟩:=hC.w;refine sc0 rfl ty k1 ?_;refine sc0 rfl ty k3 ?_;refine sc1 rfl ty k2 ?_;walk_at "i";refine md hb hB.me (nf _ (by decide+kernel)) ⟨b,x,Cw,dw,kb,ns,jo,d,n,p,r,f,w,rfl,hB,ad,ac,hE,hS.r,w3,hC.nl,hg.2.1.1,hf,hm w,by omega,λy s q ms H' o aa e1 e2 e3 e4 e5 ep e6 e7 ec=>k _ H' aa o ⟨hS.r.keep hw e6,λz=>?_,?_,?_,?_,hS.bal.sell hw e4 ep ec⟩ rfl rfl id⟩
   ·rw[ab rfl,e7,sO,<-show(λz=>pcs (rowOf kb.rs z))=runC es from funext hS.c];rfl
   ·show(List.map _ (kb.sl++[(y,s)])).Sublist _
    rw[zp,zp];refine hS.n.append ?_;show[s.n].Sublist [n];rw[e1];exact zzI _
   ·show∀c∈List.map _ (kb.sl++[(y,s)]),_
    rw[zp];intro c hc;rcases yg.mp hc with hc|hc
    ·exact hS.p c hc
    ·rw[zx.mp hc]
     exact⟨e5,by show s.d<=_;rw[e2];exact hg.1.2⟩
   ·rw[yd];show kb.ll<=100*(es.length+1);omega
  |split d n w m f=>
   dsimp only[Ca,tQ,uc,pF,tX]at k1 k2 k3 k4 k5 k6;refine sc0 rfl ty k1 ?_;refine sc0 rfl ty k3 ?_;refine sc0 rfl ty k2 ?_;refine sc0 rfl ty k4 ?_;refine sc1 rfl ty k5 ?_;walk_at "i";refine md hb hB.me (nf _ (by decide+kernel)) ⟨b,x,kb,ns,jo,d,n,m,f,w,rfl,hB,hE,(by obtain⟨_,h1,h2⟩:=hg;unfold Rg at h1 h2;exact⟨⟨by omega,by omega⟩,by omega,by omega⟩),hS.r,w3,hC.nl,hf.imp_left (λc=>?_),λq ms H' o aa e6 e7 ec=>k _ H' aa o (hS.next (hS.r.keep hw e6) (λz=>?_) rfl (zzu _ _) (hS.bal.split hw ec)) rfl rfl id⟩
   ·have h1:=vC (hS.r.row w).p
    have c:pcs (rowOf kb.rs w)=0:=c;exact zzv.mp (by omega)
   ·rw[ab rfl,e7];rfl
  |part d n w u s t=>
   dsimp only[Ca,tQ,uc,pF,tX]at k1 k2 k3 k4 k5 k6;refine sc0 rfl ty k1 ?_;refine sc0 rfl ty k3 ?_;refine sc0 rfl ty k2 ?_;refine sc0 rfl ty k4 ?_;refine sc0 rfl ty k5 ?_;refine sc1 rfl ty k6 ?_;walk_at "i";refine md hb hB.me (nf _ (by decide+kernel)) ⟨b,x,kb,ns,jo,d,n,s,t,w,u,rfl,hB,hE,?_,Ne.symm hg.2.2.1,hw,hS.r,w3,hC.nl,λq1 l1 q ms H' o aa e1 e2 e6 e7 ec=>k _ H' aa o (hS.next ((hS.r.keep hw e1).keep hu e6) (λz=>?_) rfl (zzu _ _) (hS.bal.part hw hu (Ne.symm hg.2.2.1) ec)) rfl rfl id⟩
   ·obtain⟨h1,h2⟩:=hg.2.2.2
    unfold Rg at h1 h2;exact⟨⟨by omega,by omega⟩,by omega,by omega⟩
   ·show pcs (rowOf (keepR (keepR kb.rs w q1 l1) u q ms) z)=(if z=u then pcs (rowOf kb.rs u)+pcs (rowOf kb.rs w)else pcs (rowOf kb.rs z))
    rw[pL];by_cases c:z=u
    ·rw[zn c,zn c,e7]
    ·rw[ze c,ze c,pL]
     by_cases c2:z=w
     ·rw[zn c2,e2,c2]
     ·rw[ze c2]
def RJ{t u:TS}{D:Ends}{σ:L2.St}{H:Hp}(P:L2.St->Hp->Prop)(h1:∀q H',P q H'->u D q H')(h2:∀N:L2.St->Hp->Prop,(∀q H',P q H'->N q H')->t {D with nx:=N} σ H):Xb t u D σ H:=h2 _ h1
noncomputable def Aft(k:BkD)(e:Ent):Prop:=∀t,k.last=some t->t.2.1<e.day\/(t.2.1=e.day/\t.2.2<e.num)
def ajq{a b c d:Int}(h:c<a\/(c=a/\d<b)):HT.lexLe [a,b] [c,d]=false:=by
 unfold HT.lexLe;by_cases e:a=c
 ·rw[zn e]
  unfold HT.lexLe;rw[ze (by omega)];exact ym (by omega)
 ·rw[ze e]
  exact ym (by omega)
def VD(k:BkD)(l:Option (Addr×Int×Int)):CN (Str.ofString "last_place") (PN l) k.fs={k with last:=l}.fs:=by cases k;rfl
def ahI(A:Adr)(e:Ent):∃q,q e=true/\(e.cls A,Fi A q)∈[(A.abk,Fi A Ca),(A.abm,Fi A tQ),(A.abl,Fi A uc),(A.abo,Fi A pF),(A.abp,Fi A tX)]:=by
 cases e with
 |buy=>exact⟨Ca,rfl,zq (i:=0) rfl⟩
 |sell=>exact⟨tQ,rfl,zq (i:=1) rfl⟩
 |gift=>exact⟨uc,rfl,zq (i:=2) rfl⟩
 |split=>exact⟨pF,rfl,zq (i:=3) rfl⟩
 |part=>exact⟨tX,rfl,zq (i:=4) rfl⟩
def ahG{e:Ent}{q:List (Key×V)}(h:ahn (jr q) e):e.beh q≠none:=by
 cases e with
 |buy=>exact λc=>by cases c
 |gift=>exact λc=>by cases c
 |part=>exact λc=>by cases c
 |sell d n w p r f o=>
  have h:p<=jr q w:=h;rw[Ent.beh,ze (by omega)];exact λc=>by cases c
 |split d n w m f=>
  have h:jr q w=0\/1<=jr q w*m/f:=h;rw[Ent.beh,ze (by omega)];exact λc=>by cases c
def iV.isE{H:Hp}{b x C dx:Addr}{k:BkD}{e:Ent}{q:V}(h:iV A H b k)(_:IsE A H x e)(z:H x=some (.ins C dx (e.fs q))):xG H (k.M b) x=some (.ins C dx (e.fs q)):=by cases e<;>exact h.day z
def iV.keepE{H H':Hp}{b x:Addr}{k:BkD}{M:List Addr}{e:Ent}(h:iV A H b k)(o:Stp (k.M b) M H H')(q:IsE A H x e)(ho:e.lots=none):IsE A H' x e:=let⟨dx,nv,z,c⟩:=q;⟨dx,nv,o.k x _ (ug (h.isE q z)) z,by rw[ho]at c⊢;exact c⟩
inductive JV(A:Adr)(vs:List V)(H:Hp)(Q:VK)(E:XK):Prop
 |mk (b x:Addr) (k:BkD) (e:Ent) (es:List Ent) (ns:List Int) (_:vs=[.ref b,.ref x]) (_:iV A H b k) (_:IsE A H x e) (_:Can A H ns es k e) (_:Aft k e) (_:∀k' t H',iV A H' b k'->Stp (k.M b) (k'.M b) H H'->StB ns (es++[e]) k'->k'.C=k.C->k'.way=k.way->(k.x≠none->k'.x≠none)->k'.last=some (t,e.day,e.num)->Q .non H'):JV A vs H Q E
def JT(T:Txt K mg A D):jE P w K mg base CX0 9 A.aaJ D.aaJ ["self", "entry"] (JV A):=by
 refine T.acK.okv Te λ_ _ _ _ H vs Q E hr h=>?_
 ·obtain⟨b,x,kb,e,es,ns,rfl,hB,hx,hC,hA,k⟩:=h
  obtain⟨db,hb⟩:=hB.i;have hc:=CQ T hB;have ad:=λf h=>kb.noM f h
  refine ⟨_,(iu (jK (PW.pt (NP (iR (LK) (fv K 0) mJ (iY _)) (Gv (iR ((agT (K:=K) hr)) (pcg (Aq T) hr T.abS (Dm T) (pav 1 iy)) (fv K 0) (iY _))))) (iz (kY)) jd)
   (iu (jK (iR (Gd) (jq (pv 1) (mc T.aeq T.afS (Cj T) hr (Cu T) (mc T.aeH T.afT (Af T) hr (Bs T) (mc T.aez T.afU (Ac T) hr (BW T) (mc T.aeR T.afV (wX T) hr (Aa T) (mc T.aeY T.afW (uX T) hr (vH T) .nil))))) jw (ig (lG (pv 0) (mc T.adS T.afX (qP T) hr (tM T) (mc T.ad5 T.afY (qP T) hr (tM T) .nil)) jw) iy)) mJ (iY _)) (iz (kY)) jd)
   (iu (jf (jq (pv 0) (mc T.adS T.afQ (qN T) hr (sW T) (mc T.ad5 T.afR (qN T) hr (sW T) .nil)) jw (pav 1 iy)))
   (iz (jk (K:=K) (pv 0) (pcg (Aq T) hr T.abS (Dm T) (pav 1 iy)) rfl))))),?_⟩
  simp only[start_eq];refine RJ (λσ' H'=>σ'=[some (.ref b),some (.ref x)]/\Same H H') ?_ ?_
  ·rintro σ1 H1 ⟨rfl,s1⟩
   refine RJ (λσ' H'=>σ'=[some (.ref b),some (.ref x)]/\Same H H') ?_ ?_
   ·rintro σ2 H2 ⟨rfl,s2⟩
    have ab:=hB.same s2;have ag:=hx.same s2;obtain⟨av,an⟩:=ab.i;have al:Can A H2 ns es kb e:=⟨hC.s,hC.l,hC.nl,hC.g,hC.n,hC.f,hC.m,let⟨Cw,dw,h1,h2⟩:=hC.w;⟨Cw,dw,s2 _ _ h1,h2⟩⟩;walk_at "m";refine md an ab.me (ad _ (by decide+kernel)) ⟨b,x,kb,e,es,ns,rfl,ab,ag,al,λk3 H3 as o3 q c3 w3 x3=>?_⟩;have ap:=ab.keepE o3 ag hC.g.2.1
    try dsimp only
    refine⟨x,e,rfl,ap,λt ht=>?_⟩;have s4:=iG (o:=.tup [V.int e.day,V.int e.num]) ht;have aa:=as.same s4;have af:(upd H3 t (.tup [V.int e.day,V.int e.num])) t=some (.tup [V.int e.day,V.int e.num]):=iC;generalize upd H3 t (.tup [V.int e.day,V.int e.num])=H4 at s4 aa af⊢;obtain⟨aw,ar⟩:=aa.i;have aj:=CQ T aa;refine sw ar aj.c aj.l (Ss _) (?_);rw[show V.ref t=PN (some (t,e.day,e.num))from rfl,VD];exact k _ t _ (aa.put (la:=some (t,e.day,e.num)) (pa:=k3.paid) (br:=k3.brought) λu hu=>by cases hu;exact aa.tup af) ((pA s2).trans (o3.trans ((pA s4).trans (rH BkD.mb)))) ⟨q.r,q.c,q.n,q.p,q.l,⟨q.bal.b,q.bal.p,q.bal.r,q.bal.s,q.bal.v,q.bal.y⟩⟩ c3 w3 x3 rfl
   ·intro N hN
    have ac:=hB.same s1;obtain⟨ay,ao⟩:=ac.i;obtain⟨dx,nv,ai,aq⟩:=hx.same s1;walk_at "i";obtain⟨ax,hk,ah⟩:=ahI A e;have hS:=hC.s;refine md ai ah (by cases e<;>rfl) (md ao ac.me (ad _ (by decide+kernel)) ⟨b,kb,ns,jo,rfl,ac,hS.r,by decide,hC.nl,λp kv H2 s2 hp am hH hl hv=>?_⟩);have ae:ahn (jr kv) e:=by rw[show jr kv=runC es from funext λz=>(hv z).trans (hS.c z)];exact hC.f
    refine⟨x,p,e,kv,hk,rfl,⟨dx,nv,s2 _ _ ai,aq.same s2⟩,hC.g.1,.inl am,hH,by omega,λc=>(ahG ae c).elim,λau _ p2 H3 s3 _ _=>?_⟩;show(if V.ref p2=V.non then _ else _);rw[ze (λc=>by cases c)];exact hN _ _ ⟨rfl,s1.trans (s2.trans s3)⟩
  ·intro N hN
   walk_at "i";refine rd hb hc.c hc.l (v:=PN kb.last) (by rfl) (?_)
   cases hl:kb.last with
   |none=>
    rw[ze (by simp[PN])];exact hN _ _ ⟨rfl,same_refl _⟩
   |some t=>
    rw[zn (by simp[PN])];refine⟨x,e,rfl,hx,λt1 ak=>?_⟩;have s1:=iG (o:=.tup [V.int e.day,V.int e.num]) ak;refine rd (s1 _ _ hb) hc.c hc.l (v:=PN kb.last) (by rfl) (?_);rw[hl];refine⟨t1,t.1,[e.day,e.num],[t.2.1,t.2.2],rfl,rfl,jt iC,jt (s1 _ _ (hB.frz.p t hl)),_,rfl,?_⟩;rw[ajq (hA t hl),ze (by decide)];exact hN _ _ ⟨rfl,s1⟩
structure Ini(B H:Hp)(x C dx:Addr)(fs:List (Str×V))(os:List (Addr×HO)):Prop where
 n:New B H x C dx fs
 o:∀p∈os,p.1≠x/\B p.1=none/\H p.1=some p.2
 u:os.Pairwise λp q=>p.1≠q.1
theorem Ini.put{B H:Hp}{x C dx:Addr}{fs:List (Str×V)}{os:List (Addr×HO)}(h:Ini B H x C dx fs os)(gs:List (Str×V)):Ini B (upd H x (.ins C dx gs)) x C dx gs os:=⟨h.n.put rfl,λp q=>let⟨a,b,c⟩:=h.o p q;⟨a,b,(iJ a).trans c⟩,h.u⟩
def Ini.new{B H:Hp}{x C dx q:Addr}{o:HO}{fs:List (Str×V)}{os:List (Addr×HO)}(h:Ini B H x C dx fs os)(hq:H q=none):Ini B (upd H q o) x C dx fs ((q,o)::os):=by
 have s:=iG (o:=o) hq;refine⟨h.n.same s,λp z=>?_,List.pairwise_cons.mpr ⟨λp z e=>?_,h.u⟩⟩
 ·rcases zu.mp z with rfl|z
  ·exact⟨λe=>(by have:=h.n.h;rw[<-show q=x from e,hq]at this;cases this),h.n.s.free hq,iC⟩
  ·obtain⟨a,b,c⟩:=h.o p z
   exact⟨a,b,s _ _ c⟩
 ·have:=(h.o p z).2.2
  rw[<-show q=p.1 from e,hq]at this;cases this
noncomputable def k0(C w pr ps pg:Addr)(x:Option (Int×Addr×LY)):BkD:=⟨C,w,pr,ps,pg,[],none,0,0,[],[],x⟩
noncomputable def os0(pr ps pg:Addr):List (Addr×HO):=[(pg,.lst []),(ps,.lst []),(pr,.dK [])]
inductive uM(K:Fg_)(vs:List V)(H:Hp)(Q:VK)(E:XK):Prop
 |mk (x w:Addr) (B:Hp) (C dx:Addr) (_:vs=[.ref x,.ref w]) (_:New B H x C dx []) (_:CB K C) (_:∀pr ps pg H',Ini B H' x C dx (k0 C w pr ps pg none).fs (os0 pr ps pg)->Q .non H'):uM K vs H Q E
def uH(T:Txt K mg A D):jE P w K mg base CX0 1 A.aaL D.aaL ["self", "way"] (uM K):=by
 refine T.acM.okv Fl λ_ _ _ _ H vs Q E hr h=>?_
 ·obtain⟨x,w,B,C,dx,rfl,hN,z,k⟩:=h
  refine ⟨_,(iu (jk (K:=K) (pv 0) (pvD 1) rfl)
   (iu (jk (K:=K) (pv 0) FJ rfl)
   (iu (jk (K:=K) (pv 0) mJ rfl)
   (iu (jk (K:=K) (pv 0) iB rfl)
   (iu (jk (K:=K) (pv 0) iB rfl)
   (iu (jk (K:=K) (pv 0) (jX iy) rfl)
   (iz (jk (K:=K) (pv 0) (jX iy) rfl)))))))),?_⟩
  have q:Ini B H x C dx [] []:=⟨hN,λp h=>(zl h).elim,.nil⟩;clear hN;simp only[start_eq];refine jC λu hu=>?_;rw[ap_seq];walk_at "i";refine sw q.n.h z.c z.w (by decide) ?_;rw[wR _ _ (by decide+kernel)];have q:=q.put ([]++[(Str.ofString "way",V.ref w)]);generalize upd H x _=H1 at q⊢;subst hu
  try dsimp only
  refine jC λu hu=>?_;rw[ap_seq];walk_at "i";intro pr aa;have q:=q.new (o:=.dK []) aa;generalize upd H1 pr _=H1a at q⊢;refine sw q.n.h z.c z.r (by simp) ?_;rw[lA (f:=Str.ofString "rows") ["way"]];have q:=q.put (([]++[(Str.ofString "way",V.ref w)])++[(Str.ofString "rows",V.ref pr)]);generalize upd H1a x _=H2 at q⊢;subst hu
  try dsimp only
  refine jC λu hu=>?_;rw[ap_seq];walk_at "i";refine sw q.n.h z.c z.l (by simp) ?_;rw[lA (f:=Str.ofString "last_place") ["way", "rows"]];have q:=q.put ((([]++[(Str.ofString "way",V.ref w)])++[(Str.ofString "rows",V.ref pr)])++[(Str.ofString "last_place",V.non)]);generalize upd H2 x _=H3 at q⊢;subst hu
  try dsimp only
  refine jC λu hu=>?_;rw[ap_seq];walk_at "i";refine sw q.n.h z.c z.p (by simp) ?_;rw[lA (f:=Str.ofString "paid") ["way", "rows", "last_place"]];have q:=q.put (((([]++[(Str.ofString "way",V.ref w)])++[(Str.ofString "rows",V.ref pr)])++[(Str.ofString "last_place",V.non)])++[(Str.ofString "paid",V.int 0)]);generalize upd H3 x _=H4 at q⊢;subst hu
  try dsimp only
  refine jC λu hu=>?_;rw[ap_seq];walk_at "i";refine sw q.n.h z.c z.b (by simp) ?_;rw[lA (f:=Str.ofString "brought") ["way", "rows", "last_place", "paid"]];have q:=q.put ((((([]++[(Str.ofString "way",V.ref w)])++[(Str.ofString "rows",V.ref pr)])++[(Str.ofString "last_place",V.non)])++[(Str.ofString "paid",V.int 0)])++[(Str.ofString "brought",V.int 0)]);generalize upd H4 x _=H5 at q⊢;subst hu
  try dsimp only
  refine jC λu hu=>?_;rw[ap_seq];walk_at "i";refine⟨sz,λps ab=>?_⟩;have q:=q.new (o:=.lst []) ab;generalize upd H5 ps _=H5a at q⊢;refine sw q.n.h z.c z.s (by simp) ?_;rw[lA (f:=Str.ofString "sales_done") ["way", "rows", "last_place", "paid", "brought"]];have q:=q.put (((((([]++[(Str.ofString "way",V.ref w)])++[(Str.ofString "rows",V.ref pr)])++[(Str.ofString "last_place",V.non)])++[(Str.ofString "paid",V.int 0)])++[(Str.ofString "brought",V.int 0)])++[(Str.ofString "sales_done",V.ref ps)]);generalize upd H5a x _=H6 at q⊢;subst hu
  try dsimp only
  walk_at "i";refine⟨sz,λpg ac=>?_⟩;have q:=q.new (o:=.lst []) ac;generalize upd H6 pg _=H6a at q⊢;refine sw q.n.h z.c z.g (by simp) ?_;rw[lA (f:=Str.ofString "givings_done") ["way", "rows", "last_place", "paid", "brought", "sales_done"]];exact k pr ps pg _ (q.put _)
def aiR{B H:Hp}{x C dx w pr ps pg:Addr}{z:Option (Int×Addr×LY)}{os:List (Addr×HO)}(h:Ini B H x C dx (k0 C w pr ps pg z).fs (os++os0 pr ps pg))(hc:(C=A.aba/\z=none)\/(C=A.abc/\z≠none))(hx:∀y,z=some y->(y.2.1,HO.lst [])∈os/\y.2.2=[]):
  iV A H x (k0 C w pr ps pg z)/\∀m∈(k0 C w pr ps pg z).M x,B m=none:=by
 have m1:(pg,HO.lst [])∈os++os0 pr ps pg:=yh _ (zq (i:=0) rfl);have m2:(ps,HO.lst [])∈os++os0 pr ps pg:=yh _ (zq (i:=1) rfl);have m3:(pr,HO.dK [])∈os++os0 pr ps pg:=yh _ (zq (i:=2) rfl);have hu:=zzK.mp h.u;have aa:pg≠ps:=List.rel_of_pairwise_cons hu.2.1 zm;refine⟨⟨hc,⟨dx,h.n.h⟩,(h.o _ m3).2.2,(h.o _ m2).2.2,(h.o _ m1).2.2,λy e=>?_,Ne.symm aa,⟨λt q=>(zl q).elim,λt q=>(by cases q),λt q=>(zl q).elim,λt q=>(zl q).elim,λy e t q=>by rw[(hx y e).2]at q;exact(zl q).elim⟩⟩,λm hm=>?_⟩
 ·obtain⟨g1,g2⟩:=hx y e
  refine⟨by rw[g2];exact(h.o _ (zzn _ g1)).2.2,hu.2.2 _ g1 _ (zq (i:=1) rfl),hu.2.2 _ g1 _ (zq (i:=0) rfl)⟩
 ·unfold BkD.M at hm
  rcases yg.mp hm with c|c
  ·rcases zu.mp c with rfl|c
   ·exact h.n.n
   rcases zu.mp c with rfl|c
   ·exact(h.o _ m3).2.1
   rcases zu.mp c with rfl|c
   ·exact(h.o _ m2).2.1
   ·rw[zx.mp c]
    exact(h.o _ m1).2.1
  ·unfold BkD.xm at c
   split at c
   ·exact(zl c).elim
   ·next y e=>
    rw[zx.mp c];exact(h.o _ (zzn _ (hx y e).1)).2.1
inductive nM(A:Adr)(vs:List V)(H:Hp)(Q:VK)(E:XK):Prop
 |mk (x w:Addr) (g:Int) (B:Hp) (dx:Addr) (_:vs=[.ref x,.ref w,.int g]) (_:New B H x A.abc dx []) (_:∀k H',Same B H'->iV A H' x k->(∀m∈k.M x,B m=none)->(∃pr ps pg y,k=k0 A.abc w pr ps pg (some y)/\k.ll=0)->Q .non H'):nM A vs H Q E
def uT(T:Txt K mg A D):jE P w K mg base CX0 2 A.aaM D.aaM ["self", "way", "days"] (nM A):=by
 refine T.acN.okv uR λ_ _ _ _ H vs Q E hr h=>?_
 ·obtain⟨x,w,g,B,dx,rfl,hN,k⟩:=h
  refine ⟨_,(iu (jf (pM T.af7 (uH (K:=K) T) (hr.mono (by decide)) (by rfl) T.adu T.acM.kp (wu T) .nil jw (pav 0 (pav 1 iy))))
   (iu (jk (K:=K) (pv 0) (pvD 2) rfl)
   (iz (jk (K:=K) (pv 0) (jX iy) rfl)))),?_⟩
  have hC:CB K A.abc:=⟨T.ad5,T.ad6,T.ad7,T.ad8,T.ad9,T.aea,T.aeb,T.aec⟩;simp only[start_eq];walk_at "m";refine⟨x,w,B,A.abc,dx,rfl,hN,hC,λpr ps pg H1 q=>?_⟩;walk_at "a";refine sw q.n.h T.ad5 T.aed (show(7:Nat)<1000 by decide) (?_);rw[lA (f:=Str.ofString "days") ["way", "rows", "last_place", "paid", "brought", "sales_done", "givings_done"]];have q:=q.put ((k0 A.abc w pr ps pg none).fs++[(Str.ofString "days",V.int g)]);generalize upd H1 x _=H2 at q⊢;refine⟨sz,λla z=>?_⟩;have q:=q.new (o:=.lst []) z;generalize upd H2 la _=H3 at q⊢;refine sw q.n.h T.ad5 T.aee (show(8:Nat)<1000 by decide) (?_);rw[lA (f:=Str.ofString "layings") ["way", "rows", "last_place", "paid", "brought", "sales_done", "givings_done", "days"]];have q:=q.put ((k0 A.abc w pr ps pg (some (g,la,[]))).fs);obtain⟨g1,g2⟩:=aiR (A:=A) (os:=[(la,.lst [])]) q (.inr ⟨rfl,λc=>by cases c⟩) λy e=>by cases e;exact⟨zm,rfl⟩
  exact k _ _ q.n.s g1 g2 ⟨pr,ps,pg,_,rfl,rfl⟩
def st0{ns:List Int}{k:BkD}(h:∃C w pr ps pg xo,k=k0 C w pr ps pg xo/\k.ll=0):StB ns [] k:=by
 obtain⟨C,w,pr,ps,pg,xo,rfl,q⟩:=h;exact⟨⟨.nil,λt h=>(zl h).elim,λt h=>(zl h).elim⟩,λz=>rfl,zzI _,λt h=>(zl h).elim,by rw[q];exact yj _,rfl,rfl,rfl,rfl,rfl,λy e=>by unfold BkD.ll at q;rw[e]at q;rw[zzv.mp q];exact zz3 _⟩
inductive IW(A:Adr)(vs:List V)(H:Hp)(Q:VK)(E:XK):Prop
 |mk (b q:Addr) (k:BkD) (es:EL) (hs:List Ent) (_:vs=[.ref b,.ref q]) (_:iV A H b k) (_:(∃C w pr ps pg xo,k=k0 C w pr ps pg xo/\k.ll=0)) (_:(∃Cw dw,H k.way=some (.ins Cw dw [])/\RT A Cw)) (_:k.way∉k.M b) (_:H q=some (.lst (mX es))) (_:KZ A H es) (_:Vb hs) (_:hs.Pairwise BfE) (_:hs.length<=59) (_:(hs.map Ent.num).Nodup) (_:(es.map (·.2)).Perm hs) (_:∀k' H',iV A H' b k'->Stp (k.M b) (k'.M b) H H'->StB (hs.map Ent.num) hs k'->k'.C=k.C->(k.x≠none->k'.x≠none)->Q (.ref b) H'):IW A vs H Q E
def uq(T:Txt K mg A D):jE P w K mg base CX0 10 A.aaK D.aaK ["book", "entries"] (IW A):=by
 refine T.acL.F.okv uQ λ_ _ _ _ H vs Q E hr h=>?_
 ·obtain⟨b,q,kb,es,z,rfl,hB,h0,hw,aq,hq,hE,hH,hb,hl,hn,ag,k⟩:=h
  refine ⟨_,(iu (qC yB rfl (lN (K:=K) (pcg (Qc T) hr T.abT (Ut T) (pav 1 iy))) (iK (i:=2) uQ.nd rfl orl)
    (iz (jf (jq (pv 0) (mc T.adS T.afZ (JT T) hr (Nf T) (mc T.ad5 T.af0 (JT T) hr (Nf T) .nil)) jw (pav 2 iy)))))
   (iz (iM (pvD 0)))),?_⟩
  simp only[start_eq];rw[ap_seq,ap_for];walk_at "i";have ax:es.length=z.length:=by have:=ag.length_eq;rwa [za]at this
  refine⟨q,es,rfl,hq,hE,by omega,?_,λp ab H1 s1 hp h1 af an=>?_⟩
  ·have:=(ag.map Ent.num).nodup_iff.mpr hn
   rwa [zr]at this
  have ah:ab.map (·.2)=z:=aik ((af.map (·.2)).trans ag) an hb;have aw:KZ A H1 ab:=λr hr=>(hE r (af.mem_iff.mp hr)).same s1;have aj:=hB.same s1;refine⟨p,rfl,⟨_,iH h1⟩,?_⟩
  refine wJ (K:=K) (a:=p) (xs:=mX ab) (λi σ H2=>∃(k2:BkD)(v2:Option V),σ=[some (.ref b),some (.ref q),v2]/\iV A H2 b k2/\Stp (kb.M b) (k2.M b) H1 H2/\StB (z.map Ent.num) (z.take i) k2/\k2.C=kb.C/\k2.way=kb.way/\(kb.x≠none->k2.x≠none)/\∀t,k2.last=some t->∃e∈z.take i,t.2.1=e.day/\t.2.2=e.num)
   ⟨kb,_,rfl,aj,pA (same_refl _),st0 h0,rfl,rfl,id,λt ht=>?_⟩ (λi σ H2 _ ⟨k2,_,_,_,o2,_⟩=>iH (o2.k p _ (hB.fresh hp) h1)) ?_ ?_
  ·obtain⟨C,w,pr,ps,pg,xo,rfl,_⟩:=h0
   cases ht
  ·rintro i y σ H2 hi ⟨k2,v2,rfl,ad,o2,ae,c2,w2,x2,ac⟩
   obtain⟨r,ai,rfl⟩:=BV hi;have as:=zq ai;have ay:i<ab.length:=(zo.mp ai).1;have aa:z[i]? =some r.2:=by rw[<-ah,zh,ai];rfl
   have hln':ab.length=z.length:=by rw[<-ah,za]
   have ak:=hH.g r.2 (zq aa);have au:=aj.keepE o2 (aw r as) ak.2.1;obtain⟨az,ao⟩:=ad.i;have htk:z.take (i+1)=z.take i++[r.2]:=by rw[yk,aa];rfl
   have al:Can A H2 (z.map Ent.num) (z.take i) k2 r.2:=⟨ae,by rw[yD];omega,by rw[za];omega,ak,zi.mpr ⟨_,zq aa,rfl⟩,hH.f i _ aa,hH.m i,let⟨Cw,dw,g1,g2⟩:=hw;⟨Cw,dw,by rw[w2];exact o2.k _ _ aq (s1 _ _ g1),g2⟩⟩
   have am:Aft k2 r.2:=λt ht=>by
    obtain⟨e,he,ed,en⟩:=ac t ht;have h4:=hb;rw[<-zzE i z]at h4
    have h5:=(zzK.mp h4).2.2 e he r.2 (by
     have hil':i<z.length:=by omega
     rw[yys hil'];have:z[i]=r.2:=by rw[zg hil']at aa;exact zw aa
     rw[this];exact zm)
    rw[ed,en];exact h5
   walk_at "i";refine md ao ad.me (k2.noM _ (by decide+kernel)) ⟨b,r.1,k2,r.2,_,_,rfl,ad,au,al,am,λk3 t H3 av o3 ap c3 w3 x3 ar=>?_⟩;refine⟨k3,av,o2.trans o3,htk▸ap,c3.trans c2,w3.trans w2,λc=>x3 (x2 c),λu hu=>?_⟩;rw[ar]at hu;cases hu;exact⟨r.2,by rw[htk];exact yg.mpr (.inr (by simp)),rfl,rfl⟩
  ·rintro σ H2 ⟨k2,v2,rfl,ad,o2,ae,c2,w2,x2,ac⟩
   rw[oG,show ab.length=z.length by rw[<-ah,za],yJ]at ae;walk_at "a";exact k k2 H2 ad ((pA s1).trans o2) ae c2 x2
structure ajY(A:Adr)(H:Hp)(w q:Addr)(es:EL)(hs:List Ent):Prop where
 w:∃Cw dw,H w=some (.ins Cw dw [])/\RT A Cw
 q:H q=some (.lst (mX es))
 e:KZ A H es
 h:Vb hs
 b:hs.Pairwise BfE
 l:hs.length<=59
 n:(hs.map Ent.num).Nodup
 p:(es.map (·.2)).Perm hs
def mine{B H:Hp}{b:Addr}{k q:BkD}(s:Same B H){H':Hp}(hm:∀m∈k.M b,B m=none)(o:Stp (k.M b) (q.M b) H H'):Same B H'/\∀m∈q.M b,B m=none:=
 ⟨λa u e=>o.k a u (λc=>by rw[hm a c]at e;cases e) (s _ _ e),λm c=>(o.f m c).elim (hm m) λe=>s.free e⟩
inductive Ks(A:Adr)(vs:List V)(H:Hp)(Q:VK)(E:XK):Prop
 |mk (w q:Addr) (es:EL) (hs:List Ent) (_:vs=[.ref w,.ref q]) (_:ajY A H w q es hs) (_:∀b k H',Same H H'->iV A H' b k->(∀m∈k.M b,H m=none)->StB (hs.map Ent.num) hs k->Q (.ref b) H'):Ks A vs H Q E
def Va(T:Txt K mg A D):jE P w K mg base CX0 11 A.aa8 D.aa8 ["way", "entries"] (Ks A):=by
 refine T.ac9.F.okv UG λ_ _ _ _ H vs Q E hr h=>?_
 ·obtain⟨w,q,es,hs,rfl,z,k⟩:=h
  refine⟨_,(iz (iM (pcg (uq T) hr T.acL (vU T) (ig (lD T.afe (uH (K:=K) T) (hr.mono (by decide)) (by rfl) T.adu (wu T) .nil jw (pav 0 iy)) (pav 1 iy))))),?_⟩;walk_at "a";intro b db hb ac _;have hN:=ql (C:=A.aba) hb ac;refine⟨b,w,H,A.aba,db,rfl,hN,⟨T.adS,T.adT,T.adU,T.adV,T.adW,T.adX,T.adY,T.adZ⟩,λpr ps pg H1 hI=>⟨rfl,?_⟩⟩;obtain⟨hB,hm⟩:=aiR (A:=A) (os:=[]) hI (.inl ⟨rfl,rfl⟩) λy e=>by cases e
  have s1:=hI.n.s;obtain⟨Cw,dw,w1,w2⟩:=z.w;refine⟨b,q,_,es,hs,rfl,hB,⟨_,_,_,_,_,_,rfl,rfl⟩,⟨Cw,dw,s1 _ _ w1,w2⟩,λc=>?_,s1 _ _ z.q,λr hr=>(z.e r hr).same s1,z.h,z.b,z.l,z.n,z.p,λk2 H2 ab o2 aa c2 _=>?_⟩
  ·have c:H w=none:=hm _ c
   rw[w1]at c;cases c
  ·obtain⟨g1,g2⟩:=mine s1 hm o2
   exact k b k2 H2 g1 ab g2 aa
inductive rQ(A:Adr)(vs:List V)(H:Hp)(Q:VK)(E:XK):Prop
 |mk (w q:Addr) (g:Int) (es:EL) (hs:List Ent) (_:vs=[.ref w,.int g,.ref q]) (_:ajY A H w q es hs) (_:∀b k H',Same H H'->iV A H' b k->(∀m∈k.M b,H m=none)->StB (hs.map Ent.num) hs k->k.C=A.abc->k.x≠none->Q (.ref b) H'):rQ A vs H Q E
def CZ(T:Txt K mg A D):jE P w K mg base CX0 11 A.aaN D.aaN ["way", "days", "entries"] (rQ A):=by
 refine T.acO.F.okv CP λ_ _ _ _ H vs Q E hr h=>?_
 ·obtain⟨w,q,g,es,hs,rfl,z,k⟩:=h
  refine⟨_,(iz (iM (pcg (uq T) hr T.acL (vU T) (ig (lD T.ae8 (uT (K:=K) T) (hr.mono (by decide)) (by rfl) T.adw (vM T) .nil jw (pav 0 (pav 1 iy))) (pav 2 iy))))),?_⟩;walk_at "a";intro b db hb ac _;have hN:=ql (C:=A.abc) hb ac;refine⟨b,w,g,H,db,rfl,hN,λk1 H1 s1 hB hm hk=>⟨rfl,?_⟩⟩;obtain⟨pr,ps,pg,xo,rfl,hl⟩:=hk;obtain⟨Cw,dw,w1,w2⟩:=z.w;refine⟨b,q,_,es,hs,rfl,hB,⟨_,_,_,_,_,_,rfl,hl⟩,⟨Cw,dw,s1 _ _ w1,w2⟩,λc=>?_,s1 _ _ z.q,λr hr=>(z.e r hr).same s1,z.h,z.b,z.l,z.n,z.p,λk2 H2 ab o2 aa c2 x2=>?_⟩
  ·have c:H w=none:=hm _ c
   rw[w1]at c;cases c
  ·obtain⟨g1,g2⟩:=mine s1 hm o2
   exact k b k2 H2 g1 ab g2 aa c2 (x2 λe=>by cases e)
def ajm{H:Hp}{D:Addr}{u:HO}:But D H (upd H D u):=λb o n e=>(iJ n).trans e
theorem agp{H0 H:Hp}:∀{sl:List (Addr×jx)}{acc:List V},tD (λt v=>∃y s,v=.ref y/\(kO A H y s/\H0 s.pl=none)/\s.dat=t.2.dat) sl acc->∃q:List (Addr×jx),acc=Ff q/\q.map (λt=>t.2.dat)=sl.map (λt=>t.2.dat)/\∀t∈q,kO A H t.1 t.2/\H0 t.2.pl=none
 |[],[],_=>⟨[],rfl,rfl,λt h=>(zl h).elim⟩
 |t::sl,v::acc,h=>by
  obtain⟨⟨y,s,rfl,hs,hc⟩,h2⟩:=h;obtain⟨q,e1,e2,e3⟩:=agp h2;refine⟨(y,s)::q,by rw[e1];rfl,by rw[zf,e2,hc];rfl,λu z=>?_⟩;rcases zu.mp z with rfl|z
  ·exact hs
  ·exact e3 u z
 |[],_::_,h=>h.elim
 |_::_,[],h=>h.elim
inductive Bu(A:Adr)(vs:List V)(H:Hp)(Q:VK)(E:XK):Prop
 |mk (b:Addr) (k:BkD) (_:vs=[.ref b]) (_:iV A H b k) (_:k.sl.length<=100) (_:∀l sl H',Same H H'->H l=none->H' l=some (.lst (Ff sl))->(∀t∈sl,kO A H' t.1 t.2/\H t.2.pl=none)->sl.map (λt=>t.2.dat)=k.sl.map (λt=>t.2.dat)->Q (.ref l) H'):Bu A vs H Q E
def tG(T:Txt K mg A D):jE P w K mg base CX0 4 A.aa5 D.aa5 ["self"] (Bu A):=by
 refine T.ac6.okv Lh λ_ _ _ _ H vs Q E hr h=>?_
 ·obtain⟨b,kb,rfl,z,hl,k⟩:=h
  refine⟨_,(iz (iM (jB (cap:=[none]) (N':=["sale"]) rfl (by walk_at "c") (lN (K:=K) (fv K 0)) (λ_ _ _ _=>(iK (i:=0) nd1 rfl orl orr)) (λ_ _ _ _=>jA) (λ_ _ _ _=>(pcg (GR T) hr T.ac5 (Jr T) (pav 0 iy)))))),?_⟩;walk_at "a";obtain⟨dx,hb⟩:=z.i;have hC:=CQ T z;refine rd hb hC.c hC.s (by rfl) ⟨kb.sales,rfl,⟨_,iH z.s⟩,?_⟩;refine Jx (f:=λt:Addr×jx=>V.ref t.1) (λσ=>∃a,σ=[a]) (λ_ t v H'=>∃y s,v=.ref y/\(kO A H' y s/\H s.pl=none)/\s.dat=t.2.dat) (iH z.s) ⟨_,rfl⟩ (by omega) ?_ ?_
  ·rintro Da t ht σ H5 R ⟨_,rfl⟩ sm hD ⟨acc,hA⟩ kk
   walk_at "i";exact⟨t.1,t.2,rfl,(z.frz.s t ht).same sm,λy pl H6 s6 hy q hS=>kk (.ref y) _ H6 ⟨_,rfl⟩ s6 λH' hb=>⟨y,_,rfl,⟨hS.but (s6 _ _ hA) (λe=>by rw[show pl=Da from e,hA]at q;cases q) hb,sm.free q⟩,rfl⟩⟩
  ·intro Da H' acc hD sm hA hF
   obtain⟨sl,e1,e2,e3⟩:=agp hF;exact k Da sl H' sm hD (e1▸hA) e3 e2
def Dy{e:Int}(h1:0<=e)(h2:e<=1000000):aky 10 e:=⟨h1,h2,by decide⟩
structure Dg(B H:Hp)(l:Addr)(c:Int):Prop where
 s:But l B H
 n:∃c0,B l=some (.lst [.int c0])
 h:H l=some (.lst [.int c])
def Dg.of{H:Hp}{l:Addr}{c:Int}(h:H l=some (.lst [.int c])):Dg H H l c:=⟨λ_ _ _ e=>e,⟨c,h⟩,h⟩
def Dg.trans{B H H':Hp}{l:Addr}{c q:Int}(h:Dg B H l c)(g:Dg H H' l q):Dg B H' l q:=⟨λb o n e=>g.s b o n (h.s b o n e),h.n,g.h⟩
def Dg.same{B H H':Hp}{l:Addr}{c:Int}(h:Dg B H l c)(s:Same H H'):Dg B H' l c:=⟨λb o n e=>s _ _ (h.s b o n e),h.n,s _ _ h.h⟩
def Dg.put{B H:Hp}{l:Addr}{c:Int}(h:Dg B H l c)(q:Int):Dg B (upd H l (.lst [.int q])) l q:=⟨λb o n e=>(iJ n).trans (h.s b o n e),h.n,iC⟩
def Dg.t{B H:Hp}{l b:Addr}{c:Int}{xs:List V}(h:Dg B H l c)(e:B b=some (.tup xs)):H b=some (.tup xs):=h.s b _ (λz=>by obtain⟨q,g⟩:=h.n;rw[z,g]at e;cases e) e
def Dg.d{B H:Hp}{l b:Addr}{c:Int}{xs:List (Key×V)}(h:Dg B H l c)(e:B b=some (.dK xs)):H b=some (.dK xs):=h.s b _ (λz=>by obtain⟨q,g⟩:=h.n;rw[z,g]at e;cases e) e
def Dg.off{q B H:Hp}{l:Addr}{c:Int}(h:Dg B H l c)(s:Same q B)(n:q l=none):Same q H:=λb o e=>h.s b o (λz=>by rw[z,n]at e;cases e) (s _ _ e)
def Ot{i j:Int}(q:0<j)(h1:j<10^30):Lz i j:=by
 refine⟨q,?_⟩;have:j.natAbs<2^100:=by omega
 exact yi this (zzp (by decide) (by decide))
inductive qF(vs:List V)(H:Hp)(Q:VK)(E:XK):Prop
 |mk (l:Addr) (c m:Int) (_:vs=[.ref l,.int m]) (_:H l=some (.lst [.int c])) (_:0<m) (_:m<10^30) (_:∀H',Dg H H' l (c/m)->Q (.int (c%m)) H'):qF vs H Q E
def jb(T:Txt K mg A D):jE P w K mg base CX0 1 A.zG D.zG ["_law_digits", "_law_many"] qF:=by
 refine T.abI.F.okv Eg λ_ _ _ _ H vs Q E hr h=>?_
 ·obtain⟨l,c,m,rfl,q,z,h1,k⟩:=h
  refine ⟨_,(iu (iT (i:=2) Eg.nd rfl orl (iZ qz (jm (kW (K:=K)) (pvD 0) iB (λ_ _=>rfl)) (pvD 1)))
   (iu (Wc (iZ mK (jm (kW (K:=K)) (pvD 0) iB (λ_ _=>rfl)) (pvD 1)) (aiL (pvD 0) iB set_list))
   (iz (iM (pvD 2))))),?_⟩
  simp only[start_eq];walk_at "m";refine⟨_,iH q,_,rfl,_,rfl,z,?_⟩;walk_at "m";refine⟨_,iH q,_,rfl,_,rfl,Ot z h1,?_⟩;unfold akm;walk_at "i";exact⟨l,_,0,0,rfl,rfl,q,rfl,k _ ⟨λb o n e=>(iJ n).trans e,⟨c,q⟩,iC⟩⟩
inductive Bh(vs:List V)(H:Hp)(Q:VK)(E:XK):Prop
 |mk (c k:Int) (_:vs=[.int c,.int k]) (_:0<=k) (_:k<=1000) (_:∀r:Int,Q (.int r) H):Bh vs H Q E
def LR(T:Txt K mg A D):jE P w K mg base CX0 1 A.zE D.zE ["_law_cell", "_law_k"] Bh:=by
 refine T.abG.F.okv mq λ_ _ _ _ H vs Q E hr h=>?_
 ·obtain⟨c,k',rfl,aa,hk,k⟩:=h
  refine ⟨_,(iu (iT (i:=2) mq.nd rfl orl iB)
   (iu (qC yB rfl (wK (by rfl) T.adf (ig iB iy)) (iK (i:=3) mq.nd rfl orl)
    (iu (iT (i:=4) mq.nd rfl orl (iZ qz (iZ kZ (iZ jD (iZ jD (iZ jD (iZ qz (pvD 0) (iZ sH iB iB)) (iZ kZ iB (pvD 1))) (iZ kZ iB (pvD 3))) iB) iB) iB))
    (iu (iT (i:=4) mq.nd rfl orl (iZ qz (iZ kZ (iZ jD (iZ jD (pvD 4) (iZ kZ iB (pvD 3))) (pvD 1)) iB) iB))
    (iz (iT (i:=2) mq.nd rfl orl (iZ jD (iZ kZ (pvD 2) iB) (pvD 4)))))))
   (iz (iM (pvD 2))))),?_⟩
  simp only[start_eq];walk_at "m";rw[ap_seq,ap_for];walk_at "i";refine⟨by decide,by decide,?_⟩;refine Jf.range (lo:=0) (n:=8) (λi σ H2=>H2=H/\∃(n:Int)(z q:Option V),σ=[some (.int c),some (.int k'),some (.int n),z,q]) ⟨rfl,0,_,_,rfl⟩ ?_ ?_
  ·rintro i σ H2 hi ⟨rfl,n,z,q,rfl⟩
   walk_at "i";walk_at "m";refine⟨Dy (by decide) (by decide),by decide,MJ (by decide) (by decide),MJ (by decide) (by decide),uG (by decide) (by decide),by decide,?_⟩;walk_at "m";refine⟨MJ (by decide) (by decide),uG (by decide) (by decide),by decide,?_⟩;exact uG (by decide) (by decide)
  ·rintro σ H2 ⟨rfl,n,z,q,rfl⟩
   walk_at "a";exact k n
inductive oE(vs:List V)(H:Hp)(Q:VK)(E:XK):Prop
 |mk (l:Addr) (c:Int) (_:vs=[.ref l]) (_:H l=some (.lst [.int c])) (_:∀v c' H',Dg H H' l c'->Rg 1 1000000 v->Q (.int v) H'):oE vs H Q E
def xF(T:Txt K mg A D):jE P w K mg base CX0 2 A.zL D.zL ["_law_digits"] oE:=by
 refine T.abN.F.okv JH λ_ _ _ _ H vs Q E hr h=>?_
 ·obtain⟨l,c,rfl,hl,k⟩:=h
  refine⟨_,(iz (iM (iZ jD iB (pcg (jb T) hr T.abI (je T) (pav 0 (ig (jm (kW (K:=K)) (jX (ig iB (ig iB (ig (iZ sH iB iB) iy)))) (pcg (jb T) hr T.abI (je T) (pav 0 (ig iB iy))) (λ_ _=>rfl)) iy)))))),?_⟩;simp only[start_eq];walk_at "i";refine⟨Dy (by decide) (by decide),sz,λp hp=>?_⟩;have q:p≠l:=λe=>by rw[e,hl]at hp;cases hp
  refine⟨l,c,3,rfl,(iJ (Ne.symm q)).trans hl,by decide,by decide,λH1 D1=>?_⟩;obtain⟨v,hv,z⟩:=at3 (i:=c%3) (a:=9) (b:=500) (c:=1000000) (lo:=1) (hi:=1000000) (yF _ (by decide)) (yv _ (by decide)) ⟨by decide,by decide⟩ ⟨by decide,by decide⟩ ⟨by decide,by decide⟩;refine⟨_,_,rfl,iH (D1.s _ _ q iC),_,hv,l,_,v,rfl,D1.h,by have:=z.1;omega,by have:=z.2;omega,λH2 D2=>⟨_,rfl,k _ _ _ ⟨λb o n e=>(D1.trans D2).s b o n (iG hp _ _ e),⟨c,hl⟩,D2.h⟩ ?_⟩⟩;have h1:=yF (c/3) (show v≠0 by have:=z.1;omega);have h2:=yv (c/3) (show 0<v by have:=z.1;omega);exact⟨by omega,by have:=z.2;omega⟩
inductive tL(vs:List V)(H:Hp)(Q:VK)(E:XK):Prop
 |mk (l:Addr) (c:Int) (_:vs=[.ref l]) (_:H l=some (.lst [.int c])) (_:∀v c' H',Dg H H' l c'->Rg 0 1000000000 v->Q (.int v) H'):tL vs H Q E
def Bp(T:Txt K mg A D):jE P w K mg base CX0 2 A.zK D.zK ["_law_digits"] tL:=by
 refine T.abM.F.okv Kz λ_ _ _ _ H vs Q E hr h=>?_
 ·obtain⟨l,c,rfl,hl,k⟩:=h
  refine⟨_,(iz (iM (pcg (jb T) hr T.abI (je T) (pav 0 (ig (jm (kW (K:=K)) (jX (ig iB (ig iB (ig (iZ jD (iZ sH iB iB) iB) iy)))) (pcg (jb T) hr T.abI (je T) (pav 0 (ig iB iy))) (λ_ _=>rfl)) iy))))),?_⟩;simp only[start_eq];walk_at "i";refine⟨Dy (by decide) (by decide),sz,λp hp=>?_⟩;have q:p≠l:=λe=>by rw[e,hl]at hp;cases hp
  refine⟨l,c,3,rfl,(iJ (Ne.symm q)).trans hl,by decide,by decide,λH1 D1=>?_⟩;obtain⟨v,hv,z⟩:=at3 (i:=c%3) (a:=10) (b:=100) (c:=1000000001) (lo:=1) (hi:=1000000001) (yF _ (by decide)) (yv _ (by decide)) ⟨by decide,by decide⟩ ⟨by decide,by decide⟩ ⟨by decide,by decide⟩;refine⟨_,_,rfl,iH (D1.s _ _ q iC),_,hv,l,_,v,rfl,D1.h,by have:=z.1;omega,by have:=z.2;omega,λH2 D2=>k _ _ _ ⟨λb o n e=>(D1.trans D2).s b o n (iG hp _ _ e),⟨c,hl⟩,D2.h⟩ ?_⟩;have h1:=yF (c/3) (show v≠0 by have:=z.1;omega);have h2:=yv (c/3) (show 0<v by have:=z.1;omega);exact⟨by omega,by have:=z.2;omega⟩
inductive Ei(vs:List V)(H:Hp)(Q:VK)(E:XK):Prop
 |mk (l:Addr) (c h:Int) (_:vs=[.ref l,.int h]) (_:H l=some (.lst [.int c])) (_:Rg 1 1000000000 h) (_:∀v c' H',Dg H H' l c'->Rg 1 h v->Q (.int v) H'):Ei vs H Q E
def El(T:Txt K mg A D):jE P w K mg base CX0 2 A.zJ D.zJ ["_law_digits", "_law_here"] Ei:=by
 refine T.abL.F.okv Ol λ_ _ _ _ H vs Q E z h=>?_
 ·obtain⟨l,c,h,rfl,hl,hh,k⟩:=h
  refine ⟨_,(iu (jK (iR (lu) (pcg (jb T) z T.abI (je T) (pav 0 (ig iB iy))) iB (iY _)) (iz (iM (pvD 1))) jd)
   (iz (iM (iZ jD iB (pcg (jb T) z T.abI (je T) (pav 0 (pav 1 iy))))))),?_⟩
  simp only[start_eq];walk_at "m";unfold Rg at hh;refine⟨l,c,3,rfl,hl,by decide,by decide,λH1 q=>⟨rfl,?_⟩⟩;split
  ·exact k _ _ _ q ⟨hh.1,zzX _⟩
  ·refine⟨l,_,h,rfl,q.h,by omega,by omega,λH2 D2=>⟨_,rfl,k _ _ _ (q.trans D2) ?_⟩⟩
   have h1:=yF (c/3) (show h≠0 by omega);have h2:=yv (c/3) (show 0<h by omega);exact⟨by omega,by omega⟩
inductive sU(vs:List V)(H:Hp)(Q:VK)(E:XK):Prop
 |mk (l:Addr) (c d n h:Int) (w:Str) (_:vs=[.int d,.int n,.str w,.ref l,.int h]) (_:H l=some (.lst [.int c])) (_:Rg 0 1000000000 h) (_:∀t m f H',But l H H'->H' t=some (.tup [.str "split",.int d,.int n,.str w,.int m,.int f])->Rg 1 1000 m->Rg 1 1000 f->(h=0\/1<=h*m/f)->Q (.ref t) H'):sU vs H Q E
def Di(T:Txt K mg A D):jE P w K mg base CX0 2 A.zH D.zH ["_law_day", "_law_number", "_law_ware", "_law_digits", "_law_here"] sU:=by
 refine T.abJ.F.okv nU λ_ _ _ _ H vs Q E hr h=>?_
 ·obtain⟨l,c,d,n,h,w,rfl,hl,hh,k⟩:=h
  refine ⟨_,(iu (iT (i:=5) nU.nd rfl orl (iZ jD iB (pcg (jb T) hr T.abI (je T) (pav 3 (ig iB iy)))))
   (iu (iT (i:=6) nU.nd rfl orl (iZ jD iB (pcg (jb T) hr T.abI (je T) (pav 3 (ig iB iy)))))
   (iu (jK (PW.pt (Fj (iR (HN) (iZ mK (iZ kZ (pvD 4) (pvD 5)) (pvD 6)) (iZ sH iB iB) (iY _)) (Bk (PW.pt (NP (iR (HN) (pvD 4) iB (iY _)) (Gv (iR (lu) (iZ mK (iZ kZ (pvD 4) (pvD 5)) (pvD 6)) iB (iY _)))))))) (iz (iM (lY (ig ji (pav 0 (pav 1 (pav 2 (ig iB (ig iB iy))))))))) jd)
   (iz (iM (lY (ig ji (pav 0 (pav 1 (pav 2 (pav 5 (pav 6 iy)))))))))))),?_⟩
  simp only[start_eq];walk_at "m";refine⟨l,c,10,rfl,hl,by decide,by decide,λH1 D1=>⟨_,rfl,?_⟩⟩;walk_at "m";refine⟨l,_,10,rfl,D1.h,by decide,by decide,λH2 D2=>⟨_,rfl,?_⟩⟩;have b1:=xu (x:=c) (m:=10) (lo:=0) (hi:=9) (by decide) (by decide) (by decide);have b2:=xu (x:=c/10) (m:=10) (lo:=0) (hi:=9) (by decide) (by decide) (by decide);generalize c/10%10=f0 at b2;generalize c%10=m0 at b1;unfold Rg at b1 b2 hh;walk_at "m";have c1:xg h (1+m0):=MJ (by omega) (by omega);have c2:∀i:Int,Lz i (1+f0):=λi=>Ot (by omega) (by omega);have z:6<=sizeLine:=sz;have out:∀m f:Int,Rg 1 1000 m->Rg 1 1000 f->(h=0\/1<=h*m/f)->∀p,H2 p=none->Q (.ref p) (upd H2 p (.tup [.str (Str.ofString "split"),.int d,.int n,.str w,.int m,.int f])):=λm f hm hf hq p hp=>k p m f _ (λb o n e=>iG hp _ _ ((D1.trans D2).s b o n e)) iC hm hf hq;have q:Rg 1 1000 1:=⟨by decide,by decide⟩;have r2:Rg 1 1000 (1+m0):=⟨by omega,by omega⟩;have r3:Rg 1 1000 (1+f0):=⟨by omega,by omega⟩;have r0:h=0\/1<=h*1/1:=by rw[Int.mul_one,Int.ediv_one];omega
  have r4:0<=h*(1+m0)/(1+f0):=Int.ediv_nonneg (Int.mul_nonneg hh.1 (by omega)) (by omega);refine⟨c1,c2 _,Dy (by decide) (by decide),?_⟩;split
  ·exact⟨z,out 1 1 q q r0⟩
  ·split
   ·refine⟨c1,c2 _,?_⟩
    split
    ·exact⟨z,out 1 1 q q r0⟩
    ·exact⟨z,out _ _ r2 r3 (by omega)⟩
   ·exact⟨z,out _ _ r2 r3 (by omega)⟩
inductive uO(vs:List V)(H:Hp)(Q:VK)(E:XK):Prop
 |mk (l p cd:Addr) (c d n:Int) (w u:Str) (kvs:List (Key×V)) (_:vs=[.int d,.int n,.ref p,.ref l,.ref cd]) (_:H l=some (.lst [.int c])) (_:H p=some (.tup [.str w,.str u])) (_:H cd=some (.dK kvs)) (_:Cnt kvs) (_:((∀t s r H',But l H H'->H' t=some (.tup [.str "part",.int d,.int n,.str w,.str u,.int s,.int r])->Rg 1 1000000 r->Rg 0 r s->Q (.ref t) H')/\∀t H',But l H H'->H' t=some (.tup [.str "split",.int d,.int n,.str w,.int 1,.int 1])->Q (.ref t) H')):uO vs H Q E
def Eu(T:Txt K mg A D):jE P w K mg base CX0 2 A.zI D.zI ["_law_day", "_law_number", "_law_wares", "_law_digits", "_law_counts"] uO:=by
 refine T.abK.F.okv lE λ_ _ _ _ H vs Q E hr h=>?_
 ·obtain⟨l,p,cd,c,d,n,w,u,kvs,rfl,hl,hp,ab,hC,k1,k2⟩:=h
  refine ⟨_,(iu (Wc (pvD 2) (nu (K:=K) (n:=2) rfl (jl (iK (i:=5) lE.nd rfl orl) (jl (iK (i:=6) lE.nd rfl orl) nA))))
   (iu (iT (i:=7) lE.nd rfl orl (iZ jD iB (pcg (jb T) hr T.abI (je T) (pav 3 (ig (jm (kW (K:=K)) (jX (ig iB (ig (iZ sH iB iB) iy))) (pcg (jb T) hr T.abI (je T) (pav 3 (ig iB iy))) (λ_ _=>rfl)) iy)))))
   (iu (iT (i:=8) lE.nd rfl orl (pcg (jb T) hr T.abI (je T) (pav 3 (ig (iZ jD (pvD 7) iB) iy))))
   (iu (jK (iR (HN) (iZ jD (nC (nO hr) (pvD 4) (pvD 5) iB ⟨rfl,rfl,rfl,rfl⟩) (nC (nO hr) (pvD 4) (pvD 6) iB ⟨rfl,rfl,rfl,rfl⟩)) (iZ sH iB iB) (iY _)) (iz (iM (lY (ig ji (pav 0 (pav 1 (pav 5 (ig iB (ig iB iy))))))))) jd)
   (iz (iM (lY (ig ji (pav 0 (pav 1 (pav 5 (pav 6 (pav 8 (pav 7 iy)))))))))))))),?_⟩
  simp only[start_eq];walk_at "m";refine⟨_,jt hp,rfl,_,_,rfl,_,_,rfl,rfl,?_⟩;walk_at "m";refine⟨Dy (by decide) (by decide),sz,λq hq=>?_⟩;have aa:q≠l:=λe=>by rw[e,hl]at hq;cases hq
  refine⟨l,c,2,rfl,(iJ (Ne.symm aa)).trans hl,by decide,by decide,λH1 D1=>?_⟩
  obtain ⟨v,hv,bv⟩:∃v,atI [V.int 9,V.int (10^(6:Int).toNat)] (c%2)=some (.int v)/\Rg 1 1000000 v:=by
   rcases(show c%2=0\/c%2=1 by omega)with e|e<;>rw[e]
   ·exact⟨9,rfl,by decide,by decide⟩
   ·exact⟨1000000,rfl,by decide,by decide⟩
  unfold Rg at bv;refine⟨_,_,rfl,iH (D1.s _ _ aa iC),_,hv,l,_,v,rfl,D1.h,by omega,by omega,λH2 D2=>⟨_,rfl,?_⟩⟩;have D0:Dg H (upd H q (.lst [V.int 9,V.int (10^(6:Int).toNat)])) l c:=(Dg.of hl).same (iG hq);have D2:=D0.trans (D1.trans D2);have b1:=yF (c/2) (show v≠0 by omega);have b2:=yv (c/2) (show 0<v by omega);obtain⟨r,ac⟩:∃r,r=1+c/2%v:=⟨_,rfl⟩;rw[<-ac];have br:Rg 1 1000000 r:=⟨by omega,by omega⟩;walk_at "m";refine⟨l,_,r+1,rfl,D2.h,by omega,by omega,λH3 D3=>?_⟩;have D3:=D2.trans D3;have s1:=yF (c/2/v) (show r+1≠0 by omega);have s2:=yv (c/2/v) (show 0<r+1 by omega);generalize c/2/v%(r+1)=sh at s1 s2;obtain⟨g1,ae⟩:=hC.get w;obtain⟨g2,ad⟩:=hC.get u;walk_at "m";have z:=D3.d ab;refine⟨.inl ⟨kvs,.inl z⟩,_,Br (k:=Sum.inr w) z,.inl ⟨kvs,.inl z⟩,_,Br (k:=Sum.inr u) z,?_⟩;rw[g1,g2];walk_at "i";have bt:∀{p:Addr}{u:HO},H3 p=none->But l H (upd H3 p u):=λhp b o n e=>iG hp _ _ (D3.s b o n e);refine⟨Dy (by decide) (by decide),?_⟩;split
  ·exact⟨sz,λp hp=>k2 p _ (bt hp) iC⟩
  ·exact⟨sz,λp hp=>k1 p sh r _ (bt hp) iC br ⟨s1,by omega⟩⟩
def FZ:∀w∈jo,Nm w:=by
 unfold Nm;decide+kernel
def ZS:jo.Nodup:=by decide+kernel
inductive Hu(vs:List V)(H:Hp)(Q:VK)(E:XK):Prop
 |mk (r cd:Addr) (d n kd ix rest:Int) (kvs:List (Key×V)) (_:vs=[.ref r,.ref cd,.bl false]) (_:H r=some (.tup [.int d,.int n,.int kd,.int ix,.int rest])) (_:H cd=some (.dK kvs)) (_:Cnt kvs) (_:(∀z,jr kvs z<=1000000000)) (_:Rg 0 1000000 d) (_:Rg 0 1000000 n) (_:Rg 0 7 kd) (_:Rg 0 2 ix) (_:∀(t:Addr)(e:Ent)(H':Hp),Same H H'->H' t=some (.tup (.str e.word::e.args .non))->(e.good/\e.lots=none/\e.ware∈jo/\e.oth∈jo)->e.day=d->e.num=n->ahn (jr kvs) e->Q (.ref t) H'):Hu vs H Q E
def Qg(T:Txt K mg A D):jE P w K mg base CX0 3 A.zM D.zM ["_law_raw_here", "_law_counts", "_law_giving"] Hu:=by
 refine T.abO.F.okv jT λ_ _ _ _ H vs Q E hr h=>?_
 ·obtain⟨r,cd,d,n,kd,ix,rest,kvs,rfl,ap,bb,hC,hM,bd,bn,bk,bi,k⟩:=h
  refine ⟨_,(iu (Wc (pvD 0) (nu (K:=K) (n:=5) rfl (jl (iK (i:=3) jT.nd rfl orl) (jl (iK (i:=4) jT.nd rfl orl) (jl (iK (i:=5) jT.nd rfl orl) (jl (iK (i:=6) jT.nd rfl orl) (jl (iK (i:=7) jT.nd rfl orl) nA)))))))
   (iu (iT (i:=8) jT.nd rfl orl (jX (pav 7 iy)))
   (iu (iT (i:=9) jT.nd rfl orl (jX (ig ji (ig ji (ig ji iy)))))
   (iu (iT (i:=10) jT.nd rfl orl (jm (kW (K:=K)) (pvD 9) (pvD 6) (λ_ _=>rfl)))
   (iu (iT (i:=11) jT.nd rfl orl (nC (nO hr) (pvD 1) (pvD 10) iB ⟨rfl,rfl,rfl,rfl⟩))
   (iu (jK (iR (lu) (pvD 5) iB (iY _)) (iz (iM (pcg (Di T) hr T.abJ (Fg T) (pav 3 (pav 4 (pav 10 (pav 8 (pav 11 iy)))))))) jd)
   (iu (jK (iR (lu) (pvD 5) iB (iY _)) (iu (iT (i:=12) jT.nd rfl orl (jm (kW (K:=K)) (pvD 9) (iZ qz (iZ jD (iZ jD (pvD 6) iB) (pcg (jb T) hr T.abI (je T) (pav 8 (ig iB iy)))) iB) (λ_ _=>rfl)))
    (iz (iM (pcg (Eu T) hr T.abK (Hr T) (pav 3 (pav 4 (ig (lY (pav 10 (pav 12 iy))) (pav 8 (pav 1 iy))))))))) jd)
   (iu (jK (PW.pt (NP (iR (lu) (pvD 5) iB (iY _)) (Gv (PW.pt (Fj (iR (lu) (pvD 11) iB (iY _)) (Fj (Kc (oF (pvD 2))) (Bk (iR (lu) (pcg (jb T) hr T.abI (je T) (pav 8 (ig iB iy))) iB (iY _))))))))) (iu (iT (i:=13) jT.nd rfl orl (jm (kW (K:=K)) (jX (ig (pcg (jb T) hr T.abI (je T) (pav 8 (ig iB iy))) (ig (pcg (jb T) hr T.abI (je T) (pav 8 (ig (iZ sH iB iB) iy))) iy))) (pcg (jb T) hr T.abI (je T) (pav 8 (ig iB iy))) (λ_ _=>rfl)))
    (iz (iM (lY (ig ji (pav 3 (pav 4 (pav 10 (ig (pcg (xF T) hr T.abN (Bf T) (pav 8 iy)) (pav 13 (ig (pcg (jb T) hr T.abI (je T) (pav 8 (ig (iZ jD (pvD 3) iB) iy))) iy))))))))))) jd)
   (iu (jK (iR (lu) (pvD 5) iB (iY _)) (iz (iM (lY (ig ji (pav 3 (pav 4 (pav 10 (ig (pcg (El T) hr T.abL (Hi T) (pav 8 (pav 11 iy))) (ig mJ iy))))))))) jd)
   (iu (jK (PW.pt (Fj (iR (Mi) (pvD 5) iB (iY _)) (Bk (iR (lu) (pvD 11) iB (iY _))))) (iz (iM (lY (ig ji (pav 3 (pav 4 (pav 10 (ig (pcg (xF T) hr T.abN (Bf T) (pav 8 iy)) (ig (pcg (Bp T) hr T.abM (Eh T) (pav 8 iy)) (ig (pcg (jb T) hr T.abI (je T) (pav 8 (ig iB iy))) iy)))))))))) jd)
   (iz (iM (lY (ig ji (pav 3 (pav 4 (pav 10 (ig (pcg (El T) hr T.abL (Hi T) (pav 8 (pav 11 iy))) (ig (pcg (Bp T) hr T.abM (Eh T) (pav 8 iy)) (ig (pcg (jb T) hr T.abI (je T) (pav 8 (ig iB iy))) (ig mJ iy))))))))))))))))))))),?_⟩
  unfold Rg at bd bn bk bi;simp only[start_eq];walk_at "n";refine⟨_,jt ap,rfl,_,_,rfl,_,_,rfl,_,_,rfl,_,_,rfl,_,_,rfl,rfl,?_⟩;walk_at "n";refine⟨sz,λl hl=>?_⟩;have s1:=iG (o:=.lst [.int rest]) hl;have h1:(upd H l (.lst [.int rest])) l=some (.lst [.int rest]):=iC;generalize upd H l (.lst [.int rest])=H1 at s1 h1;walk_at "n";refine⟨sz,λwa ar=>?_⟩;have s2:=iG (o:=.lst [.str (Str.ofString "tin"),.str (Str.ofString "ore"),.str (Str.ofString "abcdefgh")]) ar;have h2:(upd H1 wa (.lst [.str (Str.ofString "tin"),.str (Str.ofString "ore"),.str (Str.ofString "abcdefgh")])) wa=some (.lst (jo.map V.str)):=iC;generalize upd H1 wa (.lst [.str (Str.ofString "tin"),.str (Str.ofString "ore"),.str (Str.ofString "abcdefgh")])=H2 at s2 h2;obtain⟨w,as,aj⟩:=Vn (ws:=jo) (i:=ix) bi.1 (by show ix<3;omega);have q:=zq aj;have au:Nm w:=FZ w q;walk_at "n";refine⟨_,iH h2,_,as,?_⟩;have S2:=s1.trans s2;have ad:=S2 _ _ bb;obtain⟨hg,ae⟩:=hC.get w;have af:=hM w;walk_at "n";refine⟨.inl ⟨kvs,.inl ad⟩,_,Br (k:=Sum.inr w) ad,?_⟩;rw[hg];have ac:=s2 _ _ h1;have aw:wa≠l:=λe=>by rw[e,ac]at h2;cases h2
  have am:=ae;generalize ai:jr kvs w=th at hg ae af;walk_at "n";have hB:Base d n w:=⟨bd.1,bd.2,bn.1,bn.2,au⟩;have ab:∀{X:Hp},But l H2 X->Same H X:=λb x o e=>b x o (λz=>by rw[z,hl]at e;cases e) (S2 _ _ e);by_cases h6:kd=6
  ·rw[zn h6]
   exact⟨l,rest,d,n,th,w,rfl,ac,⟨ae,af⟩,λt m f H' b ht hm hf hq=>k t (.split d n w m f) H' (ab b) ht ⟨⟨hB,hm,hf⟩,rfl,q,q⟩ rfl rfl (by show jr kvs w=0\/_;rw[ai];exact hq)⟩
  rw[ze h6];walk_at "n";by_cases h7:kd=7
  ·rw[zn h7]
   walk_at "n";refine⟨l,rest,2,rfl,ac,by decide,by decide,λH3 D3=>?_⟩;have b3:0<=rest%2/\rest%2<2:=by omega
   generalize rest%2=q3 at b3;have ao:0<=(ix+1+q3)%3:=yF _ (by decide);have az:(ix+1+q3)%3<3:=yv _ (by decide);obtain⟨u,ay,ag⟩:=Vn (ws:=jo) (i:=(ix+1+q3)%3) ao az;have aq:Nm u:=FZ u (zq ag);have av:u≠w:=agM ZS ag aj λe=>ZD (L:=3) bi.1 (by omega) b3.1 (by omega) (by omega);refine⟨_,rfl,by decide,_,iH (D3.s _ _ aw h2),_,ay,?_⟩;rw[ap_ret];walk_at "i";refine⟨sz,λp hp=>?_⟩;have ah:l≠p:=λe=>by rw[<-e,D3.h]at hp;cases hp
   have D4:=D3.same (iG (o:=.tup [V.str w,V.str u]) hp)
   exact ⟨l,p,cd,_,d,n,w,u,kvs,rfl,D4.h,iC,D4.d ad,hC,λt s r H' b ht hr hs=>k t (.part d n w u s r) H' (ab (λx o nn e=>b x o nn (D4.s x o nn e))) ht ⟨⟨hB,aq,av,hr,hs⟩,rfl,q,zq ag⟩ rfl rfl trivial,
    λt H' b ht=>k t (.split d n w 1 1) H' (ab (λx o nn e=>b x o nn (D4.s x o nn e))) ht ⟨⟨hB,⟨by decide,by decide⟩,⟨by decide,by decide⟩⟩,rfl,q,q⟩ rfl rfl (by show jr kvs w=0\/1<=jr kvs w*1/1;rw[Int.mul_one,Int.ediv_one];omega)⟩
  rw[ze h7]
  have ak:∀(H6:Hp)(c6:Int),Dg H2 H6 l c6->∀(aa:Int),Rg 0 1000000000000000 aa->oE [V.ref l] H6 (λx H1=>qF [V.ref l,V.int (d+1)] H1 (λy H1=>7<=sizeLine/\∀p,H1 p=none->Q (V.ref p) (upd H1 p (HO.tup [V.str (Str.ofString "gift"),V.int d,V.int n,V.str w,x,V.int aa,y]))) E0) E0:=λH6 c6 D6 aa bc=>
   ⟨l,c6,rfl,D6.h,λv c7 H7 D7 bv=>⟨l,c7,d+1,rfl,D7.h,by omega,by omega,λH8 D8=>⟨sz,λp hp=>by
    unfold Rg at bc bv;have z1:=yF c7 (show d+1≠0 by omega);have z2:=yv c7 (show 0<d+1 by omega);have D:=((D6.trans D7).trans D8).same (iG (o:=.tup [V.str (Str.ofString "gift"),V.int d,V.int n,V.str w,V.int v,V.int aa,V.int (c7%(d+1))]) hp);exact k p (.gift d n w v aa (c7%(d+1))) _ (ab D.s) iC ⟨⟨hB,⟨by omega,by omega⟩,⟨by omega,by omega⟩,⟨by omega,by omega⟩⟩,rfl,q,q⟩ rfl rfl trivial⟩⟩⟩
  have al:oE [V.ref l] H2 (λx H1=>tL [V.ref l] H1 (λan H1=>qF [V.ref l,V.int 50] H1 (λba H1=>7<=sizeLine/\∀p,H1 p=none->Q (V.ref p) (upd H1 p (HO.tup [V.str (Str.ofString "buy"),V.int d,V.int n,V.str w,x,an,ba]))) E0) E0) E0:=
   ⟨l,rest,rfl,ac,λv c3 H3 D3 bv=>⟨l,c3,rfl,D3.h,λpr c4 H4 D4 bp=>⟨l,c4,50,rfl,D4.h,by decide,by decide,λH5 D5=>⟨sz,λp hp=>by
    unfold Rg at bv bp;have D:=((D3.trans D4).trans D5).same (iG (o:=.tup [V.str (Str.ofString "buy"),V.int d,V.int n,V.str w,V.int v,V.int pr,V.int (c4%50)]) hp);exact k p (.buy d n w v pr (c4%50)) _ (ab D.s) iC ⟨⟨hB,⟨by omega,by omega⟩,⟨by omega,by omega⟩,⟨by omega,by omega⟩⟩,rfl,q,q⟩ rfl rfl trivial⟩⟩⟩⟩
  have ax:∀(x y c:Int),Rg 0 999 x->Rg 0 999999999999999 y->∃v,atI [V.int x,V.int y] (c%2)=some (.int v)/\Rg 0 1000000000000000 v:=λx y c bx be=>by
   unfold Rg at bx be;rcases(show c%2=0\/c%2=1 by omega)with e|e<;>rw[e]
   ·exact⟨x,rfl,by omega,by omega⟩
   ·exact⟨y,rfl,by omega,by omega⟩
  walk_at "n";by_cases h5:kd=5
  ·rw[zn h5]
   rw[ite_self];walk_at "n";refine⟨l,rest,1000,rfl,ac,by decide,by decide,λH4 D4=>⟨Dy (by decide) (by decide),l,_,10^(15:Int).toNat,rfl,D4.h,by decide,by decide,λH5 D5=>⟨sz,λp hp=>?_⟩⟩⟩;have D5:=D4.trans D5;obtain⟨v,hv,bv⟩:=ax (rest%1000) (rest/1000%10^(15:Int).toNat) (rest/1000/10^(15:Int).toNat) (xu (by decide) (by decide) (by decide)) (xu (by decide) (by decide) (by decide));have D6:=D5.same (iG (o:=.lst [V.int (rest%1000),V.int (rest/1000%10^(15:Int).toNat)]) hp);have ah:p≠l:=λe=>by rw[e,D5.h]at hp;cases hp
   refine⟨l,_,2,rfl,D6.h,by decide,by decide,λH7 D7=>⟨_,_,rfl,iH (D7.s _ _ ah iC),_,hv,?_⟩⟩;rw[ap_ret];walk_at "i";exact ak H7 _ (D6.trans D7) v bv
  iterate 2 (rw[ze h5];walk_at "n")
  split
  ·exact al
  ·split
   ·exact al
   ·rename_i bf am
    rw[ap_ret];walk_at "i";refine⟨l,rest,th,rfl,ac,⟨by omega,af⟩,λv c3 H3 D3 bv=>⟨l,c3,rfl,D3.h,λpr c4 H4 D4 bp=>⟨l,c4,50,rfl,D4.h,by decide,by decide,λH5 D5=>⟨sz,λp hp=>?_⟩⟩⟩⟩;unfold Rg at bv bp;have D:=((D3.trans D4).trans D5).same (iG (o:=.tup [V.str (Str.ofString "sell"),V.int d,V.int n,V.str w,V.int v,V.int pr,V.int (c4%50),V.non]) hp);exact k p (.sell d n w v pr (c4%50) none) _ (ab D.s) iC ⟨⟨hB,⟨by omega,by omega⟩,⟨by omega,by omega⟩,⟨by omega,by omega⟩,trivial⟩,rfl,q,q⟩ rfl rfl (by show v<=jr kvs w;rw[ai];exact bv.2)
def Wu(kvs:List (Key×V))(z y:Str)(i:Int):jr (putK kvs (Sum.inr z) (.int i)) y=if y=z then i else jr kvs y:=by
 unfold jr;rw[Yu];by_cases e:y=z
 ·rw[zn (by rw[e]),zn e]
 ·rw[ze (λh=>e (zzJ h)),ze e]
inductive vO(vs:List V)(H:Hp)(Q:VK)(E:XK):Prop
 |mk (cd t:Addr) (kvs:List (Key×V)) (e:Ent) (_:vs=[.ref cd,.ref t]) (_:H cd=some (.dK kvs)) (_:Cnt kvs) (_:(∀z,jr kvs z<=1000000000)) (_:kvs.length<=1000) (_:H t=some (.tup (.str e.word::e.args .non))) (_:e.good) (_:ahn (jr kvs) e) (_:∀(q:Addr)(kv:List (Key×V))(H':Hp),Same H H'->H q=none->H' q=some (.dK kv)->Cnt kv->kv.length<=kvs.length+1->(∀z,jr kv z=agq (jr kvs) e z)->Q (.ref q) H'):vO vs H Q E
def vN(T:Txt K mg A D):jE P w K mg base CX0 1 A.zy D.zy ["_law_counts", "_law_row_here"] vO:=by
 refine T.abB.F.okv lR λ_ _ _ _ H vs Q E hr h=>?_
 ·obtain⟨cd,t,kvs,e,rfl,ae,hC,hM,ag,ht,hg,hF,k⟩:=h
  refine ⟨_,(iu (iT (i:=2) lR.nd rfl orl (jm (iW (K:=K)) (pvD 1) iB (λ_ _=>rfl)))
   (iu (iT (i:=3) lR.nd rfl orl (jm (iW (K:=K)) (pvD 1) iB (λ_ _=>rfl)))
   (iu (iT (i:=4) lR.nd rfl orl (nC (nO hr) (pvD 0) (pvD 3) iB ⟨rfl,rfl,rfl,rfl⟩))
   (iu (iT (i:=5) lR.nd rfl orl (lH HB (by rfl) T.adc (by decide+kernel) (pav 0 iy)))
   (iu (jK (PW.pt (Fj (iR (lu) (pvD 2) ji (iY _)) (Bk (iR (lu) (pvD 2) ji (iY _))))) (iz (xY (nO hr) (pvD 5) (pvD 3) (iZ jD (pvD 4) (jm (iW (K:=K)) (pvD 1) iB (λ_ _=>rfl))) rfl)) jd)
   (iu (jK (PW.pt (Fj (iR (lu) (pvD 2) ji (iY _)) (Bk (iR (lu) (pvD 2) ji (iY _))))) (iz (xY (nO hr) (pvD 5) (pvD 3) (iZ pX (pvD 4) (jm (iW (K:=K)) (pvD 1) iB (λ_ _=>rfl))) rfl)) jd)
   (iu (jK (iR (lu) (pvD 2) ji (iY _)) (iz (xY (nO hr) (pvD 5) (pvD 3) (iZ mK (iZ kZ (pvD 4) (jm (iW (K:=K)) (pvD 1) iB (λ_ _=>rfl))) (jm (iW (K:=K)) (pvD 1) iB (λ_ _=>rfl))) rfl)) jd)
   (iu (jK (iR (lu) (pvD 2) ji (iY _)) (iz (xY (nO hr) (pvD 5) (jm (iW (K:=K)) (pvD 1) iB (λ_ _=>rfl)) (iZ jD (nC (nO hr) (pvD 0) (jm (iW (K:=K)) (pvD 1) iB (λ_ _=>rfl)) iB ⟨rfl,rfl,rfl,rfl⟩) (pvD 4)) rfl)) jd)
   (iz (iM (pvD 5))))))))))),?_⟩
  simp only[start_eq];have a0:atI (V.str e.word::e.args .non) 0=some (.str e.word):=by cases e<;>rfl
  have a3:atI (V.str e.word::e.args .non) 3=some (.str e.ware):=by cases e<;>rfl
  walk_at "n";refine⟨_,jt ht,_,a0,?_⟩;walk_at "n";refine⟨_,jt ht,_,a3,?_⟩;obtain⟨g1,g2⟩:=hC.get e.ware;have g3:=hM e.ware;walk_at "n";refine⟨.inl ⟨kvs,.inl ae⟩,_,Br (k:=Sum.inr e.ware) ae,?_⟩;rw[g1];walk_at "n";refine⟨kvs,.inl ae,λq hq=>?_⟩;have s1:=iG (o:=.dK kvs) hq;have ab:(upd H q (.dK kvs)) q=some (.dK kvs):=iC;generalize upd H q (.dK kvs)=H1 at s1 ab;have hsz:kvs.length<sizeLine:=by rw[zv];omega
  have out:∀(z:Str)(i:Int),0<=i->(∀y,(if y=z then i else jr kvs y)=agq (jr kvs) e y)->Q (.ref q) (upd H1 q (.dK (putK kvs (Sum.inr z) (.int i)))):=λz i h0 h1=>k q _ _ (s1.upd hq) hq iC (hC.put z h0) (ud _ _ _) λy=>(Wu kvs z y i).trans (h1 y);have hh:jr kvs e.ware=jr kvs e.ware/\0<=jr kvs e.ware/\jr kvs e.ware<=1000000000:=⟨rfl,g2,g3⟩;clear g1 g2 g3 a0 a3
  cases e with
  |buy d n w p r f=>
   dsimp only[Ent.word,Ent.ware]at hh⊢;obtain⟨_,ac,ad⟩:=hh;have aa:=s1 _ _ ht;refine jC λu hu=>?_;refine go2 rfl (.inl rfl) ?_;walk_at "i";subst hu;refine⟨_,jt aa,_,rfl,_,rfl,_,HW (k:=Sum.inr w) ab hsz,?_⟩;refine sk2 rfl (by decide+kernel) (by decide+kernel) ?_;refine sk1 rfl (by decide+kernel) ?_;refine sk1 rfl (by decide+kernel) ?_;walk_at "i";obtain⟨_,⟨hp,_⟩,_⟩:=hg;exact out _ _ (by omega) λy=>rfl
  |sell d n w p r f o=>
   dsimp only[Ent.word,Ent.ware]at hh⊢;obtain⟨_,ac,ad⟩:=hh;have aa:=s1 _ _ ht;refine sk2 rfl (by decide+kernel) (by decide+kernel) ?_;refine jC λu hu=>?_;refine go2 rfl (.inl rfl) ?_;walk_at "i";subst hu;refine⟨_,jt aa,_,rfl,_,rfl,_,HW (k:=Sum.inr w) ab hsz,?_⟩;refine sk1 rfl (by decide+kernel) ?_;refine sk1 rfl (by decide+kernel) ?_;walk_at "i";have hF:p<=jr kvs w:=hF;obtain⟨_,⟨hp,_⟩,_⟩:=hg;exact out _ _ (by omega) λy=>rfl
  |gift d n w p c s=>
   dsimp only[Ent.word,Ent.ware]at hh⊢;obtain⟨_,ac,ad⟩:=hh;have aa:=s1 _ _ ht;refine jC λu hu=>?_;refine go2 rfl (.inr rfl) ?_;walk_at "i";subst hu;refine⟨_,jt aa,_,rfl,_,rfl,_,HW (k:=Sum.inr w) ab hsz,?_⟩;refine sk2 rfl (by decide+kernel) (by decide+kernel) ?_;refine sk1 rfl (by decide+kernel) ?_;refine sk1 rfl (by decide+kernel) ?_;walk_at "i";obtain⟨_,⟨hp,_⟩,_⟩:=hg;exact out _ _ (by omega) λy=>rfl
  |split d n w m f=>
   dsimp only[Ent.word,Ent.ware]at hh⊢;obtain⟨_,ac,ad⟩:=hh;have aa:=s1 _ _ ht;refine sk2 rfl (by decide+kernel) (by decide+kernel) ?_;refine sk2 rfl (by decide+kernel) (by decide+kernel) ?_;refine jC λu hu=>?_;refine go1 rfl ?_;walk_at "i";subst hu;obtain⟨_,⟨hm,aj⟩,⟨hf,ah⟩⟩:=hg;have bm:0<=jr kvs w*m:=Int.mul_nonneg ac (by omega);have bq:0<=jr kvs w*m/f:=Int.ediv_nonneg bm (by omega);refine⟨_,jt aa,_,rfl,_,rfl,MJ (by omega) (by omega),_,jt aa,_,rfl,_,rfl,Ot (by omega) (by omega),_,HW (k:=Sum.inr w) ab hsz,?_⟩;refine sk1 rfl (by decide+kernel) ?_;walk_at "i";exact out _ _ bq λy=>rfl
  |part d n w u a b=>
   dsimp only[Ent.word,Ent.ware]at hh⊢;obtain⟨_,ac,ad⟩:=hh;have aa:=s1 _ _ ht;refine sk2 rfl (by decide+kernel) (by decide+kernel) ?_;refine sk2 rfl (by decide+kernel) (by decide+kernel) ?_;refine sk1 rfl (by decide+kernel) ?_;refine jC λu hu=>?_;refine go1 rfl ?_;walk_at "i";subst hu;have af:=s1 _ _ ae;obtain⟨gu,ai⟩:=hC.get u;refine⟨.inl ⟨kvs,.inl af⟩,_,jt aa,_,rfl,_,Br (k:=Sum.inr u) af,_,gu,_,jt aa,_,rfl,_,HW (k:=Sum.inr u) ab hsz,?_⟩;walk_at "i";exact out _ _ (by omega) λy=>rfl
inductive GC(vs:List V)(H:Hp)(Q:VK)(E:XK):Prop
 |mk (s k:Int) (_:vs=[.int s,.int k]) (_:∀(t:Addr)(d m kd ix rest:Int)(H':Hp),Same H H'->H' t=some (.tup [.int d,.int (m*64+k),.int kd,.int ix,.int rest])->Rg 0 1000000 d->Rg 0 1999 m->Rg 0 7 kd->Rg 0 2 ix->Q (.ref t) H'):GC vs H Q E
def PJ(T:Txt K mg A D):jE P w K mg base CX0 2 A.zN D.zN ["_law_source", "_law_k"] GC:=by
 refine T.abP.F.okv mU λ_ _ _ _ H vs Q E hr h=>?_
 ·obtain⟨s,kk,rfl,k⟩:=h
  refine ⟨_,(iu (iT (i:=2) mU.nd rfl orl (jX (pav 0 iy)))
   (iu (iT (i:=3) mU.nd rfl orl (pcg (jb T) hr T.abI (je T) (pav 2 (ig iB iy))))
   (iu (iT (i:=4) mU.nd rfl orl (pcg (jb T) hr T.abI (je T) (pav 2 (ig iB iy))))
   (iu (iT (i:=5) mU.nd rfl orl (pcg (jb T) hr T.abI (je T) (pav 2 (ig iB iy))))
   (iu (jK (iR (lu) (pcg (jb T) hr T.abI (je T) (pav 2 (ig iB iy))) iB (iY _)) (iz (iT (i:=5) mU.nd rfl orl (pcg (jb T) hr T.abI (je T) (pav 2 (ig (iZ jD (iZ sH iB iB) iB) iy))))) jd)
   (iu (iT (i:=6) mU.nd rfl orl (iZ jD (iZ kZ (pcg (jb T) hr T.abI (je T) (pav 2 (ig iB iy))) iB) (pvD 1)))
   (iz (iM (lY (pav 5 (pav 6 (pav 3 (pav 4 (ig (jm (kW (K:=K)) (pvD 2) iB (λ_ _=>rfl)) iy)))))))))))))),?_⟩
  simp only[start_eq];walk_at "n";refine⟨sz,λl hl=>?_⟩;have s1:=iG (o:=.lst [.int s]) hl;have h1:(upd H l (.lst [.int s])) l=some (.lst [.int s]):=iC;generalize upd H l (.lst [.int s])=H1 at s1 h1;walk_at "n";refine⟨l,s,8,rfl,h1,by decide,by decide,λH2 D2=>?_⟩;have b2:=xu (x:=s) (m:=8) (lo:=0) (hi:=7) (by decide) (by decide) (by decide);generalize s%8=kd at b2;walk_at "n";refine⟨l,_,3,rfl,D2.h,by decide,by decide,λH3 D3=>?_⟩;have D3:=D2.trans D3;have b3:=xu (x:=s/8) (m:=3) (lo:=0) (hi:=2) (by decide) (by decide) (by decide);generalize s/8%3=ix at b3;walk_at "n";refine⟨l,_,30,rfl,D3.h,by decide,by decide,λH4 D4=>?_⟩;have D4:=D3.trans D4;have b4:=xu (x:=s/8/3) (m:=30) (lo:=0) (hi:=1000000) (by decide) (by decide) (by decide);generalize s/8/3%30=aa at b4;generalize s/8/3/30=c4 at D4;walk_at "n";refine⟨l,c4,6,rfl,D4.h,by decide,by decide,λH5 z=>⟨rfl,?_⟩⟩;have z:=D4.trans z;split
  ·refine⟨Dy (by decide) (by decide),l,_,_,rfl,z.h,by decide,by decide,λH6 D6=>?_⟩
   have D6:=z.trans D6;have b6:=xu (x:=c4/6) (m:=10^(6:Int).toNat+1) (lo:=0) (hi:=1000000) (by decide) (by decide) (by decide);generalize c4/6%(10^(6:Int).toNat+1)=dy at b6;walk_at "n";refine⟨l,_,2000,rfl,D6.h,by decide,by decide,λH7 q=>⟨_,rfl,uG (by decide) (by decide),?_⟩⟩;have q:=D6.trans q;rw[ap_ret];walk_at "i";refine⟨_,iH q.h,_,rfl,sz,λp hp=>?_⟩;exact k p dy _ kd ix _ _ ((q.same (iG hp)).off s1 hl) iC b6 (xu (by decide) (by decide) (by decide)) b2 b3
  ·walk_at "n"
   refine⟨l,_,2000,rfl,z.h,by decide,by decide,λH7 q=>⟨_,rfl,uG (by decide) (by decide),?_⟩⟩;have q:=z.trans q;rw[ap_ret];walk_at "i";refine⟨_,iH q.h,_,rfl,sz,λp hp=>?_⟩;exact k p aa _ kd ix _ _ ((q.same (iG hp)).off s1 hl) iC b4 (xu (by decide) (by decide) (by decide)) b2 b3
def ahP(ns:List Int)(m:Nat):∃cs:List Int,Ym (ns.map V.int) (some 1) (some ((m:Int)+1))=cs.map V.int/\cs.length<=m:=by
 refine⟨(ns.drop (min 1 (ns.map V.int).length)).take (min (m+1) (ns.map V.int).length - min 1 (ns.map V.int).length),?_,?_⟩
 ·rw[show((m:Int)+1)=((m+1:Nat):Int) by omega,show(1:Int)=((1:Nat):Int)from rfl]
  unfold Ym;rw[HT.sIx_nat,HT.sIx_nat,List.map_take,List.map_drop]
 ·rw[yD,zzh]
  omega
inductive wC(K:Fg_)(vs:List V)(H:Hp)(Q:VK)(E:XK):Prop
 |mk (a:Addr) (ns:List Int) (_:vs=[.ref a]) (_:SqL K H a (ns.map V.int)) (_:∀(p:Addr)(xs:List Int) H',Same H H'->H p=none->H' p=some (.lst (xs.map V.int))->1<=xs.length->xs.length<=56->Q (.ref p) H'):wC K vs H Q E
def GJ(T:Txt K mg A D):jE P w K mg base CX0 2 A.zF D.zF ["_law_script"] (wC K):=by
 refine T.abH.F.okv nF λ_ _ _ _ H vs Q E hr h=>?_
 ·obtain⟨a,ns,rfl,hS,k⟩:=h
  refine ⟨_,(iu (iT (i:=1) nF.nd rfl orr (Rz (Su (K:=K)) (pvD 0) (QT iB) (QT iB)))
   (iu (jK (PW.pt (NP (iR (lu) (iZ qz (pcg (lW T) hr T.abC (mD T) (pav 0 (ig iB iy))) iB) iB (iY _)) (Gv (iR (HN) (jc (mG (K:=K)) (by rfl) T.add (by decide+kernel) (pav 1 iy)) iB (iY _))))) (iz (iM (jB (cap:=[none]) (N':=["_law_cell"]) rfl (by walk_at "c") (jG (K:=K) (pv 1)) (λ_ _ _ _=>(iK (i:=0) nd1 rfl orl orr)) (λ_ _ _ _=>jA) (λ_ _ _ _=>(iZ qz (pvD 0) (iZ kZ (iZ sH iB iB) (iZ sH iB iB))))))) jd)
   (iu (iT (i:=1) nF.nd rfl orr (iZ VL (pvD 1) (jX (ig (pcg (lW T) hr T.abC (mD T) (pav 0 (ig iB iy))) iy))))
   (iu (iT (i:=2) nF.nd rfl orl (iZ jD iB (iZ qz (iZ mK (pcg (lW T) hr T.abC (mD T) (pav 0 (ig iB iy))) iB) iB)))
   (iz (iM (jB (cap:=[none,some 1]) (N':=["_law_k", "_law_cells"]) rfl (by walk_at "c") (wK (by rfl) T.adf (pav 2 iy)) (λ_ _ _ _=>(iK (i:=0) (show(["_law_k", "_law_cells"]:List Str).Nodup from by decide+kernel) rfl orl orr)) (λ_ _ _ _=>jA) (λ_ _ _ _=>(pcg (LR T) hr T.abG (Ms T) (ig (jm (kW (K:=K)) (pvD 1) (iZ qz (pvD 0) (jc (mG (K:=K)) (by rfl) T.add (by decide+kernel) (pav 1 iy))) (λ_ _=>rfl)) (pav 0 iy))))))))))),?_⟩
  simp only[start_eq];walk_at "n";refine⟨_,hS,λp hp=>?_⟩;obtain⟨cs,ad,af⟩:=ahP ns 56;rw[show(57:Int)=((56:Nat):Int)+1 from rfl,ad];have s1:=iG (o:=.lst (cs.map V.int)) hp;have h1:(upd H p (.lst (cs.map V.int))) p=some (.lst (cs.map V.int)):=iC;generalize upd H p (.lst (cs.map V.int))=H1 at s1 h1
  (try dsimp only)
  refine jC λu hu=>?_;rw[ap_seq];walk_at "i"
  have rest:u {nx:=λ_ H'=>Q V.non H',rt:=Q} [some (V.ref a),some (V.ref p),none] H1:=by
   subst hu;walk_at "n";refine⟨a,ns,0,rfl,s1.seq hS,?_⟩;generalize ns.getD 0 0=q;refine⟨sz,λp1 ag=>?_⟩;have s2:=iG (o:=.lst [V.int q]) ag;refine⟨_,s2 _ _ h1,_,iC,by rw[za,zv];simp;omega,λp2 ae=>?_⟩;have s3:=iG (o:=.lst (cs.map V.int++[V.int q])) ae;have h3:(upd (upd H1 p1 (.lst [V.int q])) p2 (.lst (cs.map V.int++[V.int q]))) p2=some (.lst ((cs++[q]).map V.int)):=by rw[iC,zp];rfl
   have S3:=s1.trans (s2.trans s3);generalize upd (upd H1 p1 (.lst [V.int q])) p2 (.lst (cs.map V.int++[V.int q]))=H3 at S3 h3;walk_at "n";refine⟨a,ns,0,rfl,S3.seq hS,_,rfl,⟨by decide,by decide⟩,by decide,?_⟩;obtain⟨m,hm⟩:∃m,m=4+ns.getD 0 0/2%24:=⟨_,rfl⟩;have bm:4<=m/\m<28:=by omega
   rw[<-hm];rw[ap_ret];walk_at "i";refine⟨by omega,by omega,?_⟩;refine aiu (λσ=>∃v,σ=[v,some (.ref p2)]) (λi v _=>∃r,v=.int r) ⟨_,rfl⟩ (by rw[zv];omega) ?_ ?_
   ·rintro Da i hi σ H5 R ⟨v,rfl⟩ z hD hA kk
    walk_at "i";have h5:=z _ _ h3;have aa:0<(cs++[q]).length:=by rw[yd];exact Nat.succ_pos _
    refine⟨_,.inl (iH h5),by rw[za];omega,_,iH h5,?_⟩;rw[za];generalize cs++[q]=dl at aa h5;have e0:=yF (0+(i:Int)) (show(dl.length:Int)≠0 by omega);have e1:=yv (0+(i:Int)) (show(0:Int)<dl.length by omega);obtain⟨j,hj⟩:∃j:Nat,(0+(i:Int))%(dl.length:Int)=j:=⟨_,(Int.toNat_of_nonneg e0).symm⟩;rw[hj]at e1⊢;have ac:j<dl.length:=by omega
    exact⟨.int dl[j],Cz (by rw[zh,zg ac];rfl),_,_,rfl,by omega,by omega,λr=>kk _ _ H5 ⟨_,rfl⟩ (same_refl _) λ_ _=>⟨r,rfl⟩⟩
   ·intro Da H' acc hD z hA ab hF
    obtain ⟨xs,hx⟩:∃xs:List Int,acc=xs.map V.int:=by
     refine⟨acc.map toI,?_⟩;rw[zr];refine(FQ λv hv=>?_).symm;obtain⟨j,hj,ej⟩:=yC hv;obtain⟨r,rfl⟩:=hF j v (by rw[zg hj,ej]);rfl
    rw[hx]at hA;have ah:xs.length=m.toNat:=by rw[<-ab,hx,za]
    exact k Da xs H' (S3.trans z) (S3.free hD) hA (by omega) (by omega)
  refine⟨a,ns,0,rfl,s1.seq hS,_,rfl,by decide,?_⟩;split
  ·refine⟨_,.inl (iH h1),?_⟩
   rw[za];split
   ·rename_i hc
    have c1:xg (10^(60:Int).toNat) (10^(30:Int).toNat):=xg.big (by decide+kernel) (by decide+kernel);refine⟨⟨_,iH h1⟩,jZ.list (K:=K) (λσ=>∃v,σ=[v]) (λ_=>true) (λv=>match v with|.int i=> .int (i%(10^(60:Int).toNat*10^(30:Int).toNat))|v=>v) (iH h1) ⟨_,rfl⟩ (by rw[za,zv];omega) ?_ ?_⟩
    ·rintro x hx σ H5 R1 R2 ⟨v,rfl⟩ z k1 k2
     obtain⟨i,_,rfl⟩:=zi.mp hx;walk_at "i";exact⟨Dy (by decide) (by decide),Dy (by decide) (by decide),c1,by decide+kernel,k1 rfl _ _ ⟨_,rfl⟩ (same_refl _)⟩
    ·intro Da H' hD z e
     rw[Ia,zr]at e;refine k Da (cs.map λi=>i%(10^(60:Int).toNat*10^(30:Int).toNat)) H' (s1.trans z) (s1.free hD) (by rw[e,zr];rfl) (by rw[za];omega) (by rw[za];exact af)
   ·exact rest
  ·exact rest
abbrev RWL:=List (Addr×List Int)
noncomputable def Ae(rs:RWL):List V:=rs.map λr=>V.ref r.1
noncomputable def WD(i:Nat)(xs:List Int):Prop:=∃d m kd ix rest:Int,xs=[d,m*64+i,kd,ix,rest]/\Rg 0 1000000 d/\Rg 0 1999 m/\Rg 0 7 kd/\Rg 0 2 ix
noncomputable def Tn(H:Hp)(rs:RWL):Prop:=∀r∈rs,H r.1=some (.tup (r.2.map V.int))
def Tn.same{H H':Hp}{rs:RWL}(h:Tn H rs)(s:Same H H'):Tn H' rs:=λr q=>s _ _ (h r q)
theorem aiU{H:Hp}:∀{acc:List V}{j:Nat},(∀(i:Nat) v,acc[i]? =some v->∃b xs,v=.ref b/\H b=some (.tup (xs.map V.int))/\WD (j+i) xs)->∃rs:RWL,acc=Ae rs/\Tn H rs/\∀(i:Nat) r,rs[i]? =some r->WD (j+i) r.2
 |[],_,_=>⟨[],rfl,λr h=>(zl h).elim,λi r h=>by simp at h⟩
 |v::acc,j,h=>by
  obtain⟨b,xs,rfl,hb,hx⟩:=h 0 v rfl
  obtain ⟨rs,e1,z,e3⟩:=aiU (acc:=acc) (j:=j+1) λi v hv=>by
   have:=h (i+1) v hv
   rwa [show j+(i+1)=j+1+i by omega]at this
  refine⟨(b,xs)::rs,by rw[e1];rfl,λr q=>?_,λi r hi=>?_⟩
  ·rcases zu.mp q with rfl|q
   ·exact hb
   ·exact z r q
  ·cases i with
   |zero=>cases hi;exact hx
   |succ i=>have:=e3 i r hi;rwa [show j+1+i=j+(i+1) by omega]at this
noncomputable def aiN(xs:List Int):Int:=xs.getD 1 0
def Yd{rs:RWL}(hl:rs.length<=56)(h:∀(i:Nat) r,rs[i]? =some r->WD i r.2):(rs.map λr=>aiN r.2).Nodup:=by
 refine y9.mpr λi j hi z ab=>?_;rw[za]at hi z;rw[zzj,zzj];obtain⟨d,m,kd,ix,rest,e,_,bm,_⟩:=h i _ (zg hi);obtain⟨d',m',ac,aa,q,e',_,ad,_⟩:=h j _ (zg z);rw[e,e'];show m*64+(i:Int)≠m'*64+(j:Int);omega
noncomputable def tsT(H:Hp):V->List Int
 |.ref b=>match H b with
  |some (.tup xs)=>xs.map toI
  |_=>[]
 |_=>[]
def aiT{H:Hp}{b:Addr}{xs:List Int}(h:H b=some (.tup (xs.map V.int))):tsT H (.ref b)=xs:=by
 unfold tsT
 try dsimp only
 rw[h]
 try dsimp only
 rw[zr];exact FQ λx _=>rfl
noncomputable def dnE(tl:EL):List (Int×Int):=tl.map λr=>(r.2.day,r.2.num)
noncomputable def dnR(xs:List Int):Int×Int:=(xs.getD 0 0,aiN xs)
structure Hs(B H:Hp)(pt c:Addr)(tl:EL)(kc:List (Key×V))(ds:List (Int×Int))(i:Nat):Prop where
 s:Same B H
 l:H pt=some (.lst (mX tl))
 cd:H c=some (.dK kc)
 cn:B c=none
 t:Mj H tl
 g:Vb (tl.map (·.2))
 k:Cnt kc
 c:∀z,jr kc z=runC (tl.map (·.2)) z
 u:(dnE tl).Sublist (ds.take i)
 n:kc.length<=i
 v:∀r∈tl,r.2.num<900000
theorem Hs.same{B H H':Hp}{z c:Addr}{tl:EL}{q:List (Key×V)}{ds:List (Int×Int)}{i:Nat}(h:Hs B H z c tl q ds i)(s:Same H H'):Hs B H' z c tl q ds i:=
 ⟨h.s.trans s,s _ _ h.l,s _ _ h.cd,h.cn,h.t.same s,h.g,h.k,h.c,h.u,h.n,h.v⟩
theorem Hs.m{B H:Hp}{pt c:Addr}{tl:EL}{q:List (Key×V)}{ds:List (Int×Int)}{i:Nat}(h:Hs B H pt c tl q ds i)(z:Str):jr q z<=1000000000:=by
 have:=h.g.m tl.length z;rw[yr (by rw[za];exact zj _)]at this;rw[h.c];exact this
def aiI{d n d' z:Int}{r r':List Int}(h:uY (d::n::r) (d'::z::r') false=true)(hn:n≠z):d<d'\/(d=d'/\n<z):=by
 rw[uY]at h;by_cases q:d=d'
 ·rw[zn q,uY,ze hn]at h
  exact .inr ⟨q,yK h⟩
 ·rw[ze q]at h
  exact .inl (yK h)
inductive vR(K:Fg_)(vs:List V)(H:Hp)(Q:VK)(E:XK):Prop
 |mk (a:Addr) (ns:List Int) (_:vs=[.ref a,.bl false]) (_:SqL K H a (ns.map V.int)) (_:∀p (tl:EL) H',Same H H'->H p=none->H' p=some (.lst (mX tl))->Mj H' tl->Vb (tl.map (·.2))->(tl.map (·.2)).Pairwise BfE->tl.length<=56->(tl.map λr=>r.2.num).Nodup->(∀r∈tl,r.2.num<900000)->Q (.ref p) H'):vR K vs H Q E
def Gr(T:Txt K mg A D):jE P w K mg base CX0 4 A.zO D.zO ["_law_script", "_law_giving"] (vR K):=by
 refine T.abQ.F.okv jQ λ_ _ _ _ H vs Q E hr h=>?_
 ·obtain⟨a,ns,rfl,hS,k⟩:=h
  refine ⟨_,(iu (iT (i:=2) jQ.nd rfl orl FJ)
   (iu (iT (i:=3) jQ.nd rfl orl (jX iy))
   (iu (iT (i:=4) jQ.nd rfl orr (pcg (GJ T) hr T.abH (Jl T) (pav 0 iy)))
   (iu (qC yB rfl (lN (K:=K) (jc (QR (K:=K)) (by rfl) T.adg (by decide+kernel) (ig (jB (cap:=[none,some 4]) (N':=["_law_k", "_law_sources_here"]) rfl (by walk_at "c") (wK (by rfl) T.adf (ig (jc (mG (K:=K)) (by rfl) T.add (by decide+kernel) (pav 4 iy)) iy)) (λ_ _ _ _=>(iK (i:=0) (show(["_law_k", "_law_sources_here"]:List Str).Nodup from by decide+kernel) rfl orl orr)) (λ_ _ _ _=>jA) (λ_ _ _ _=>(pcg (PJ T) hr T.abP (Uy T) (ig (jm (kW (K:=K)) (pvD 1) (pvD 0) (λ_ _=>rfl)) (pav 0 iy))))) iy))) (iK (i:=5) jQ.nd rfl orl)
    (iu (iT (i:=6) jQ.nd rfl orl (pcg (Qg T) hr T.abO (UV T) (pav 5 (pav 2 (pav 1 iy)))))
    (iu (iT (i:=7) jQ.nd rfl orr (pcg (vN T) hr T.abB (xT T) (pav 2 (pav 6 iy))))
    (iz (jK (iR (ahz) (jc (Tr (K:=K) rfl) (by rfl) T.adh (by decide+kernel) (ig (iZ VL (jX (ig iB iy)) (Qj (jB (cap:=[none,some 7]) (N':=["_law_ware", "_law_more"]) rfl (by walk_at "c") (ahe (pvD 7)) (λ_ _ _ _=>(iK (i:=0) (show(["_law_ware", "_law_more"]:List Str).Nodup from by decide+kernel) rfl orl orr)) (λ_ _ _ _=>jA) (λ_ _ _ _=>(vq (nO hr) (pvD 1) (pvD 0) (λ_ _=>rfl)))))) iy)) (iZ sH iB iB) (iY _)) (iu (jf (vD (K:=K) yt yy yz mH (pvD 3) (pav 6 iy)))
     (iz (iT (i:=2) jQ.nd rfl orl (pvD 7)))) jd)))))
   (iz (iM (pvD 3))))))),?_⟩
  simp only[start_eq];walk_at "n";intro pd bz;have s1:=iG (o:=.dK []) bz;have b2:(upd H pd (.dK [])) pd=some (.dK []):=iC;generalize upd H pd (.dK [])=H1 at s1 b2;walk_at "n";refine⟨sz,λpt b1=>?_⟩;have s2:=iG (o:=.lst []) b1;have ax:(upd H1 pt (.lst [])) pt=some (.lst []):=iC;have ba:=s2 _ _ b2;generalize upd H1 pt (.lst [])=H2 at s2 ax ba;have S2:=s1.trans s2;walk_at "n";refine⟨a,ns,rfl,S2.seq hS,λq xs H3 s3 hq h3 ct cs=>?_⟩;have S3:=S2.trans s3
  (try dsimp only)
  refine jC λu hu=>?_;rw[ap_seq];refine Lg λtb ch=>?_;rw[ap_for];walk_at "i";refine⟨_,.inl (iH h3),by omega,by rw[za];omega,?_⟩;rw[za,yyu];have lz:∀n:Nat,n<=1000->n<=sizeLine:=λn h=>by rw[zv];omega
  refine aiu (λσ=>∃v,σ=[v,some (.ref q)]) (λi v H'=>∃b ys,v=.ref b/\H' b=some (.tup (ys.map V.int))/\WD i ys) ⟨_,rfl⟩ (lz _ (by omega)) ?_ ?_
  ·rintro Da i hi σ H5 R ⟨_,rfl⟩ sm hD ⟨acc,hA⟩ kk
   walk_at "i";rw[zz5];refine⟨_,iH (sm _ _ h3),.int xs[i],Cz (by rw[zh,zg hi];rfl),xs[i],i,rfl,λt d m kd ix rest H6 s6 ht bd bm bk bi=>?_⟩;refine kk (.ref t) _ H6 ⟨_,rfl⟩ s6 λH' hb=>⟨t,[d,m*64+i,kd,ix,rest],rfl,hb _ _ (λz=>?_) ht,d,m,kd,ix,rest,rfl,bd,bm,bk,bi⟩;rw[z,s6 _ _ hA]at ht;cases ht
  ·intro Da H4 acc hD s4 hA bt hF
   obtain⟨rs,e1,e2,e3⟩:=aiU (H:=H4) (acc:=acc) (j:=0) (λi v hv=>by rw[Nat.zero_add];exact hF i v hv);rw[e1]at hA;have b9:rs.length=xs.length:=by rw[<-bt,e1];unfold Ae;rw[za]
   have ad:∀(i:Nat) r,rs[i]? =some r->WD i r.2:=λi r h=>by have:=e3 i r h;rwa [Nat.zero_add]at this
   have au:=Yd (by omega) ad;rw[ap_rSortP];have af:∀r∈rs,tsT H4 (.ref r.1)=r.2:=λr hr=>aiT (e2 r hr);refine⟨_,tsT H4,4,iH hA,by unfold Ae;rw[za];omega,?_,λy hy=>?_,λp zs hp av bn=>?_⟩
   ·unfold Ae
    rw[zr];refine yu.mpr (zzs (fun{a b} ha hb h z=>h ?_) (yu.mp au));have z:tsT H4 (.ref a.1)=tsT H4 (.ref b.1):=z;rw[af a ha,af b hb]at z;rw[z]
   ·obtain⟨r,hr,rfl⟩:=zi.mp hy
    rw[af r hr];obtain⟨j,hj⟩:=zzL hr;obtain⟨d,m,kd,ix,rest,e,_⟩:=ad j r hj;exact⟨by rw[e];rfl,r.1,[],rfl,jt (by rw[yX];exact e2 r hr)⟩
   ·obtain⟨os,rfl,ae⟩:=CV (f:=λr:Addr×List Int=>V.ref r.1) av rfl
    have ce:(os.map λr=>dnR r.2).Pairwise λx y=>x.1<y.1\/(x.1=y.1/\x.2<y.2):=by
     have hnu':(os.map λr=>aiN r.2).Nodup:=(ae.map (λr:Addr×List Int=>aiN r.2)).nodup_iff.mpr au;refine yu.mpr (zzs (fun{a b} ha hb h=>?_) ((yu.mp bn).and (yu.mp hnu')));obtain⟨h1,h2⟩:=h;have ha:=ae.mem_iff.mp ha;have hb:=ae.mem_iff.mp hb;rw[af a ha,af b hb]at h1;obtain⟨j,hj⟩:=zzL ha;obtain⟨j',b4⟩:=zzL hb;obtain⟨d,m,kd,ix,rest,e,_⟩:=ad j a hj;obtain⟨d',m',cu,cl,b7,e',_⟩:=ad j' b b4;rw[e,e']at h1 h2⊢;exact aiI h1 h2
    have s5:=iG (o:=.lst (Ae os)) hp;have h5:(upd H4 p (.lst (Ae os))) p=some (.lst (Ae os)):=iC;change(∃cp,_);have S5:=S3.trans (s4.trans s5);have as:=s3.trans (s4.trans s5);have b0:Tn (upd H4 p (.lst (Ae os))) os:=λr hr=>s5 _ _ (e2 r (ae.mem_iff.mp hr));have cb:(upd H4 p (.lst (os.map λr=>V.ref r.1)))=upd H4 p (.lst (Ae os)):=rfl;rw[cb];generalize upd H4 p (.lst (Ae os))=H5 at s5 h5 S5 as b0;have bx:p≠pt:=λz=>by rw[z,(s3.trans s4) _ _ ax]at hp;cases hp
    refine⟨p,rfl,⟨_,iH h5⟩,?_⟩;have co:os.length=xs.length:=by rw[ae.length_eq,b9]
    have al:=s1.free b1
    refine Jf.listN (K:=K) (a:=p) (xs:=Ae os) (λi σ Hx=>∃(c:Addr)(tl:EL)(kc:List (Key×V))(v5 v6 v7:Option V),σ=[some (.ref a),some (.bl false),some (.ref c),some (.ref pt),some (.ref q),v5,v6,v7]/\Hs H Hx pt c tl kc (os.map λr=>dnR r.2) i/\Hx p=some (.lst (Ae os))/\Tn Hx os)
     ⟨pd,[],[],_,_,_,rfl,⟨S5,as _ _ ax,as _ _ ba,bz,λr h=>(zl h).elim,Vb.nil,Cnt.nil,λz=>rfl,zzI _,zj _,λr h=>(zl h).elim⟩,h5,b0⟩ (λi σ Hx _ ⟨_,_,_,_,_,_,_,_,h,_⟩=>iH h) ?_ ?_
    ·rintro i y σ Hx hi ⟨c,tl,kc,v5,v6,v7,rfl,L,bp,ap⟩ N hN
     obtain ⟨r,aw,rfl⟩:∃r,os[i]? =some r/\y=.ref r.1:=by
      unfold Ae at hi;rw[zh]at hi
      cases e:os[i]? with
      |none=>rw[e]at hi;cases hi
      |some r=>rw[e]at hi;exact⟨r,rfl,(zw hi).symm⟩
     have bc:=zq aw;obtain⟨j,hj⟩:=zzL (ae.mem_iff.mp bc);obtain⟨d,m,kd,ix,rest,er,bd,bm,bk,bi⟩:=ad j r hj;have cn:j<rs.length:=(zo.mp hj).1;have cq:i<os.length:=(zo.mp aw).1;have bh:=ap r bc;rw[er]at bh;subst ch;walk_at "n";unfold Rg at bm;refine⟨r.1,c,d,m*64+j,kd,ix,rest,kc,rfl,bh,L.cd,L.k,L.m,bd,⟨by omega,by omega⟩,bk,bi,λt e H6 s6 ht hg cg bl b3=>?_⟩;have L6:=L.same s6;walk_at "n";have cm:=L6.n;refine⟨c,t,kc,e,rfl,L6.cd,L6.k,L6.m,by omega,ht,hg.1,b3,λq2 k2 H7 s7 cc h7 aj cr cd=>?_⟩;have L7:=L6.same s7
     (try dsimp only)
     walk_at "i";have am:H q2=none:=L6.s.free cc;refine⟨lz _ (by decide),λp1 ck=>?_⟩;have s8:=iG (o:=.lst [V.int 0]) ck;have bv:(upd H7 p1 (.lst [V.int 0])) p1=some (.lst [V.int 0]):=iC;generalize upd H7 p1 (.lst [V.int 0])=H8 at s8 bv;have L8:=L7.same s8;have h8:=s8 _ _ h7;have cf:=s8 _ _ (s7 _ _ ht);have ar:=((ap.same s6).same s7).same s8;have bq:=s8 _ _ (s7 _ _ (s6 _ _ bp));refine⟨k2,h8,λo=>?_⟩;have h9:(upd H8 q2 (.frz o (.dK k2))) q2=some (.frz o (.dK k2)):=iC;have o9:But q2 H8 (upd H8 q2 (.frz o (.dK k2))):=ajm;generalize upd H8 q2 (.frz o (.dK k2))=H9 at h9 o9;refine YD (λσ=>∃v,σ=[v,some (.ref q2)]) (λi v _=>∃kv,k2[i]? =some kv/\v=kv.2) h9 ⟨_,rfl⟩ (lz _ (by omega)) ?_ ?_
     ·rintro Db j' kv az σ ak R ⟨_,rfl⟩ sm aq bb kk
      have hv:=Um aj.u (k:=kv.1) (v:=kv.2) (zq az);walk_at "i";exact⟨kv.2,hv▸.inl ⟨_,kv.1,.inr ⟨o,sm _ _ h9⟩,rfl,rfl⟩,kk _ _ _ ⟨_,rfl⟩ (same_refl _) λ_ _=>⟨kv,az,rfl⟩⟩
     ·intro Db ak bw aq be bb b6 ci
      have hb':=be _ _ h9;have ca:Db≠q2:=λe=>by rw[e,h9]at aq;cases aq
      refine⟨q2,o,k2,hb',λo' u' e=>?_,?_⟩
      ·have e:H q2=some (.frz o' u'):=e
       rw[am]at e;cases e
      have S:Same H8 (upd ak q2 (.dK k2)):=λa u h=>by
       by_cases e:a=q2
       ·subst e;rw[h8]at h;rw[iC];exact h
       ·exact(iJ e).trans (be _ _ (o9 a u e h))
      have ao:(upd ak q2 (.dK k2)) Db=some (.lst ((k2.map λkv=>toI kv.2).map V.int)):=by
       refine(iJ ca).trans (bb.trans ?_);congr 2;refine zzH λn=>?_;rw[zh,zh];by_cases hn:n<bw.length
       ·obtain⟨kv,g1,g2⟩:=ci n _ (zg hn)
        obtain⟨z',i',e',_⟩:=aj.k kv (zq g1);rw[zg hn,g2,g1,e'];rfl
       ·rw[yx (by omega),yx (by omega)]
        rfl
      generalize upd ak q2 (.dK k2)=bu at S ao;walk_at "i";refine⟨_,S _ _ bv,_,ao,by rw[za,za,zv];simp;omega,λp3 b5=>?_⟩;have bf:=iG (o:=.lst ([V.int 0]++(k2.map λkv=>toI kv.2).map V.int)) b5;have bj:(upd bu p3 (.lst ([V.int 0]++(k2.map λkv=>toI kv.2).map V.int))) p3=some (.lst ((0::k2.map λkv=>toI kv.2).map V.int)):=iC;generalize upd bu p3 (.lst ([V.int 0]++(k2.map λkv=>toI kv.2).map V.int))=bo at bf bj;have ac:=S.trans bf;have aa:=L8.same ac;have ag:bo q2=some (.dK k2):=ac _ _ h8
      have ai:(os.map λr=>dnR r.2)[i]? =some (e.day,e.num):=by
       rw[zh,aw,cg,bl];show some (dnR r.2)=_;rw[er];rfl
      refine⟨_,iH bj,List.cons_ne_nil _ _,λM cw b8=>⟨Dy (by decide) (by decide),?_⟩⟩;rw[show(10:Int)^(9:Int).toNat=1000000000 by decide];split
      ·rename_i bs
       walk_at "n";refine⟨.inl ⟨rfl,_,iH aa.l⟩,_,aa.l,by rw[oG,zv];have:=aa.u.length_le;rw[yD]at this;unfold dnE at this;rw[za]at this;omega,?_⟩;walk_at "i";have ah:∀{b:Addr}{ys:List V},bo b=some (.tup ys)->b≠pt:=λh e=>by rw[e,aa.l]at h;cases h
       have ay:q2≠pt:=λe=>by rw[e,aa.l]at ag;cases ag
       have an:=ac _ _ cf;have br:(tl++[(t,e)]).map (·.2)=tl.map (·.2)++[e]:=by rw[zp];rfl
       have hcE':∀z,jr k2 z=agq (runC (tl.map (·.2))) e z:=λz=>by
        rw[cd,show jr kc=runC (tl.map (·.2))from funext aa.c]
       have cj:∀z,jr k2 z<=1000000000:=λz'=>by
        unfold jr
        cases ev:nY k2 (Sum.inr z')with
        |none=>show(0:Int)<=_;decide
        |some v=>
         obtain⟨y',i',ey,_⟩:=aj.k _ (Dr ev);have bg:=b8 (toI v) (ya _ (zi.mpr ⟨_,Dr ev,rfl⟩));cases ey;exact Int.le_trans bg bs
       refine hN _ _ ⟨q2,tl++[(t,e)],k2,_,_,_,rfl,⟨aa.s.upd al,?_,(iJ ay).trans ag,am,λr' ab=>?_,?_,aj,λz=>by rw[br,sO];exact hcE' z,?_,by omega,λr' ab=>(yg.mp ab).elim (aa.v r') λh=>by rw[zx.mp h];show e.num<900000;rw[bl];omega⟩,(iJ bx).trans (ac _ _ bq),λr' ab=>(iJ (ah (ac _ _ (ar r' ab)))).trans (ac _ _ (ar r' ab))⟩
       ·rw[iC];unfold mX;rw[zp];rfl
       ·rcases yg.mp ab with ab|ab
        ·exact(aa.t r' ab).put aa.l
        ·obtain rfl:=zx.mp ab
         exact⟨.non,(iJ (ah an)).trans an,by rw[hg.2.1];exact rfl⟩
       ·rw[br]
        exact aa.g.snoc hg (by rw[<-show jr kc=runC (tl.map (·.2))from funext aa.c];exact b3) λz=>hcE' z▸cj z
       ·have hn:dnE (tl++[(t,e)])=dnE tl++[(e.day,e.num)]:=by unfold dnE;rw[zp];rfl
        rw[hn,yk,ai];exact aa.u.append (zzI _)
      ·refine hN _ _ ⟨c,tl,kc,_,_,_,rfl,⟨aa.s,aa.l,aa.cd,aa.cn,aa.t,aa.g,aa.k,aa.c,aa.u.trans ?_,by have:=aa.n;omega,aa.v⟩,ac _ _ bq,ar.same ac⟩
       rw[yk];exact zzR _ _
    ·rintro σ Hx ⟨c,tl,kc,v5,v6,v7,rfl,L,bp,ap⟩
     subst hu;walk_at "a";have hlen':(Ae os).length=os.length:=by unfold Ae;rw[za]
     rw[hlen']at L;have hu:=L.u;rw[yr (by rw[za];exact zj _)]at hu
     have cv:tl.length<=os.length:=by
      have:=hu.length_le;unfold dnE at this
      rwa [za,za]at this
     have hb:=ce.sublist hu;unfold dnE at hb;refine k pt tl Hx L.s al L.l L.t L.g (yu.mpr ((yu.mp hb).imp λh=>h)) (by omega) ?_ L.v
     have hnu':((os.map λr=>dnR r.2).map (·.2)).Nodup:=by
      rw[zr];exact(ae.map (λr:Addr×List Int=>aiN r.2)).nodup_iff.mpr au
     have:=(hu.map (·.2)).nodup hnu';unfold dnE at this;rw[zr]at this;exact this
def mW{t:TA}{σ:L2.St}{H:Hp}{Q:List V->Hp->Prop}{q:Addr}{xs:List V}{i:Int}{v:V}{j:Nat}(hσ:σ[j]? =some (some (.ref q)))(hq:H q=some (.tup xs))(z:atI xs i=some v)(k:t σ H λvs H'=>Q (v::vs) H'):DG (tOp (agH K) (tV j) (tC (.int i))) t σ H Q:=by
 simp only[L2.ap_cons,L2.ap_op,L2.av_V,L2.atV_iff,L2.ap_c,L2.ap_ixT];exact⟨_,hσ,q,xs,i,v,rfl,rfl,jt hq,z,k⟩
inductive Bt(A:Adr)(vs:List V)(H:Hp)(Q:VK)(E:XK):Prop
 |mk (q:Addr) (e:Ent) (_:vs=[.ref q]) (_:YH H q e) (_:e.lots=none) (_:e.good) (_:∀x B H',Same H B->Made A B H' x e->Q (.ref x) H'):Bt A vs H Q E
def Ma(T:Txt K mg A D):jE P w K mg base CX0 6 A.aa1 D.aa1 ["_law_row_here"] (Bt A):=by
 refine T.ac2.F.okv Lp λ_ _ _ _ H vs Q E hr h=>?_
 ·obtain⟨q,e,rfl,⟨nv,z,hn⟩,ho,hg,k⟩:=h
  refine ⟨_,(iu (jK (iR (lu) (jm (iW (K:=K)) (pvD 0) iB (λ_ _=>rfl)) ji (iY _)) (iz (iM (lD T.afa (Hf (K:=K) T) (hr.mono (by decide)) (by rfl) T.adC (uP T).choose_spec.1 (uP T).choose_spec.2 jw (ig (jm (iW (K:=K)) (pvD 0) iB (λ_ _=>rfl)) (ig (jm (iW (K:=K)) (pvD 0) iB (λ_ _=>rfl)) (ig (jm (iW (K:=K)) (pvD 0) iB (λ_ _=>rfl)) (ig (jm (iW (K:=K)) (pvD 0) iB (λ_ _=>rfl)) (ig (jm (iW (K:=K)) (pvD 0) iB (λ_ _=>rfl)) (ig (jm (iW (K:=K)) (pvD 0) iB (λ_ _=>rfl)) iy))))))))) jd)
   (iu (jK (iR (lu) (jm (iW (K:=K)) (pvD 0) iB (λ_ _=>rfl)) ji (iY _)) (iz (iM (lD T.afb (Fy (K:=K) T) (hr.mono (by decide)) (by rfl) T.adE (sy T).choose_spec.1 (sy T).choose_spec.2 jw (ig (jm (iW (K:=K)) (pvD 0) iB (λ_ _=>rfl)) (ig (jm (iW (K:=K)) (pvD 0) iB (λ_ _=>rfl)) (ig (jm (iW (K:=K)) (pvD 0) iB (λ_ _=>rfl)) (ig (jm (iW (K:=K)) (pvD 0) iB (λ_ _=>rfl)) (ig (jm (iW (K:=K)) (pvD 0) iB (λ_ _=>rfl)) (ig (jm (iW (K:=K)) (pvD 0) iB (λ_ _=>rfl)) (ig (jm (iW (K:=K)) (pvD 0) iB (λ_ _=>rfl)) iy)))))))))) jd)
   (iu (jK (iR (lu) (jm (iW (K:=K)) (pvD 0) iB (λ_ _=>rfl)) ji (iY _)) (iz (iM (lD T.afc (Fw (K:=K) T) (hr.mono (by decide)) (by rfl) T.adD (Ih T) .nil jw (ig (jm (iW (K:=K)) (pvD 0) iB (λ_ _=>rfl)) (ig (jm (iW (K:=K)) (pvD 0) iB (λ_ _=>rfl)) (ig (jm (iW (K:=K)) (pvD 0) iB (λ_ _=>rfl)) (ig (jm (iW (K:=K)) (pvD 0) iB (λ_ _=>rfl)) (ig (jm (iW (K:=K)) (pvD 0) iB (λ_ _=>rfl)) (ig (jm (iW (K:=K)) (pvD 0) iB (λ_ _=>rfl)) iy))))))))) jd)
   (iu (jK (iR (lu) (jm (iW (K:=K)) (pvD 0) iB (λ_ _=>rfl)) ji (iY _)) (iz (kY)) jd)
   (iu (jK (iR (lu) (jm (iW (K:=K)) (pvD 0) iB (λ_ _=>rfl)) ji (iY _)) (iz (iM (lD T.afd (Ds (K:=K) T) (hr.mono (by decide)) (by rfl) T.adG (Fe T) .nil jw (ig (jm (iW (K:=K)) (pvD 0) iB (λ_ _=>rfl)) (ig (jm (iW (K:=K)) (pvD 0) iB (λ_ _=>rfl)) (ig (jm (iW (K:=K)) (pvD 0) iB (λ_ _=>rfl)) (ig (jm (iW (K:=K)) (pvD 0) iB (λ_ _=>rfl)) (ig (jm (iW (K:=K)) (pvD 0) iB (λ_ _=>rfl)) iy)))))))) jd)
   (iz (iM (lD T.ae9 (Av (K:=K) T) (hr.mono (by decide)) (by rfl) T.adH (Bg T) .nil jw (ig (jm (iW (K:=K)) (pvD 0) iB (λ_ _=>rfl)) (ig (jm (iW (K:=K)) (pvD 0) iB (λ_ _=>rfl)) (ig (jm (iW (K:=K)) (pvD 0) iB (λ_ _=>rfl)) (ig (jm (iW (K:=K)) (pvD 0) iB (λ_ _=>rfl)) (ig (jm (iW (K:=K)) (pvD 0) iB (λ_ _=>rfl)) (ig (jm (iW (K:=K)) (pvD 0) iB (λ_ _=>rfl)) iy)))))))))))))),?_⟩
  rw[ho]at hn;obtain rfl:nv=.non:=hn;simp only[start_eq]
  cases e with
  |buy d n w p r f=>
   have z:H q=some (.tup [.str "buy",.int d,.int n,.str w,.int p,.int r,.int f]):=z;refine gi1 rfl z rfl ?_;rw[ap_ret,ap_make];refine mW rfl z rfl (mW rfl z rfl (mW rfl z rfl (mW rfl z rfl (mW rfl z rfl (mW rfl z rfl (?_))))));rw[ap_nil];intro x dx hx aa ab;exact⟨x,d,n,p,r,f,w,H,dx,rfl,ql hx aa,hg,λH' hM=>⟨rfl,k x _ H' (same_refl H) hM⟩⟩
  |sell d n w p r f o=>
   obtain rfl:o=none:=ho;have z:H q=some (.tup [.str "sell",.int d,.int n,.str w,.int p,.int r,.int f,.non]):=z;refine si1 rfl z rfl (by decide+kernel) ?_;refine gi1 rfl z rfl ?_;rw[ap_ret,ap_make];refine mW rfl z rfl (mW rfl z rfl (mW rfl z rfl (mW rfl z rfl (mW rfl z rfl (mW rfl z rfl (mW rfl z rfl (?_)))))));rw[ap_nil];intro x dx hx aa ab;exact⟨x,d,n,p,r,f,w,H,dx,rfl,ql hx aa,hg,λH' hM=>⟨rfl,k x _ H' (same_refl H) hM⟩⟩
  |gift d n w p c s=>
   have z:H q=some (.tup [.str "gift",.int d,.int n,.str w,.int p,.int c,.int s]):=z;refine si1 rfl z rfl (by decide+kernel) ?_;refine si1 rfl z rfl (by decide+kernel) ?_;refine gi1 rfl z rfl ?_;rw[ap_ret,ap_make];refine mW rfl z rfl (mW rfl z rfl (mW rfl z rfl (mW rfl z rfl (mW rfl z rfl (mW rfl z rfl (?_))))));rw[ap_nil];intro x dx hx aa ab;exact⟨x,d,n,p,c,s,w,H,dx,rfl,ql hx aa,hg,λH' hM=>⟨rfl,k x _ H' (same_refl H) hM⟩⟩
  |split d n w m f=>
   have z:H q=some (.tup [.str "split",.int d,.int n,.str w,.int m,.int f]):=z;refine si1 rfl z rfl (by decide+kernel) ?_;refine si1 rfl z rfl (by decide+kernel) ?_;refine si1 rfl z rfl (by decide+kernel) ?_;refine si1 rfl z rfl (by decide+kernel) ?_;refine gi1 rfl z rfl ?_;rw[ap_ret,ap_make];refine mW rfl z rfl (mW rfl z rfl (mW rfl z rfl (mW rfl z rfl (mW rfl z rfl (?_)))));rw[ap_nil];intro x dx hx aa ab;exact⟨x,d,n,m,f,w,H,dx,rfl,ql hx aa,hg,λH' hM=>⟨rfl,k x _ H' (same_refl H) hM⟩⟩
  |part d n w u s t=>
   have z:H q=some (.tup [.str "part",.int d,.int n,.str w,.str u,.int s,.int t]):=z;refine si1 rfl z rfl (by decide+kernel) ?_;refine si1 rfl z rfl (by decide+kernel) ?_;refine si1 rfl z rfl (by decide+kernel) ?_;refine si1 rfl z rfl (by decide+kernel) ?_;refine si1 rfl z rfl (by decide+kernel) ?_;rw[ap_ret,ap_make];refine mW rfl z rfl (mW rfl z rfl (mW rfl z rfl (mW rfl z rfl (mW rfl z rfl (mW rfl z rfl (?_))))));rw[ap_nil];intro x dx hx aa ab;exact⟨x,d,n,s,t,w,u,H,dx,rfl,ql hx aa,hg,λH' hM=>⟨rfl,k x _ H' (same_refl H) hM⟩⟩
inductive Ir(A:Adr)(vs:List V)(H:Hp)(Q:VK)(E:XK):Prop
 |mk (c:Int) (_:vs=[.int c]) (_:∀w C dw H',Same H H'->H' w=some (.ins C dw [])->RT A C->Q (.ref w) H'):Ir A vs H Q E
def Im(T:Txt K mg A D):jE P w K mg base CX0 1 A.aa7 D.aa7 ["_law_cell"] (Ir A):=by
 refine T.ac8.F.okv Qt λ_ _ _ _ H vs Q E hr h=>?_
 ·obtain⟨c,rfl,k⟩:=h
  refine⟨_,(iz (iM (jm (kW (K:=K)) (jX (ig (Lb T.aff (by rfl) T.adz) (ig (Lb T.afg (by rfl) T.adA) (ig (Lb T.afh (by rfl) T.adB) (ig (Lb T.afi (by rfl) T.ady) iy))))) (iZ qz (pvD 0) iB) (λ_ _=>rfl)))),?_⟩;walk_at "a";intro x0 d0 q z n0 x1 d1 ac af n1 x2 d2 aa ae n2 x3 d3 ab ad n3;refine⟨sz,λp hp=>?_⟩;have a0:=ql (C:=A.abg) q z;have a1:=ql (C:=A.abh) ac af;have a2:=ql (C:=A.abi) aa ae;have a3:=ql (C:=A.abf) ab ad;have ap:=iG (o:=.lst [V.ref x0,V.ref x1,V.ref x2,V.ref x3]) hp;have t3:=a3.s.trans ap;have t2:=a2.s.trans t3;have t1:=a1.s.trans t2;have S:=a0.s.trans t1;have h0:=yF c (show(4:Int)≠0 by decide);have h1:=yv c (show(0:Int)<4 by decide);refine⟨by decide,_,iH iC,?_⟩;have hc:c%4=0\/c%4=1\/c%4=2\/c%4=3:=by omega
  rcases hc with e|e|e|e<;>rw[e]
  ·exact⟨_,rfl,k x0 _ d0 _ S (t1 _ _ a0.h) .e⟩
  ·exact⟨_,rfl,k x1 _ d1 _ S (t2 _ _ a1.h) .n⟩
  ·exact⟨_,rfl,k x2 _ d2 _ S (t3 _ _ a2.h) .d⟩
  ·exact⟨_,rfl,k x3 _ d3 _ S (ap _ _ a3.h) .m⟩
inductive qL(A:Adr)(vs:List V)(H:Hp)(Q:VK)(E:XK):Prop
 |mk (b:Addr) (k:BkD) (y:Int×Addr×LY) (_:vs=[.ref b]) (_:iV A H b k) (_:k.C=A.abc) (_:k.x=some y) (_:∀p,H p=none->Q (.ref p) (upd H p (.lst (uf y.2.2)))):qL A vs H Q E
def Cp(T:Txt K mg A D):jE P w K mg base CX0 1 A.aa9 D.aa9 ["self"] (qL A):=by
 refine T.ada.okv Cd λ_ _ _ _ H vs Q E hr h=>?_
 ·obtain⟨b,kb,y,rfl,q,z,hk,k⟩:=h
  refine⟨_,(iz (iM (lH (pN (K:=K)) (by rfl) T.ade (by decide+kernel) (ig (fv K 0) iy)))),?_⟩;obtain⟨db,hb⟩:=q.i;simp only[start_eq];walk_at "a";refine rd hb (by rw[z];exact T.ad5) (by rw[z];exact T.aee) (v:=.ref y.2.1) (by unfold BkD.fs BkD.xs;rw[hk];rfl) ?_;exact⟨_,_,rfl,.inl (iH (q.y _ hk).1),k⟩
def ajg{xs:List Int}(hx:xs≠[])(n:Int):∃v,atI (xs.map V.int) (n%((xs.map V.int).length:Int))=some (.int v):=by
 have aa:0<(xs.map V.int).length:=by rw[za];exact y8.mpr hx
 have g1:=yF n (show((xs.map V.int).length:Int)≠0 by omega);have z:=yv n (show 0<((xs.map V.int).length:Int) by omega);obtain⟨j,hj⟩:∃j:Nat,(j:Int)=n%((xs.map V.int).length:Int):=⟨_,Int.toNat_of_nonneg g1⟩;rw[<-hj]at z⊢;have q:j<xs.length:=by rw[za]at z;omega
 exact⟨xs[j],Cz (by rw[zh,zg q];rfl)⟩
inductive Ef(K:Fg_)(vs:List V)(H:Hp)(Q:VK)(E:XK):Prop
 |mk (a:Addr) (ns:List Int) (_:vs=[.ref a]) (_:SqL K H a (ns.map V.int)) (_:∀(g:Int) H',Same H H'->Q (.int g) H'):Ef K vs H Q E
def Mv(T:Txt K mg A D):jE P w K mg base CX0 2 A.zC D.zC ["_law_script"] (Ef K):=by
 refine T.abE.F.okv Em λ_ _ _ _ H vs Q E hr h=>?_
 ·obtain⟨a,ns,rfl,z,k⟩:=h
  refine ⟨_,(iu (iT (i:=1) Em.nd rfl orl (iZ mK (pcg (lW T) hr T.abC (mD T) (pav 0 (ig iB iy))) iB))
   (iz (iM (jm (kW (K:=K)) (jX (ig (iZ qz (iZ mK (pvD 1) iB) iB) (ig (iZ qz (iZ mK (pvD 1) iB) iB) (ig iB (ig (iZ qz (iZ mK (pvD 1) iB) (iZ jD (iZ sH iB iB) iB)) iy))))) (iZ qz (pvD 1) iB) (λ_ _=>rfl))))),?_⟩
  simp only[start_eq];walk_at "n";refine⟨a,ns,0,rfl,z,_,rfl,Ot (by decide) (by decide),?_⟩;generalize ns.getD 0 0/64=c;walk_at "a";obtain⟨v,hv⟩:=ajg (xs:=[c/4%31,c/4%31,0,c/4%(10^Int.toNat 6+1)]) (by simp) c;have q:Lz c 4:=Ot (by decide) (by decide);exact⟨q,by decide,q,by decide,q,Dy (by decide) (by decide),by decide,sz,λp hp=>⟨by decide,_,iH iC,.int v,hv,k v _ (iG hp)⟩⟩
noncomputable def gnE(e:Ent):Int:=ajB e - YG e - ajy e
inductive BL(A:Adr)(vs:List V)(H:Hp)(Q:VK)(E:XK):Prop
 |mk (p:Addr) (tl:EL) (_:vs=[.ref p]) (_:H p=some (.lst (mX tl))) (_:(∀r∈tl,YH H r.1 r.2/\r.2.good/\r.2.lots=none)) (_:∀H',Same H H'->Q (.int (tl.map λr=>gnE r.2).sum) H'):BL A vs H Q E
def Kw(T:Txt K mg A D):jE P w K mg base CX0 1 A.zD D.zD ["_law_rows"] (BL A):=by
 refine T.abF.F.okv mj λ_ _ _ _ H vs Q E hr h=>?_
 ·obtain⟨p,tl,rfl,hp,hT,k⟩:=h
  refine ⟨_,(iu (iT (i:=1) mj.nd rfl orl iB)
   (iu (qC yB rfl (jG (K:=K) (pv 0)) (iK (i:=2) mj.nd rfl orl)
    (iu (jK (iR (lu) (jm (iW (K:=K)) (pvD 2) iB (λ_ _=>rfl)) ji (iY _)) (iz (iT (i:=1) mj.nd rfl orl (iZ pX (iZ jD (pvD 1) (iZ kZ (jm (iW (K:=K)) (pvD 2) iB (λ_ _=>rfl)) (jm (iW (K:=K)) (pvD 2) iB (λ_ _=>rfl)))) (jm (iW (K:=K)) (pvD 2) iB (λ_ _=>rfl))))) jd)
    (iu (jK (iR (lu) (jm (iW (K:=K)) (pvD 2) iB (λ_ _=>rfl)) ji (iY _)) (iz (iT (i:=1) mj.nd rfl orl (iZ pX (iZ pX (pvD 1) (iZ kZ (jm (iW (K:=K)) (pvD 2) iB (λ_ _=>rfl)) (jm (iW (K:=K)) (pvD 2) iB (λ_ _=>rfl)))) (jm (iW (K:=K)) (pvD 2) iB (λ_ _=>rfl))))) jd)
    (iz (jK (iR (lu) (jm (iW (K:=K)) (pvD 2) iB (λ_ _=>rfl)) ji (iY _)) (iz (iT (i:=1) mj.nd rfl orl (iZ pX (pvD 1) (jm (iW (K:=K)) (pvD 2) iB (λ_ _=>rfl))))) jd)))))
   (iz (iM (pvD 1))))),?_⟩
  simp only[start_eq];walk_at "n";rw[ap_seq,ap_for];walk_at "i";refine⟨⟨_,iH hp⟩,?_⟩;refine Jf.listN (K:=K) (a:=p) (xs:=mX tl) (λi σ Hx=>(∃v2,σ=[some (.ref p),some (.int ((tl.take i).map λr=>gnE r.2).sum),v2])/\Same H Hx) ⟨⟨_,rfl⟩,same_refl _⟩ (λi σ Hx _ ⟨_,s⟩=>iH (s _ _ hp)) ?_ ?_
  ·rintro i y σ Hx hi ⟨⟨v2,rfl⟩,sx⟩ N hN
   obtain⟨r,ab,rfl⟩:=BV hi;obtain⟨⟨nv,ad,ac⟩,hg,ho⟩:=hT r (zq ab);rw[ho]at ac;obtain rfl:nv=.non:=ac;have q:=sx _ _ ad;have aa:((tl.take (i+1)).map λr=>gnE r.2).sum=((tl.take i).map λr=>gnE r.2).sum+gnE r.2:=by rw[yk,ab];simp
   rw[aa]at hN;generalize((tl.take i).map λr=>gnE r.2).sum=z at hN⊢;rw[ap_name];obtain⟨ra,e⟩:=r;dsimp only at q hN hg ho
   cases e with
   |buy d n w pc r f=>
    have q:Hx ra=some (.tup [.str "buy",.int d,.int n,.str w,.int pc,.int r,.int f]):=q;refine si1 rfl q rfl (by decide+kernel) ?_;refine jC λu hu=>?_;refine gi1 rfl q rfl ?_;walk_at "i";subst hu;refine⟨_,jt q,_,rfl,_,jt q,_,rfl,_,rfl,_,rfl,Ru hg.2.1 hg.2.2.1,_,jt q,_,rfl,_,rfl,?_⟩;refine Qw rfl q rfl ?_;rw[agj (by decide+kernel)];exact hN _ _ ⟨⟨_,by rw[show z+gnE (.buy d n w pc r f)=z - pc*r - f by show z+(0 - (pc*r+f) - 0)=z - pc*r - f;omega]<;>rfl⟩,sx⟩
   |sell d n w pc r f o=>
    have q:Hx ra=some (.tup [.str "sell",.int d,.int n,.str w,.int pc,.int r,.int f,.non]):=q;refine jC λu hu=>?_;refine gi1 rfl q rfl ?_;walk_at "i";subst hu;refine⟨_,jt q,_,rfl,_,jt q,_,rfl,_,rfl,_,rfl,Ru hg.2.1 hg.2.2.1,_,jt q,_,rfl,_,rfl,?_⟩;refine si1 rfl q rfl (by decide+kernel) ?_;refine Qw rfl q rfl ?_;rw[agj (by decide+kernel)];exact hN _ _ ⟨⟨_,by rw[show z+gnE (.sell d n w pc r f o)=z+pc*r - f by show z+((pc*r - f) - 0 - 0)=z+pc*r - f;omega]<;>rfl⟩,sx⟩
   |gift d n w pc c s=>
    have q:Hx ra=some (.tup [.str "gift",.int d,.int n,.str w,.int pc,.int c,.int s]):=q;refine si1 rfl q rfl (by decide+kernel) ?_;refine si1 rfl q rfl (by decide+kernel) ?_;refine Qw rfl q rfl ?_;rw[yf rfl,zn rfl];walk_at "i";refine⟨_,jt q,_,rfl,_,rfl,?_⟩;exact hN _ _ ⟨⟨_,by rw[show z+gnE (.gift d n w pc c s)=z - c by show z+(0 - 0 - c)=z - c;omega]<;>rfl⟩,sx⟩
   |split d n w m f=>
    have q:Hx ra=some (.tup [.str "split",.int d,.int n,.str w,.int m,.int f]):=q;refine si1 rfl q rfl (by decide+kernel) ?_;refine si1 rfl q rfl (by decide+kernel) ?_;refine Qw rfl q rfl ?_;rw[agj (by decide+kernel)];exact hN _ _ ⟨⟨_,by rw[show z+gnE (.split d n w m f)=z by show z+(0 - 0 - 0)=z;omega]<;>rfl⟩,sx⟩
   |part d n w u s t=>
    have q:Hx ra=some (.tup [.str "part",.int d,.int n,.str w,.str u,.int s,.int t]):=q;refine si1 rfl q rfl (by decide+kernel) ?_;refine si1 rfl q rfl (by decide+kernel) ?_;refine Qw rfl q rfl ?_;rw[agj (by decide+kernel)];exact hN _ _ ⟨⟨_,by rw[show z+gnE (.part d n w u s t)=z by show z+(0 - 0 - 0)=z;omega]<;>rfl⟩,sx⟩
  ·rintro σ Hx ⟨⟨v2,rfl⟩,sx⟩
   rw[show(mX tl).length=tl.length from za _,yJ];walk_at "a";exact k Hx sx
noncomputable def cst(ls:RL):Int:=((ls.map (·.2)).map jh.c).sum
noncomputable def Ux(k:BkD):List (Key×V):=[(Sum.inr "paid",.int k.paid),(Sum.inr "brought",.int k.brought),(Sum.inr "laid",.int ((k.sl.filter λt=>decide (t.2.lo≠none)).map λt=> -(t.2.pr - t.2.co)).sum),(Sum.inr "sold",.int (k.sl.map λt=>t.2.co).sum),(Sum.inr "given",.int (k.gv.map λt=>cst t.2.2.2).sum),(Sum.inr "left",.int (k.rs.map λt=>cst t.2.2).sum),(Sum.inr "proceeds",.int (k.sl.map λt=>t.2.pr).sum)]
def ajh{q z H5:Hp}{r:Addr}{kvs:List (Key×V)}(hr:q r=some (.dK kvs))(o4:∀a o,a≠r->q a=some o->z a=some o)(s:Same z H5):Same q (upd H5 r (.dK kvs)):=λa o h=>by
 by_cases c:a=r
 ·rw[c,hr]at h
  rw[c,iC];exact h
 ·rw[iJ c]
  exact s _ _ (o4 _ _ c h)
def ahp{α:Type}{f:α->Int}{rs:List α}{acc:List V}(q:acc.length=rs.length)(h:∀(i:Nat) v,acc[i]? =some v->∃l,rs[i]? =some l/\v=.int (f l)):acc=(rs.map f).map V.int:=by
 refine zzH λi=>?_;rw[zh,zh];by_cases hi:i<acc.length
 ·obtain⟨l,h1,h2⟩:=h i _ (zg hi)
  rw[zg hi,h2,h1];rfl
 ·rw[yx (by omega),yx (by omega)]
  rfl
inductive Eo(A:Adr)(vs:List V)(H:Hp)(Q:VK)(E:XK):Prop
 |mk (b:Addr) (k:BkD) (ns:List Int) (_:vs=[.ref b]) (_:iV A H b k) (_:Mf ns jo k.rs) (_:ns.length<=61) (_:k.sl.length<=100) (_:k.gv.length<=100) (_:(∀t∈k.gv,t.2.2.2.length<=61)) (_:∀p H',Same H H'->H p=none->H' p=some (.dK (Ux k))->Q (.ref p) H'):Eo A vs H Q E
def Ep(T:Txt K mg A D):jE P w K mg base CX0 3 A.aa2 D.aa2 ["self"] (Eo A):=by
 refine T.ac3.okv Oq λ_ _ _ _ H vs Q E hr h=>?_
 ·obtain⟨b,q,ns,rfl,hB,hO,hN,hl,bc,aq,k⟩:=h
  refine⟨_,(iz (iM (ahi (tW ji (fv K 0) (tW ji (fv K 0) (tW ji (jc (lX (K:=K) rfl) (by rfl) T.adk (by decide+kernel) (ig (jB (cap:=[none]) (N':=["sale"]) rfl (by walk_at "c") (lN (K:=K) (fv K 0)) (λ_ _ _ _=>(iK (i:=0) nd1 rfl orl orr)) (λ_ _ _ _=>(Ah (iR (LK) (fv K 0) mJ (iY _)))) (λ_ _ _ _=>(ZJ SJ (lG (pv 0) (mc T.aef T.afo (oJ T) hr (qu T) .nil) jw)))) iy)) (tW ji (jc (lX (K:=K) rfl) (by rfl) T.adk (by decide+kernel) (ig (jB (cap:=[none]) (N':=["sale"]) rfl (by walk_at "c") (lN (K:=K) (fv K 0)) (λ_ _ _ _=>(iK (i:=0) nd1 rfl orl orr)) (λ_ _ _ _=>jA) (λ_ _ _ _=>(pcg (uE T) hr T.ab2 (vI T) (ig (fv K 0) iy)))) iy)) (tW ji (jc (lX (K:=K) rfl) (by rfl) T.adk (by decide+kernel) (ig (jB (cap:=[none,none]) (N':=["number", "lots"]) rfl (by walk_at "c") (lN (K:=K) (fv K 0)) (λ_ _ _ _=>(nu (K:=K) (n:=2) rfl (jl (iK (i:=0) (show(["number", "lots"]:List Str).Nodup from by decide+kernel) rfl orl orr) (jl (iK (i:=1) (show(["number", "lots"]:List Str).Nodup from by decide+kernel) rfl orl orr) nA)))) (λ_ _ _ _=>jA) (λ_ _ _ _=>(pcg (Dz T) hr T.ach (HD T) (pav 1 iy)))) iy)) (tW ji (Qj (jc (lX (K:=K) rfl) (by rfl) T.adk (by decide+kernel) (ig (jB (cap:=[none]) (N':=["row"]) rfl (by walk_at "c") (XD (HY (K:=K) yQ zzQ PySem.F.type_dict_values Np (fv K 0))) (λ_ _ _ _=>(iK (i:=0) nd1 rfl orl orr)) (λ_ _ _ _=>jA) (λ_ _ _ _=>(pcg (Dz T) hr T.ach (HD T) (pav 0 iy)))) iy))) (tW ji (jc (lX (K:=K) rfl) (by rfl) T.adk (by decide+kernel) (ig (jB (cap:=[none]) (N':=["sale"]) rfl (by walk_at "c") (lN (K:=K) (fv K 0)) (λ_ _ _ _=>(iK (i:=0) nd1 rfl orl orr)) (λ_ _ _ _=>jA) (λ_ _ _ _=>(fv K 0))) iy)) ahJ))))))) rfl rfl (List.cons_ne_nil _ _) (Nat.le_of_ble_eq_true rfl)))),?_⟩;walk_at "a";unfold ais;intro pd ah;simp only[Sq];have sd:=iG (o:=.dK []) ah;have hd:(upd H pd (.dK [])) pd=some (.dK []):=iC;obtain⟨H1,e1⟩:∃H1,H1=upd H pd (HO.dK []):=⟨_,rfl⟩;rw[<-e1]at sd hd⊢;clear e1;have ab:=hB.same sd;have hC:=CQ T hB;obtain⟨dx,hb⟩:=ab.i;walk_at "i";refine rd hb hC.c hC.p (by rfl) (rd hb hC.c hC.b (by rfl) (rd hb hC.c hC.s (by rfl) ⟨q.sales,rfl,⟨_,iH ab.s⟩,?_⟩));refine Xe (f:=λt:Addr×jx=>V.ref t.1) (λσ=>∃a,σ=[a]) (λt=>decide (t.2.lo≠none)) (λ_ t v _=>v=.int (-(t.2.pr - t.2.co))) (iH ab.s) ⟨_,rfl⟩ (by omega) ?_ ?_
  ·rintro Da t ht σ H5 R1 R2 ⟨_,rfl⟩ sm hD hA k1 k2
   have hS:=(ab.frz.s t ht).same sm;obtain⟨dt,hi⟩:=hS.i;walk_at "i";refine rd hi T.aef T.ael (v:=loV t.2.lo) (by rfl) (?_)
   cases e:t.2.lo with
   |none=>
    rw[e]at k2;exact k2 (by decide) _ _ ⟨_,rfl⟩ (same_refl _)
   |some i=>
    rw[e]at k1;exact md hi zm (by rfl) ⟨t.1,t.2,rfl,hS,λH7 s7=>⟨_,rfl,k1 (yf λc=>by cases c) _ _ _ ⟨_,rfl⟩ s7 λ_ _=>rfl⟩⟩
  intro D2 H2 az bb s2 h2 av;rw[tD.ints av]at h2;rw[ap_rSum];refine⟨_,iH h2,?_⟩;have af:=ab.same s2;refine rd (s2 _ _ hb) hC.c hC.s (by rfl) ⟨q.sales,rfl,⟨_,iH af.s⟩,?_⟩;refine Jx (f:=λt:Addr×jx=>V.ref t.1) (λσ=>∃a,σ=[a]) (λ_ t v _=>v=.int t.2.co) (iH af.s) ⟨_,rfl⟩ (by omega) ?_ ?_
  ·rintro Da t ht σ H5 R ⟨_,rfl⟩ sm hD hA kk
   have hS:=(af.frz.s t ht).same sm;obtain⟨dt,hi⟩:=hS.i;walk_at "i";exact rd hi T.aef T.aek (by rfl) ⟨t.2.pl,t.2.ps,rfl,hS.p,hS.t,hS.l,λH7 s7=>kk _ _ _ ⟨_,rfl⟩ s7 λ_ _=>rfl⟩
  intro D3 H3 ax bf s3 h3 au;rw[tD.ints au]at h3;rw[ap_rSum];refine⟨_,iH h3,?_⟩;have ad:=af.same s3;have ak:=s2.trans s3;refine rd (ak _ _ hb) hC.c hC.g (by rfl) ⟨q.givs,rfl,⟨_,iH ad.g⟩,?_⟩;refine Jx (f:=λt:Addr×Int×Addr×RL=>V.ref t.1) (λσ=>∃a b,σ=[a,b]) (λ_ t v _=>v=.int (cst t.2.2.2)) (iH ad.g) ⟨_,_,rfl⟩ (by omega) ?_ ?_
  ·rintro Da t ht σ H5 R ⟨_,_,rfl⟩ sm hD hA kk
   obtain⟨g1,g2,g3⟩:=ad.frz.g t ht;walk_at "i";exact⟨_,jt (sm _ _ g1),rfl,_,_,rfl,_,_,rfl,rfl,t.2.2.1,t.2.2.2,rfl,sm _ _ g2,g3.same sm,by have:=aq t ht;omega,λH7 s7=>kk _ _ _ ⟨_,_,rfl⟩ s7 λ_ _=>rfl⟩
  intro D4 H4 aw bg s4 h4 ar;rw[tD.ints ar]at h4;rw[ap_rSum];refine⟨_,iH h4,?_⟩;have z:=ad.same s4;have ag:=ak.trans s4;refine rd (ag _ _ hb) hC.c hC.r (v:=.ref q.rows) (by rfl) ⟨.inr (.inr (.inl ⟨rfl,.inl ⟨_,z.r⟩⟩)),?_⟩;refine⟨_,_,rfl,rfl,z.r,λv hv=>⟨v,rfl,q.rows,iC,kvR q.rs,(iJ (jz z.r hv)).trans z.r,λo=>?_⟩⟩;have h5:(upd (upd H4 v (vh v q.rows)) q.rows (.frz o (.dK (kvR q.rs)))) q.rows=some (.frz o (.dK (kvR q.rs))):=iC;have o5:∀a o',a≠q.rows->H4 a=some o'->(upd (upd H4 v (vh v q.rows)) q.rows (.frz o (.dK (kvR q.rs)))) a=some o':=λa o' as h=>(iJ as).trans (iG hv _ _ h);generalize upd (upd H4 v (vh v q.rows)) q.rows (.frz o (.dK (kvR q.rs)))=H5 at h5 o5⊢
  have am:Kf A H5 q.rs:=λt ht=>⟨o5 _ _ (z.ner (z.frz.l t ht).1 λ_ c=>by cases c) (z.frz.l t ht).1,λl hl=>by
   obtain⟨dy,hy⟩:=(z.frz.l t ht).2 l hl;exact⟨dy,o5 _ _ (z.ner hy λ_ c=>by cases c) hy⟩⟩
  have al:(kvR q.rs).length=q.rs.length:=by unfold kvR;rw[za]
  have hz:q.rs.length<=3:=hO.len;refine ZK (λσ=>∃a,σ=[a]) (λi v _=>∃t,q.rs[i]? =some t/\v=.int (cst t.2.2)) h5 ⟨_,rfl⟩ (by rw[al,zv];omega) ?_ ?_
  ·rintro Da i kv aa σ H6 R ⟨_,rfl⟩ s6 hD hA kk
   obtain ⟨t,ai,rfl⟩:∃t,q.rs[i]? =some t/\kv=(Sum.inr t.1,.ref t.2.1):=by
    unfold kvR at aa;rw[zh]at aa
    cases e:q.rs[i]? with
    |none=>rw[e]at aa;cases aa
    |some t=>rw[e]at aa;exact⟨t,rfl,(zw aa).symm⟩
   have ht:=zq ai;walk_at "i";exact⟨t.2.1,t.2.2,rfl,s6 _ _ (am t ht).1,(am t ht).2.same s6,by have:=(hO.n t ht).2.len;omega,λH7 s7=>kk _ _ _ ⟨_,rfl⟩ s7 λ_ _=>⟨t,ai,rfl⟩⟩
  ·intro D5 H7 ba be s7 h7 an ap
   rw[ahp (f:=λt:Str×Addr×RL=>cst t.2.2) (rs:=q.rs) (by rw[an,al]) ap]at h7;rw[ap_rSum];refine⟨_,iH h7,q.rows,o,kvR q.rs,s7 _ _ h5,λo u e=>?_,?_⟩
   ·have e:H q.rows=some (.frz o u):=e
    rw[hB.r]at e;cases e
   have ae:=ajh z.r o5 s7;have ac:=z.same ae;generalize upd H7 q.rows (.dK (kvR q.rs))=H8 at ae ac⊢;refine rd ((ag.trans ae) _ _ hb) hC.c hC.s (by rfl) ⟨q.sales,rfl,⟨_,iH ac.s⟩,?_⟩;refine Jx (f:=λt:Addr×jx=>V.ref t.1) (λσ=>∃a,σ=[a]) (λ_ t v _=>v=.int t.2.pr) (iH ac.s) ⟨_,rfl⟩ (by omega) ?_ ?_
   ·rintro Da t ht σ H5 R ⟨_,rfl⟩ sm hD hA kk
    obtain⟨dt,hi⟩:=((ac.frz.s t ht).same sm).i;walk_at "i";exact rd hi T.aef T.aej (by rfl) (kk _ _ _ ⟨_,rfl⟩ (same_refl _) λ_ _=>rfl)
   intro D9 H9 ay bd s9 h9 ao;rw[tD.ints ao]at h9;rw[ap_rSum];have aj:=ag.trans (ae.trans s9);refine⟨_,iH h9,aj _ _ hd,Ux q,rfl,(show(7:Nat)<=15 by decide),?_⟩
   have hm:Ko [] (Ux q)=Ux q:=by
    have:=KR (Ux q) [] (by show([Sum.inr "paid",Sum.inr "brought",Sum.inr "laid",Sum.inr "sold",Sum.inr "given",Sum.inr "left",Sum.inr "proceeds"]:List Key).Nodup;decide+kernel);exact this
   rw[hm];exact k pd _ (λa o h=>(iJ (jz h ah)).trans (aj _ _ (sd _ _ h))) ah iC
noncomputable def rM(tl:EL):Int:=(tl.getLast?.map λr=>r.2.day).getD 0
def Yr{tl:EL}(z:(tl.map (·.2)).Pairwise BfE):∀r∈tl,r.2.day<=rM tl:=by
 intro r q;rcases zzF tl with rfl|⟨l,x,rfl⟩
 ·cases q
 ·rw[zzG]at z q⊢
  unfold rM;rw[List.getLast?_concat];show r.2.day<=x.2.day;rcases yg.mp q with q|q
  ·rw[zp]at z
   have:=(zzK.mp z).2.2 r.2 (zi.mpr ⟨r,q,rfl⟩) x.2 (by simp);unfold BfE at this;omega
  ·rw[zx.mp q];exact zzX _
structure Yk(tl tl':EL)(i:Nat):Prop where
 g:Vb (tl'.map (·.2))
 b:(tl'.map (·.2)).Pairwise BfE
 l:tl'.length<=56+i
 n:∀r∈tl',r.2.num<900000+i/\r.2.day<=rM tl
 u:(tl'.map λr=>r.2.num).Nodup
 c:∀z,runC (tl'.map (·.2)) z=if z∈jo.take i then 0 else runC (tl.map (·.2)) z
def SQ{i:Nat}{w:Str}(h:jo[i]? =some w):w∉jo.take i/\i<3/\∀z,z∈jo.take (i+1)↔z∈jo.take i\/z=w:=by
 refine⟨?_,(zo.mp h).1,λz=>by rw[yk,h];simp⟩
 match i,h with
 |0,h=>simp
 |1,h=>cases h;decide+kernel
 |2,h=>cases h;decide+kernel
def Yk.skip{tl q:EL}{i:Nat}{w:Str}(h:Yk tl q i)(hw:jo[i]? =some w)(h0:runC (tl.map (·.2)) w=0):Yk tl q (i+1):=by
 obtain⟨_,_,h3⟩:=SQ hw;refine⟨h.g,h.b,Nat.le_succ_of_le h.l,λr hr=>⟨by have:=(h.n r hr).1;omega,(h.n r hr).2⟩,h.u,λz=>?_⟩;rw[h.c z];by_cases c:z∈jo.take i
 ·rw[zn c,zn ((h3 z).mpr (.inl c))]
 ·rw[ze c]
  by_cases e:z=w
  ·rw[zn ((h3 z).mpr (.inr e)),e,h0]
  ·rw[ze λc'=>((h3 z).mp c').elim c e]
theorem Yk.sell{tl q:EL}{i:Nat}{w:Str}{t:Addr}{pr:Int}(h:Yk tl q i)(hw:jo[i]? =some w)(hd:0<=rM tl/\rM tl<=1000000)(hp:0<runC (tl.map (·.2)) w)(ac:0<=pr/\pr<=1000000000):Yk tl (q++[(t,.sell (rM tl) (900000+i) w (runC (tl.map (·.2)) w) pr i none)]) (i+1):=by
 obtain⟨h1,h2,h3⟩:=SQ hw;have aa:=zq hw;have hc:=h.c w;rw[ze h1]at hc;have hm:=h.g.m q.length w;rw[yr (by rw[za];exact zj _),hc]at hm;have he:∀t:Addr,(q++[(t,Ent.sell (rM tl) (900000+i) w (runC (tl.map (·.2)) w) pr i none)]).map (·.2)=q.map (·.2)++[.sell (rM tl) (900000+i) w (runC (tl.map (·.2)) w) pr i none]:=λt=>by rw[zp];rfl
 have hz:∀z,agq (runC (q.map (·.2))) (.sell (rM tl) (900000+i) w (runC (tl.map (·.2)) w) pr i none) z=if z∈jo.take (i+1)then 0 else runC (tl.map (·.2)) z:=λz=>by
  show(if z=w then runC (q.map (·.2)) w - runC (tl.map (·.2)) w else runC (q.map (·.2)) z)=_;by_cases e:z=w
  ·rw[zn e,zn ((h3 z).mpr (.inr e)),hc];omega
  ·rw[ze e,h.c z]
   by_cases c:z∈jo.take i
   ·rw[zn c,zn ((h3 z).mpr (.inl c))]
   ·rw[ze c,ze λc'=>((h3 z).mp c').elim c e]
 have ab:∀r∈q,BfE r.2 (.sell (rM tl) (900000+i) w (runC (tl.map (·.2)) w) pr i none):=λr hr=>by
  have:=h.n r hr;show r.2.day<rM tl\/(r.2.day=rM tl/\r.2.num<900000+i);omega
 refine⟨?_,?_,?_,λr hr=>?_,?_,λz=>?_⟩
 ·rw[he]
  refine h.g.snoc ⟨⟨⟨hd.1,hd.2,by omega,by omega,FZ w aa⟩,⟨by omega,hm⟩,ac,⟨by omega,by omega⟩,trivial⟩,rfl,aa,aa⟩ ?_ λz=>?_
  ·show runC (tl.map (·.2)) w<=runC (q.map (·.2)) w
   omega
  ·rw[hz]
   split
   ·decide
   ·rename_i c
    have:=h.g.m q.length z;rw[yr (by rw[za];exact zj _),h.c z,ze λc'=>c ((h3 z).mpr (.inl c'))]at this;exact this
 ·rw[he]
  refine zzK.mpr ⟨h.b,List.pairwise_singleton _ _,λx hx y hy=>?_⟩;obtain⟨r,hr,rfl⟩:=zi.mp hx;rw[zx.mp hy];exact ab r hr
 ·rw[yd]
  have:=h.l;show q.length+1<=_;omega
 ·rcases yg.mp hr with hr|hr
  ·have:=h.n r hr;omega
  ·rw[zx.mp hr]
   exact⟨by show(900000:Int)+i<_;omega,zzX _⟩
 ·rw[zp]
  refine zzq.mpr ⟨h.u,by simp,λx hx y hy e=>?_⟩;obtain⟨r,hr,rfl⟩:=zi.mp hx;have hy:y=900000+(i:Int):=zx.mp hy;have:=(h.n r hr).1;omega
 ·rw[he,sO]
  exact hz z
def Wk{tl:EL}(h:tl≠[]):∃r∈tl,atI (mX tl) (-1)=some (.ref r.1)/\rM tl=r.2.day:=by
 rcases zzF tl with rfl|⟨l,x,rfl⟩
 ·exact(h rfl).elim
 ·rw[zzG]
  refine⟨x,by simp,?_,?_⟩
  ·rw[show mX (l++[x])=mX l++[V.ref x.1] by unfold mX;rw[zp];rfl]
   exact Yx _ _
  ·unfold rM
   rw[List.getLast?_concat];rfl
def Zu{tl:EL}(h:Vb (tl.map (·.2))):0<=rM tl/\rM tl<=1000000:=by
 by_cases e:tl=[]
 ·rw[e];decide
 ·obtain⟨r,q,_,e⟩:=Wk e
  rw[e];have:=(h.g r.2 (zi.mpr ⟨r,q,rfl⟩)).1;generalize r.2=x at this⊢;cases x<;>exact⟨this.1.1,this.1.2⟩
def ajk(e:Ent)(q:V):atI (V.str e.word::e.args q) 1=some (.int e.day):=by cases e<;>rfl
inductive xR(K:Fg_)(vs:List V)(H:Hp)(Q:VK)(E:XK):Prop
 |mk (p a:Addr) (tl:EL) (ns:List Int) (_:vs=[.ref p,.ref a]) (_:H p=some (.lst (mX tl))) (_:Mj H tl) (_:Yk tl tl 0) (_:SqL K H a (ns.map V.int)) (_:∀q (tl':EL) H',Same H H'->H q=none->H' q=some (.lst (mX tl'))->Mj H' tl'->Yk tl tl' 3->Q (.ref q) H'):xR K vs H Q E
def Ji(T:Txt K mg A D):jE P w K mg base CX0 2 A.zB D.zB ["_law_rows", "_law_script"] (xR K):=by
 refine T.abD.F.okv jW λ_ _ _ _ H vs Q E hr h=>?_
 ·obtain⟨p,a,tl,ns,rfl,hp,hT,hC,hA,k⟩:=h
  refine ⟨_,(iu (iT (i:=2) jW.nd rfl orl FJ)
   (iu (qC yB rfl (jG (K:=K) (pv 0)) (iK (i:=3) jW.nd rfl orl)
    (iz (iT (i:=2) jW.nd rfl orl (pcg (vN T) hr T.abB (xT T) (pav 2 (pav 3 iy))))))
   (iu (iT (i:=4) jW.nd rfl orl (lH (pN (K:=K)) (by rfl) T.ade (by decide+kernel) (pav 0 iy)))
   (iu (qC yB rfl (wK (by rfl) T.adf (ig iB iy)) (iK (i:=5) jW.nd rfl orl)
    (iu (iT (i:=6) jW.nd rfl orl (jm (kW (K:=K)) (jX (ig ji (ig ji (ig ji iy)))) (pvD 5) (λ_ _=>rfl)))
    (iz (jK (iR (HN) (nC (nO hr) (pvD 2) (pvD 6) iB ⟨rfl,rfl,rfl,rfl⟩) iB (iY _)) (iu (iT (i:=7) jW.nd rfl orl (iZ qz (pcg (lW T) hr T.abC (mD T) (pav 1 (ig (iZ jD iB (pvD 5)) iy))) (iZ jD (iZ sH iB iB) iB)))
     (iz (jf (vD (K:=K) yt yy yz mH (pvD 4) (ig (lY (ig ji (ig (jm (iW (K:=K)) (jm (kW (K:=K)) (pvD 0) (ZJ SJ iB) (λ_ _=>rfl)) iB (λ_ _=>rfl)) (ig (iZ jD iB (pvD 5)) (pav 6 (ig (vq (nO hr) (pvD 2) (pvD 6) (λ_ _=>rfl)) (pav 7 (pav 5 (ig mJ iy))))))))) iy))))) jd))))
   (iz (iM (pvD 4))))))),?_⟩
  simp only[start_eq];walk_at "n";intro pd bc;have s1:=iG (o:=.dK []) bc;have as:(upd H pd (.dK [])) pd=some (.dK []):=iC;generalize upd H pd (.dK [])=H1 at s1 as
  (try dsimp only)
  refine jC λu hu=>?_;rw[ap_seq,ap_for];walk_at "i";refine⟨⟨_,iH (s1 _ _ hp)⟩,?_⟩
  refine Jf.listN (K:=K) (a:=p) (xs:=mX tl) (λi σ Hx=>∃(c:Addr)(kv:List (Key×V))(v3:Option V),σ=[some (.ref p),some (.ref a),some (.ref c),v3,none,none,none,none]/\Same H Hx/\Hx c=some (.dK kv)/\Cnt kv/\kv.length<=i/\∀z,jr kv z=runC ((tl.map (·.2)).take i) z)
   ⟨pd,[],_,rfl,s1,as,Cnt.nil,zj _,λz=>rfl⟩ (λi σ Hx _ ⟨_,_,_,_,s,_⟩=>iH (s _ _ hp)) ?_ ?_
  ·rintro i y σ Hx hi ⟨c,kv,v3,rfl,sx,hc,aj,ap,ac⟩ N hN
   obtain⟨r,am,rfl⟩:=BV hi;have bk:=(zo.mp am).1;have bi:=hC.l;obtain⟨nv,ai,ar⟩:=hT r (zq am);have al:(tl.map (·.2))[i]? =some r.2:=by rw[zh,am];rfl
   have hg:=hC.g.g r.2 (zq al);rw[hg.2.1]at ar;obtain rfl:nv=.non:=ar;walk_at "i";refine⟨c,r.1,kv,r.2,rfl,hc,aj,λz=>by rw[ac];exact hC.g.m i z,by omega,sx _ _ ai,hg.1,?_,λq au H2 s2 hq bb bf bl be=>?_⟩
   ·rw[show jr kv=runC ((tl.map (·.2)).take i)from funext ac]
    exact hC.g.f i _ al
   ·refine hN _ _ ⟨q,au,_,rfl,sx.trans s2,bb,bf,by omega,λz=>?_⟩
    rw[be,show jr kv=runC ((tl.map (·.2)).take i)from funext ac,yk,al];exact(congrFun (sO _ _) z).symm
  ·rintro σ H2 ⟨c,kv,v3,rfl,s2,hc,aj,ap,ac⟩
   rw[oG,yr (by rw[za];exact zj _)]at ac;rw[oG]at ap;subst hu;walk_at "n";refine⟨_,.inl (iH (s2 _ _ hp)),λl hl=>?_⟩;have s3:=iG (o:=.lst (mX tl)) hl;have h3:(upd H2 l (.lst (mX tl))) l=some (.lst (mX tl)):=iC;generalize upd H2 l (.lst (mX tl))=H3 at s3 h3;have S3:=s2.trans s3;have ao:=s2.free hl;have bh:=s3 _ _ hc
   (try dsimp only)
   refine jC λu hu=>?_;rw[ap_seq];refine Lg λtb bg=>?_;rw[ap_for];walk_at "i";refine⟨by decide,by decide,?_⟩
   refine Jf.rangeN (lo:=0) (n:=3) (λi σ Hx=>∃(aa:EL)(v3 v5 v6 v7:Option V),σ=[some (.ref p),some (.ref a),some (.ref c),v3,some (.ref l),v5,v6,v7]/\Same H Hx/\Hx c=some (.dK kv)/\Hx l=some (.lst (mX aa))/\Mj Hx aa/\Yk tl aa i)
    ⟨tl,_,_,_,_,rfl,S3,bh,h3,hT.same S3,hC⟩ ?_ ?_
   ·rintro i σ Hx hi ⟨aa,v3,v5,v6,v7,rfl,sx,aq,an,af,ae⟩ N hN
    subst bg;rw[zz5];walk_at "n";refine⟨sz,λwl ba=>?_⟩;have s4:=iG (o:=.lst [.str (Str.ofString "tin"),.str (Str.ofString "ore"),.str (Str.ofString "abcdefgh")]) ba;have h4:(upd Hx wl (.lst [.str (Str.ofString "tin"),.str (Str.ofString "ore"),.str (Str.ofString "abcdefgh")])) wl=some (.lst (jo.map V.str)):=iC;generalize upd Hx wl (.lst [.str (Str.ofString "tin"),.str (Str.ofString "ore"),.str (Str.ofString "abcdefgh")])=H4 at s4 h4⊢;obtain⟨w,hw⟩:∃w,jo[i]? =some w:=⟨jo[i],zg _⟩;refine⟨_,iH h4,.str w,Cz (by rw[zh,hw];rfl),?_⟩;have S4:=sx.trans s4;have ad:=s4 _ _ aq;have ak:=s4 _ _ an;obtain⟨g1,g2⟩:=aj.get w;rw[ac w]at g1 g2;walk_at "i";refine⟨.inl ⟨kv,.inl ad⟩,_,Br (k:=Sum.inr w) ad,?_⟩;rw[g1];refine⟨_,rfl,?_⟩;by_cases ab:0<runC (tl.map (·.2)) w
    ·rw[zn ab]
     have ay:tl≠[]:=λe=>by rw[e]at ab;exact absurd ab (by show¬(0:Int)<0;decide)
     obtain⟨r,av,aw,bd⟩:=Wk ay;obtain⟨nv,ai,_⟩:=hT r av;have az:=Zu hC.g;walk_at "n";refine⟨a,ns,3+i,rfl,S4.seq hA,Dy (by decide) (by decide),_,rfl,by decide,?_⟩;generalize ax:ns.getD (3+i) 0%(10^Int.toNat 9+1)=pr;walk_at "i"
     have hv:nY kv (Sum.inr w)=some (.int (runC (tl.map (·.2)) w)):=by
      cases e:nY kv (Sum.inr w)with
      |none=>rw[e]at g1;have g1:=V.int.inj g1;omega
      |some v=>rw[e]at g1;rw[<-g1];rfl
     refine⟨tyL (iH ak),_,iH (S4 _ _ hp),_,aw,r.1,rfl,_,jt (S4 _ _ ai),_,ajk r.2 nv,_,hv▸Br (k:=Sum.inr w) ad,sz,λt ht=>?_⟩;rw[<-bd];have s5:=iG (o:=.tup [V.str (Str.ofString "sell"),V.int (rM tl),V.int (900000+i),V.str w,V.int (runC (tl.map (·.2)) w),V.int pr,V.int i,V.non]) ht;have h5:(upd H4 t (.tup [V.str (Str.ofString "sell"),V.int (rM tl),V.int (900000+i),V.str w,V.int (runC (tl.map (·.2)) w),V.int pr,V.int i,V.non])) t=some (.tup [V.str (Str.ofString "sell"),V.int (rM tl),V.int (900000+i),V.str w,V.int (runC (tl.map (·.2)) w),V.int pr,V.int i,V.non]):=iC;generalize upd H4 t (.tup [V.str (Str.ofString "sell"),V.int (rM tl),V.int (900000+i),V.str w,V.int (runC (tl.map (·.2)) w),V.int pr,V.int i,V.non])=H5 at s5 h5⊢;have ag:=s5 _ _ ak;have ah:=s5 _ _ ad;have bj:=ae.l;refine⟨_,ag,by rw[oG,zv];omega,hN _ _ ⟨aa++[(t,.sell (rM tl) (900000+i) w (runC (tl.map (·.2)) w) pr i none)],_,_,_,_,rfl,(S4.trans s5).upd ao,(iJ λe=>by rw[e,ag]at ah;cases ah).trans ah,?_,λx hx=>?_,ae.sell hw az ab ?_⟩⟩
     ·rw[iC];unfold mX;rw[zp];rfl
     ·rcases yg.mp hx with hx|hx
      ·exact((af x hx).same (s4.trans s5)).put ag
      ·obtain rfl:=zx.mp hx
       exact⟨.non,(iJ λe:t=l=>by rw[e,ag]at h5;cases h5).trans h5,rfl⟩
     ·rw[<-ax]
      exact⟨yF _ (by decide),Int.le_of_lt_add_one (yv _ (by decide))⟩
    ·rw[ze ab]
     exact hN _ _ ⟨aa,_,_,_,_,rfl,S4,ad,ak,af.same s4,ae.skip hw (by omega)⟩
   ·rintro σ Hx ⟨aa,v3,v5,v6,v7,rfl,sx,aq,an,af,ae⟩
    subst hu;walk_at "a";exact k l aa Hx sx ao an af ae
def Xu{ns:List Int}{es:List Ent}{k:BkD}(h:StB ns es k)(h0:∀z∈jo,runC es z=0):k.rs=[]:=by
 cases e:k.rs with
 |nil=>rfl
 |cons t rs=>
  exfalso;have q:t∈k.rs:=by rw[e];exact zm
  have h1:=h.c t.1;rw[h0 t.1 (h.r.w t q),e,rowOf,zn rfl]at h1;have h2:=vC (h.r.n t q).2.p;exact(h.r.n t q).1 (zzv.mp (by omega))
theorem WL:∀sl:List (Addr×jx),(sl.map λt=>t.2.cnt).sum=(sl.map λt=>prD t.2.dat).sum - (sl.map λt=>coD t.2.dat).sum+(sl.map λt=>wW t.2.dat).sum
 |[]=>rfl
 |t::sl=>by
  simp only[zf,yn];rw[WL sl];have h1:prD t.2.dat=t.2.pr:=rfl;have h2:coD t.2.dat=t.2.co:=rfl
  have q:t.2.cnt=prD t.2.dat - coD t.2.dat+wW t.2.dat:=by
   unfold wW jx.cnt;rw[h1,h2];show(if t.2.lo=none then _ else _)=_+(if t.2.lo=none then _ else _);split<;>omega
  omega
theorem RB:∀sl:List (Addr×jx),((sl.filter λt=>decide (t.2.lo≠none)).map λt=> -(t.2.pr - t.2.co)).sum=(sl.map λt=>wW t.2.dat).sum
 |[]=>rfl
 |t::sl=>by
  rw[zf,yn,yE,<-RB sl];show _=(if t.2.lo=none then(0:Int)else -(t.2.pr - t.2.co))+_;by_cases c:t.2.lo=none
  ·rw[zn c,ze (by rw[c];decide)];omega
  ·rw[ze c,zn (yf c),zf,yn]
theorem agn:∀es:List Ent,(es.map gnE).sum=(es.map ajB).sum - (es.map YG).sum - (es.map ajy).sum
 |[]=>rfl
 |e::es=>by
  simp only[zf,yn];rw[agn es];show ajB e - YG e - ajy e+_=_;omega
def aiy{ns:List Int}{es:List Ent}{k:BkD}{sl:List (Addr×jx)}(q:StB ns es k)(h0:k.rs=[])(hd:sl.map (λt=>t.2.dat)=k.sl.map (λt=>t.2.dat)):(sl.map λt=>t.2.cnt).sum=(es.map gnE).sum/\(k.sl.map λt=>t.2.co).sum=k.paid+k.brought+((k.sl.filter λt=>decide (t.2.lo≠none)).map λt=> -(t.2.pr - t.2.co)).sum:=by
 have e:∀f:Yl->Int,(sl.map λt=>f t.2.dat)=k.sl.map λt=>f t.2.dat:=λf=>by
  have:=congrArg (List.map f) hd;rw[zr,zr]at this;exact this
 have z:=q.bal.b;have hg:ZV k=0:=by unfold ZV;rw[q.bal.v];rfl
 rw[h0,hg,show JM []=0 from rfl]at z;rw[WL,e,e,e,agn,<-q.bal.p,<-q.bal.r,<-q.bal.s,RB];unfold Qf Qu at z;refine⟨?_,?_⟩
 ·show Bc k - _+_=_
  omega
 ·show(k.sl.map λt=>coD t.2.dat).sum=_
  omega
def XR{q:List (Key×V)}(h:Sh q)(h0:∀z,jr q z=0):q=[]:=by
 cases q with
 |nil=>rfl
 |cons t q=>
  exfalso;obtain⟨z,i,e,hi⟩:=h.k t zm;have:=h0 z;unfold jr at this;rw[e,kj rfl]at this;have:i=0:=this;omega
def Qn{H:Hp}{Q:VK}{p q:Addr}{xs ys:List Int}(h1:SqL K H p (xs.map V.int))(h2:SqL K H q (ys.map V.int))(e:xs=ys)(z:Q (.bl false) H):ajU K (.ref p) (.ref q) H Q:=
 ⟨.lst (xs.map DV.int),.lst (ys.map DV.int),.lst h1 (DN K H xs),.lst h2 (DN K H ys),Nat.succ_le_succ (yj _),by show Ab (xs.map DV.int)+1<=20;rw[Kg];decide,by rw[e,Nh];exact z⟩
inductive DP(A:Adr)(vs:List V)(H:Hp)(Q:VK)(E:XK):Prop
 |mk (b:Addr) (k:BkD) (ns:List Int) (es:List Ent) (_:vs=[.ref b,.int (es.map gnE).sum]) (_:iV A H b k) (_:StB ns es k) (_:ns.length<=61) (_:es.length<=59) (_:(∀z∈jo,runC es z=0)) (_:∀H',Same H H'->Q (.bl true) H'):DP A vs H Q E
def Ej(T:Txt K mg A D):jE P w K mg base CX0 5 A.aa6 D.aa6 ["_law_book", "_law_due"] (DP A):=by
 refine T.ac7.F.okv DQ λ_ _ _ _ H vs Q E hr h=>?_
 ·obtain⟨b,kb,ns,es,rfl,hB,hS,hn,hl,h0,k⟩:=h
  refine ⟨_,(iu (jK (PW.pt (Fj (iR (aic hr) (lG (pv 0) (mc T.adS T.afX (qP T) hr (tM T) (mc T.ad5 T.afY (qP T) hr (tM T) .nil)) jw) FJ (iY _)) (Bk (iR (QW (K:=K) hr) (jB (cap:=[none,some 0]) (N':=["_law_ware", "_law_book"]) rfl (by walk_at "c") (lN (K:=K) (jX (ig ji (ig ji (ig ji iy))))) (λ_ _ _ _=>(iK (i:=0) (show(["_law_ware", "_law_book"]:List Str).Nodup from by decide+kernel) rfl orl orr)) (λ_ _ _ _=>(Ah (iR (QW (K:=K) hr) (jq (pv 1) (mc T.adS T.afk (jF T) hr (jO T) (mc T.ad5 T.afl (jF T) hr (jO T) .nil)) jw (pav 0 iy)) (jX iy) (iY _)))) (λ_ _ _ _=>(pvD 0))) (jX iy) (iY _))))) (iz (iM Lw)) jd)
   (iu (jK (iR (aiV) (jc (lX (K:=K) rfl) (by rfl) T.adk (by decide+kernel) (ig (jB (cap:=[none]) (N':=["_law_sale"]) rfl (by walk_at "c") (lN (K:=K) (lG (pv 0) (mc T.adS T.af4 (tG T) hr (vd T) (mc T.ad5 T.af5 (tG T) hr (vd T) .nil)) jw)) (λ_ _ _ _=>(iK (i:=0) nd1 rfl orl orr)) (λ_ _ _ _=>jA) (λ_ _ _ _=>(lG (pv 0) (mc T.aef T.af3 (Gq T) hr (Jv T) .nil) jw))) iy)) (pvD 1) (iY _)) (iz (iM Lw)) jd)
   (iu (iT (i:=2) DQ.nd rfl orl (lG (pv 0) (mc T.adS T.af1 (Ep T) hr (Hl T) (mc T.ad5 T.af2 (Ep T) hr (Hl T) .nil)) jw))
   (iz (iM (Ka (rO (lu) (vq (nO hr) (pvD 2) ji (λ_ _=>rfl)) iB (iY _)) (Ka (rO (lu) (vq (nO hr) (pvD 2) ji (λ_ _=>rfl)) iB (iY _)) (Rn (rO (lu) (vq (nO hr) (pvD 2) ji (λ_ _=>rfl)) (iZ jD (iZ jD (vq (nO hr) (pvD 2) ji (λ_ _=>rfl)) (vq (nO hr) (pvD 2) ji (λ_ _=>rfl))) (vq (nO hr) (pvD 2) ji (λ_ _=>rfl))) (iY _)))))))))),?_⟩
  obtain⟨db,hb⟩:=hB.i;have bb:=hS.sl;have ab:=Xu hS h0;have au:=hS.bal.b;have ag:=hS.bal.v;have ac:=λf h=>kb.noM f h;simp only[start_eq];walk_at "n";refine md hb hB.me (ac _ (by decide+kernel)) ⟨b,kb,ns,jo,rfl,hB,hS.r,by decide,hn,λp kv H1 s1 hp h1 hH ay hv p2 ao=>?_⟩;obtain rfl:kv=[]:=XR hH λz=>by rw[hv z,ab];rfl
  have s2:=iG (o:=.dK []) ao;have h2:(upd H1 p2 (.dK [])) p2=some (.dK []):=iC;refine⟨p,p2,_,_,rfl,rfl,.inl (s2 _ _ h1),.inl h2,⟨rfl,λkv h=>(zl h).elim⟩,_,rfl,?_⟩;rw[ze (by decide)];generalize upd H1 p2 (.dK [])=H2 at s2⊢;have S2:=s1.trans s2;refine⟨sz,λp3 ak=>⟨⟨_,iH iC⟩,?_⟩⟩;have s3:=iG (o:=.lst [.str (Str.ofString "tin"),.str (Str.ofString "ore"),.str (Str.ofString "abcdefgh")]) ak;have h3:(upd H2 p3 (.lst [.str (Str.ofString "tin"),.str (Str.ofString "ore"),.str (Str.ofString "abcdefgh")])) p3=some (.lst (jo.map V.str)):=iC;generalize upd H2 p3 (.lst [.str (Str.ofString "tin"),.str (Str.ofString "ore"),.str (Str.ofString "abcdefgh")])=H3 at s3 h3⊢;have S3:=S2.trans s3;refine Xe (f:=V.str) (ys:=jo) (λσ=>∃v,σ=[v,some (.ref b)]) (λ_=>false) (λ_ _ _ _=>True) (iH h3) ⟨_,rfl⟩ (by decide) ?_ ?_
  ·rintro Da w hw σ H5 R1 R2 ⟨_,rfl⟩ sm hD hA k1 k2
   have aa:=(hB.same S3).same sm;obtain⟨al,ae⟩:=aa.i;walk_at "i";refine md ae aa.me (ac _ (by decide+kernel)) ⟨b,w,kb,rfl,aa,λl H6 s6 hl h6 _=>⟨sz,λp6 am=>?_⟩⟩;rw[ab]at h6;have s7:=iG (o:=.lst []) am;refine Qn (xs:=[]) (ys:=[]) (iH (s7 _ _ h6)) (iH iC) rfl ⟨_,rfl,?_⟩;rw[ze (by decide)];exact k2 rfl _ _ ⟨_,rfl⟩ (s6.trans s7)
  intro D4 H4 ad ba s4 h4 aq;obtain rfl:ad=[]:=by cases ad with|nil=>rfl|cons _ _=>exact(show False from aq).elim
  refine⟨sz,λp5 ar=>?_⟩;have s5:=iG (o:=.lst []) ar;refine Qn (xs:=[]) (ys:=[]) (iH (s5 _ _ h4)) (iH iC) rfl ⟨_,rfl,?_⟩;rw[ze (by decide)];generalize upd H4 p5 (.lst [])=H5 at s5⊢;have S5:=S3.trans (s4.trans s5);have aa:=hB.same S5;obtain⟨al,ae⟩:=aa.i;walk_at "n";refine md ae aa.me (ac _ (by decide+kernel)) ⟨b,kb,rfl,aa,by omega,λq sl H6 s6 hq h6 ap ai=>?_⟩;have as:sl.length=kb.sl.length:=by simpa using congrArg List.length ai
  refine⟨q,rfl,⟨_,iH h6⟩,?_⟩;refine Jx (f:=λt:Addr×jx=>V.ref t.1) (λσ=>∃v,σ=[v]) (λ_ t v _=>v=.int t.2.cnt) (iH h6) ⟨_,rfl⟩ (by omega) ?_ ?_
  ·rintro Da t ht σ H5 R ⟨_,rfl⟩ sm hD hA kk
   have ah:=(ap t ht).1.same sm;obtain⟨dt,hi⟩:=ah.i;walk_at "i";exact md hi zm (by rfl) ⟨t.1,t.2,rfl,ah,λH7 s7=>kk _ _ _ ⟨_,rfl⟩ s7 λ_ _=>rfl⟩
  intro D7 H7 av az s7 h7 an;rw[tD.ints an]at h7;have S7:=S5.trans (s6.trans s7);rw[ap_rSum];refine⟨_,iH h7,?_⟩;obtain⟨d1,d2⟩:=aiy hS ab ai;refine⟨rfl,?_⟩;rw[ze (λc=>c (by rw[d1]))];have af:=hB.same S7;obtain⟨aw,aj⟩:=af.i;walk_at "n";refine md aj af.me (ac _ (by decide+kernel)) ⟨b,kb,ns,rfl,af,hS.r,hn,by omega,by rw[ag];decide,λt ht=>by rw[ag]at ht;exact(zl ht).elim,λp8 H8 s8 ax h8=>?_⟩
  (try dsimp only)
  rw[ap_ret];walk_at "i";have dg:∀{z:Str}{i:Int},nY (Ux kb) (Sum.inr z)=some (.int i)->Vd H8 p8 (V.str z) (some (.int i)):=fun{z i} e=>e▸Br (k:=Sum.inr z) h8;have v1:(kb.rs.map λt=>cst t.2.2).sum=0:=by rw[ab];rfl
  have v2:(kb.gv.map λt=>cst t.2.2.2).sum=0:=by rw[ag];rfl
  refine⟨_,dg rfl,rfl,?_⟩;rw[zn (by rw[v1])];refine⟨_,dg rfl,rfl,?_⟩;rw[zn (by rw[v2])];refine⟨_,dg rfl,_,dg rfl,_,dg rfl,_,rfl,_,rfl,_,dg rfl,_,rfl,rfl,?_⟩;rw[d2,yf rfl];exact k H8 (S7.trans s8)
inductive Ph(K:Fg_)(vs:List V)(H:Hp)(Q:VK)(E:XK):Prop
 |mk (a:Addr) (ns:List Int) (_:vs=[.ref a]) (_:SqL K H a (ns.map V.int)) (_:ns.length<=63) (_:∀H',Q (.bl true) H'):Ph K vs H Q E
def YC{B H H':Hp}{D x:Addr}{e:Ent}{xs:List V}(h:Made A B H x e)(q:H D=some (.lst xs))(z:e.lots=none)(b:But D H H'):IsE A H' x e:=by
 obtain⟨dx,nv,h1,h2,h3⟩:=h;refine⟨dx,nv,b _ _ (λc=>by rw[c]at h1;have:=h1.h;rw[q]at this;cases this) h1.h,?_⟩;rw[z]at h2⊢;exact h2
def Ni{B H:Hp}{x:Addr}{e:Ent}(h:Made A B H x e):Same B H:=let⟨_,_,g,_⟩:=h;g.s
theorem aiE{H:Hp}:∀{tl:EL}{acc:List V},tD (λr v=>∃x,v=.ref x/\IsE A H x r.2) tl acc->∃es:EL,acc=mX es/\es.map (·.2)=tl.map (·.2)/\KZ A H es
 |[],[],_=>⟨[],rfl,rfl,λt h=>(zl h).elim⟩
 |t::sl,v::acc,h=>by
  obtain⟨⟨y,rfl,hs⟩,h2⟩:=h;obtain⟨q,e1,e2,e3⟩:=aiE h2;refine⟨(y,t.2)::q,by rw[e1];rfl,by rw[zf,e2];rfl,λu z=>?_⟩;rcases zu.mp z with rfl|z
  ·exact hs
  ·exact e3 u z
 |[],_::_,h=>h.elim
 |_::_,[],h=>h.elim
def ahq{xs ys as bs:List Int}(h1:xs.Perm as)(h2:xs.Pairwise λx y=>x<=y)(h3:ys.Perm bs)(z:ys.Pairwise λx y=>x<=y)(h:as.Perm bs):xs=ys:=
 List.Perm.eq_of_pairwise (le:=λx y:Int=>x<=y) (λa b _ _ p q=>Int.le_antisymm p q) h2 z (h1.trans (h.trans h3.symm))
def ajT{ns:List Int}{q:List Ent}{k:BkD}(h:StB ns q k)(hn:(q.map Ent.num).Nodup):(lnD (k.sl.map λt=>t.2.dat)).Nodup/\(lnD (k.sl.map λt=>t.2.dat)).length<=q.length:=by
 have e:(k.sl.map λt=>t.2.dat).map (λc:Yl=>c.1.1)=k.sl.map λt=>t.2.core.1:=by rw[zr];rfl
 have h2:=(List.filter_sublist (p:=λc:Yl=>decide (c.2≠none)) (l:=k.sl.map λt=>t.2.dat)).map (λc:Yl=>c.1.1);rw[e]at h2;have z:=h2.trans h.n;refine⟨z.nodup hn,?_⟩;have:=z.length_le
 rwa [za (as:=q)]at this
theorem ajt:∀sl:List (Addr×jx),(sl.filter λt=>decide (t.2.lo≠none)).map (λt=>t.2.n)=lnD (sl.map λt=>t.2.dat)
 |[]=>rfl
 |t::sl=>by
  have q:=ajt sl;unfold lnD at q⊢;rw[zf,yE,yE];show _=List.map _ (if decide (t.2.lo≠none)=true then _ else _);split
  ·rw[zf,zf,q];rfl
  ·exact q
def ajc(T:Txt K mg A D):jE P w K mg base CX0 12 A.law D.law ["_law_script"] (Ph K):=by
 refine T.adb.F.okv DY λ_ _ _ _ H vs Q E hr h=>?_
 ·obtain⟨a,ns,rfl,hS,hn,k⟩:=h
  refine ⟨_,(iu (iT (i:=1) DY.nd rfl orl (pcg (Ji T) hr T.abD (Ls T) (ig (pcg (Gr T) hr T.abQ (Ju T) (pav 0 (ig Lw iy))) (pav 0 iy))))
   (iu (iT (i:=2) DY.nd rfl orl (pcg (Mv T) hr T.abE (Qi T) (pav 0 iy)))
   (iu (iT (i:=3) DY.nd rfl orl (pcg (Kw T) hr T.abF (OD T) (pav 1 iy)))
   (iu (qC yB rfl (wK (by rfl) T.adf (ig iB iy)) (iK (i:=4) DY.nd rfl orl)
    (iu (mV (i:=5) DY.nd rfl rfl (cap:=[none]) (N':=["_law_row_here"]) rfl (by walk_at "c") (jG (K:=K) (pv 1)) (λ_ _ _ _=>(iK (i:=0) nd1 rfl orl orr)) (λ_ _ _ _=>jA) (λ_ _ _ _=>(pcg (Ma T) hr T.ac2 (OJ T) (pav 0 iy))))
    (iu (jK (Kc (oF (pcg (Ej T) hr T.ac7 (Gz T) (ig (pcg (Va T) hr T.ac9 (Vj T) (ig (pcg (Im T) hr T.ac8 (Kp T) (pav 4 iy)) (pav 5 iy))) (pav 3 iy))))) (iz (iM Lw)) jd)
    (iu (iT (i:=6) DY.nd rfl orl (pcg (CZ T) hr T.acO (Ew T) (ig (pcg (Im T) hr T.ac8 (Kp T) (pav 4 iy)) (pav 2 (pav 5 iy)))))
    (iu (jK (Kc (oF (pcg (Ej T) hr T.ac7 (Gz T) (pav 6 (pav 3 iy))))) (iz (iM Lw)) jd)
    (iu (mV (i:=7) DY.nd rfl rfl (cap:=[none]) (N':=["_law_one"]) rfl (by walk_at "c") (lN (K:=K) (lG (pv 6) (mc T.ad5 T.af6 (Cp T) hr (CK T) .nil) jw)) (λ_ _ _ _=>(iK (i:=0) nd1 rfl orl orr)) (λ_ _ _ _=>jA) (λ_ _ _ _=>(jm (iW (K:=K)) (pvD 0) iB (λ_ _=>rfl))))
    (iu (jK (iR (aiV) (jc WQ (by rfl) T.add (by decide+kernel) (ig (lH (QV (K:=K) rfl) (by rfl) T.adt (by decide+kernel) (pav 7 iy)) iy)) (jc (mG (K:=K)) (by rfl) T.add (by decide+kernel) (pav 7 iy)) (iY _)) (iz (iM Lw)) jd)
    (iz (jK (iR (QW (K:=K) hr) (jc (Ax (K:=K)) (by rfl) T.adg (by decide+kernel) (pav 7 iy)) (jc (Ax (K:=K)) (by rfl) T.adg (by decide+kernel) (ig (jB (cap:=[none]) (N':=["_law_sale"]) rfl (by walk_at "c") (lN (K:=K) (lG (pv 6) (mc T.ad5 T.af5 (tG T) hr (vd T) .nil) jw)) (λ_ _ _ _=>(iK (i:=0) nd1 rfl orl orr)) (λ_ _ _ _=>(Ah (iR (LK) (fv K 0) mJ (iY _)))) (λ_ _ _ _=>(fv K 0))) iy)) (iY _)) (iz (iM Lw)) jd)))))))))
   (iz (iM Lw)))))),?_⟩
  simp only[start_eq];walk_at "n";refine⟨a,ns,rfl,hS,λp0 an H0 s0 cz h0 bs bn am aw al bp=>?_⟩;have bg:Yk an an 0:=⟨bn,am,aw,λr hr=>⟨by have:=bp r hr;omega,Yr am r hr⟩,al,λz=>by rw[ze (by simp)]⟩;refine⟨p0,a,an,ns,rfl,h0,bs,bg,s0.seq hS,λp tl H1 s1 hp h1 hT hC=>?_⟩;have S1:=s0.trans s1;have hz:∀z∈jo,runC (tl.map (·.2)) z=0:=λz hz=>by rw[hC.c z,zn (by exact hz)]
  have hF:=hC.g;have hb:=hC.b;have hl:tl.length<=59:=hC.l;have bj:=hC.u;clear hC bg bs bn am aw al bp h0;walk_at "n";refine⟨a,ns,rfl,S1.seq hS,λg H2 s2=>?_⟩;walk_at "n";refine⟨p,tl,rfl,s2 _ _ h1,λr aa=>⟨(hT r aa).same s2,(hF.g r.2 (zi.mpr ⟨r,aa,rfl⟩)).1,(hF.g r.2 (zi.mpr ⟨r,aa,rfl⟩)).2.1⟩,λH3 s3=>?_⟩;have S3:=S1.trans (s2.trans s3);have h3:=(s2.trans s3) _ _ h1;have bz:=hT.same (s2.trans s3)
  (try dsimp only)
  refine jC λu hu=>?_;rw[ap_seq];refine Lg λtb ch=>?_;rw[ap_for];walk_at "i";refine⟨by decide,by decide,?_⟩;rw[show(tl.map λr=>gnE r.2).sum=((tl.map (·.2)).map gnE).sum by rw[zr];rfl];refine Jf.rangeN (lo:=0) (n:=4) (λi σ Hx=>(∃v4 v5 v6 v7,σ=[some (.ref a),some (.ref p),some (.int g),some (.int ((tl.map (·.2)).map gnE).sum),v4,v5,v6,v7])/\Same H3 Hx) ⟨⟨_,_,_,_,rfl⟩,same_refl _⟩ ?_ ?_
  ·rintro i σ Hx hi ⟨⟨v4,v5,v6,v7,rfl⟩,sx⟩ N hN
   subst ch;rw[zz5,ap_name];walk_at "n";refine⟨⟨_,iH (sx _ _ h3)⟩,?_⟩;refine Jx (f:=λr:Addr×Ent=>V.ref r.1) (λσ=>∃v,σ=[v]) (λ_ r v H'=>∃x,v=.ref x/\IsE A H' x r.2) (iH (sx _ _ h3)) ⟨_,rfl⟩ (by omega) ?_ ?_
   ·rintro Da r aa σ H5 R ⟨_,rfl⟩ sm hD ⟨acc,hA⟩ kk
    obtain⟨g1,g2,_⟩:=hF.g r.2 (zi.mpr ⟨r,aa,rfl⟩);walk_at "i";refine⟨r.1,r.2,rfl,((bz r aa).same sx).same sm,g2,g1,λx B H6 s6 hM=>kk (.ref x) _ H6 ⟨_,rfl⟩ (s6.trans (Ni hM)) λH' hb=>⟨x,rfl,YC hM ((s6.trans (Ni hM)) _ _ hA) g2 hb⟩⟩
   intro D2 H4 co cp s4 bl cj;obtain⟨es,e1,e2,hE⟩:=aiE cj;rw[e1]at bl;have S4:=sx.trans s4;have hO:∀{w C dw:Addr}{H5:Hp},Same H4 H5->H5 w=some (.ins C dw [])->RT A C->ajY A H5 w D2 es (tl.map (·.2)):=λs hw hW=>⟨⟨_,_,hw,hW⟩,s _ _ bl,hE.same s,hF,hb,by rw[za];exact hl,by rw[zr];exact bj,e2▸zz3 _⟩;have ap:(tl.map (·.2)).length<=59:=by rw[za];exact hl
   have bo:((tl.map (·.2)).map Ent.num).Nodup:=by rw[zr];exact bj
   have ao:((tl.map (·.2)).map Ent.num).length<=61:=by rw[za];omega
   generalize tl.map (·.2)=hs at hO ap bo ao hz hN⊢;walk_at "n";refine⟨_,rfl,λw C dw H5 s5 hw hW=>⟨w,D2,es,hs,rfl,hO s5 hw hW,λb1 k1 H6 s6 b9 _ cb=>⟨b1,k1,_,hs,rfl,b9,cb,ao,ap,hz,λH7 s7=>⟨true,rfl,?_⟩⟩⟩⟩;rw[ze (by decide)];have S7:=s5.trans (s6.trans s7);walk_at "n";refine⟨_,rfl,λw C dw H8 s8 hw hW=>⟨w,D2,g,es,hs,rfl,hO (S7.trans s8) hw hW,λb kb H9 s9 hB _ ad ba cd=>?_⟩⟩;have S9:=S7.trans (s8.trans s9);walk_at "n";refine⟨b,kb,_,hs,rfl,hB,ad,ao,ap,hz,λbt ax=>⟨true,rfl,?_⟩⟩;rw[ze (by decide)];have ae:=hB.same ax;have b2:=S9.trans ax
   obtain ⟨y,hy⟩:∃y,kb.x=some y:=by
    cases e:kb.x with
    |none=>exact(cd e).elim
    |some y=>exact⟨y,rfl⟩
   obtain⟨db,b6⟩:=ae.i;walk_at "n";have hm:∀{sp:Sp},(kb.C,sp)∈[(A.abc,sp)]:=fun{sp}=>by rw[ba];exact zm
   refine md b6 hm (kb.noM _ (by decide+kernel)) ⟨b,kb,y,rfl,ae,ba,hy,λpl bw=>⟨pl,rfl,⟨_,iH iC⟩,?_⟩⟩;have ar:=iG (o:=.lst (uf y.2.2)) bw;have bb:(upd bt pl (.lst (uf y.2.2))) pl=some (.lst (uf y.2.2)):=iC;generalize upd bt pl (.lst (uf y.2.2))=ct at ar bb⊢;have ai:=ae.same ar;have af:=ad.bal.y y hy;obtain⟨b7,cv⟩:=ajT ad bo;have cl:y.2.2.length<=59:=by have:=af.length_eq;rw[za]at this;omega
   refine Jx (f:=λt:Addr×Int×Int×Int=>V.ref t.1) (λσ=>∃v,σ=[v]) (λ_ t v _=>v=.int t.2.1) (iH bb) ⟨_,rfl⟩ (by omega) ?_ ?_
   ·rintro Da t ht σ H5 R ⟨_,rfl⟩ sm hD hA kk
    walk_at "i";exact⟨_,jt (sm _ _ (ai.frz.y y hy t ht)),_,rfl,kk _ _ _ ⟨_,rfl⟩ (same_refl _) λ_ _=>rfl⟩
   intro cr b4 b5 cm az ac bk;rw[tD.ints bk]at ac;have aj:=ai.same az;have cc:=b2.trans (ar.trans az);obtain⟨cs,bx⟩:=aj.i;have ak:=af.nodup_iff.mpr b7;have b8:(y.2.2.map λt=>t.2.1).length<=59:=by rw[za];exact cl
   generalize(y.2.2.map λt=>t.2.1)=ls at ac af ak b8;walk_at "n";refine⟨ls,iH ac,by omega,λps S n cg _ ce=>?_⟩;have ab:=iG (o:=.set S n) cg;refine⟨S,n,iC,_,.inl (iH (ab _ _ ac)),?_⟩;rw[ze (λc=>c (by rw[ce ak,za]))];generalize upd b4 ps (HO.set S n)=bm at ab⊢;have bh:=aj.same ab;have ay:=ab _ _ bx;walk_at "i";refine⟨ls,iH (ab _ _ ac),by omega,λaq ms br b0 ck=>?_⟩;have ag:=iG (o:=.lst (ms.map V.int)) br;have bi:(upd bm aq (.lst (ms.map V.int))) aq=some (.lst (ms.map V.int)):=iC;generalize upd bm aq (.lst (ms.map V.int))=cx at ag bi⊢;have bq:=bh.same ag;refine md (ag _ _ ay) hm (kb.noM _ (by decide+kernel)) ⟨b,kb,rfl,bq,by have:=ad.sl;omega,λq sl cy bu hq be as ah=>?_⟩;have ci:sl.length=kb.sl.length:=by simpa using congrArg List.length ah
   refine⟨q,rfl,⟨_,iH be⟩,?_⟩;refine Xe (f:=λt:Addr×jx=>V.ref t.1) (λσ=>∃v,σ=[v]) (λt=>decide (t.2.lo≠none)) (λ_ t v _=>v=.int t.2.n) (iH be) ⟨_,rfl⟩ (by have:=ad.sl;omega) ?_ ?_
   ·rintro Da t ht σ H5 R1 R2 ⟨_,rfl⟩ sm hD hA k1 k2
    have b3:=(as t ht).1.same sm;obtain⟨dt,hi⟩:=b3.i;walk_at "i";refine rd hi T.aef T.ael (v:=loV t.2.lo) (by rfl) ?_
    cases e:t.2.lo with
    |none=>
     rw[e]at k2;exact k2 (by decide) _ _ ⟨_,rfl⟩ (same_refl _)
    |some i=>
     rw[e]at k1;exact rd hi T.aef T.aeg (by rfl) (k1 (yf λc=>by cases c) _ _ _ ⟨_,rfl⟩ (same_refl _) λ_ _=>rfl)
   intro cu cq cf cn au bd av;rw[tD.ints av,ajt,ah]at bd;rw[ap_rSortI];refine⟨_,iH bd,by omega,λcw ks bf bv ca=>?_⟩;have bc:=iG (o:=.lst (ks.map V.int)) bf;refine Qn (iH (bc _ _ (au _ _ (bu _ _ bi)))) (iH iC) (ahq b0 ck bv ca af) ⟨_,rfl,?_⟩;rw[ze (by decide)];exact hN _ _ ⟨⟨_,_,_,_,rfl⟩,S4.trans (cc.trans (ab.trans (ag.trans (bu.trans (au.trans bc)))))⟩
  ·rintro σ Hx ⟨⟨v4,v5,v6,v7,rfl⟩,sx⟩
   subst hu;walk_at "a";exact k Hx
end
end My
namespace My
open PySem L2 PyProof.Rows
open PySem.W (codeIn findCls findIn fnOf hasDictIn isFn keepIn kitOne makesIn mg_none_of mg_of mroIn nsIn plainGet plainOver readsIn specialIn takesIn)
abbrev Dm_(K:Fg_)(c:Addr)(x q:Str)(st:Stmt)(f:Addr)(oc:Value)(od:Option Addr)(kV dc pm:Value)(an:Option Addr)(cd ct:Value)(sl:Array (Option Value)):Prop:=findIn K (.ref c) x=some (some (.ref f))∧K.lookup f=some ⟨oc,od,.func (fnOf x q (mZ st) (lM st) (iD st) .none kV dc pm an cd ct),sl⟩∧codeIn K cd q=true∧keepIn K (.ref f)=true
abbrev Df_(K:Fg_)(x:Str)(st:Stmt)(f:Addr)(oc:Value)(od:Option Addr)(kV dc pm:Value)(an:Option Addr)(cd ct:Value)(sl:Array (Option Value)):Prop:=nsIn K mainGlobals x=some (some (.ref f))∧K.lookup f=some ⟨oc,od,.func (fnOf x x (mZ st) (lM st) (iD st) .none kV dc pm an cd ct),sl⟩∧codeIn K cd x=true∧keepIn K (.ref f)=true
inductive Ef_(K:Fg_)(x:Str)(st:Stmt)(f:Addr)(fd:FuncData):Prop
  |mk {oc:Value} {od:Option Addr} {kV dc pm:Value} {an:Option Addr} {cd ct:Value} {sl:Array (Option Value)} (e:fd=fnOf x x (mZ st) (lM st) (iD st) .none kV dc pm an cd ct) (h:Df_ K x st f oc od kV dc pm an cd ct sl):Ef_ K x st f fd
inductive Em_(K:Fg_)(c:Addr)(x q:Str)(st:Stmt)(f:Addr)(fd:FuncData):Prop
  |mk {oc:Value} {od:Option Addr} {kV dc pm:Value} {an:Option Addr} {cd ct:Value} {sl:Array (Option Value)} (e:fd=fnOf x q (mZ st) (lM st) (iD st) .none kV dc pm an cd ct) (h:Dm_ K c x q st f oc od kV dc pm an cd ct sl):Em_ K c x q st f fd
def Ef_.n{K:Fg_}{x:Str}{st:Stmt}{f:Addr}{fd:FuncData}(a:Ef_ K x st f fd):nsIn K mainGlobals x=some (some (.ref f)):=by cases a with|mk e h=>exact h.1
def Ef_.k{K:Fg_}{x:Str}{st:Stmt}{f:Addr}{fd:FuncData}(a:Ef_ K x st f fd):keepIn K (.ref f)=true:=by cases a with|mk e h=>exact h.2.2.2
def Ef_.F{K:Fg_}{x:Str}{st:Stmt}{f:Addr}{fd:FuncData}(a:Ef_ K x st f fd):Fun K x x st f fd:=by cases a with|mk e h=>exact e▸Vf h.2.1 h.2.2.1 h.2.2.2
def Ef_.g{K:Fg_}{x:Str}{st:Stmt}{f:Addr}{fd:FuncData}{h:Heap}{mg:Str->Option Value}(a:Ef_ K x st f fd)(X:K.In h)(G:h.Ns mainGlobals mg):FG K mg x st f fd:=⟨mg_of X G a.n,a.k,a.F⟩
def Em_.n{K:Fg_}{c:Addr}{x q:Str}{st:Stmt}{f:Addr}{fd:FuncData}(a:Em_ K c x q st f fd):findIn K (.ref c) x=some (some (.ref f)):=by cases a with|mk e h=>exact h.1
def Em_.k{K:Fg_}{c:Addr}{x q:Str}{st:Stmt}{f:Addr}{fd:FuncData}(a:Em_ K c x q st f fd):keepIn K (.ref f)=true:=by cases a with|mk e h=>exact h.2.2.2
def Em_.F{K:Fg_}{c:Addr}{x q:Str}{st:Stmt}{f:Addr}{fd:FuncData}(a:Em_ K c x q st f fd):Fun K x q st f fd:=by cases a with|mk e h=>exact e▸Vf h.2.1 h.2.2.1 h.2.2.2
def all_mk{l:PySem.W.OpenLaw}{w:World}{K:Fg_}{h:Heap}{mg:Str->Option Value}{fa:Addr}(X:K.In h)(G:h.Ns mainGlobals mg)(nt:mg "law" =some (.ref fa))
  {f0 f1 f2 f3 f4 f5 f6 f7 f8 f9 ht hp kn kq kd kr j8 j6 k3 co cd li dp dy g0 b0 e2 k9 e3 kl go ea hw en cs cn j3 g4 i6 ii bi h8 d1 e4 hh km bp ev gh kc e0 io cb dc ip hj b4 kb ch bm im l0 fk g5 ew ey gc e1 j4 db ca hq bs fl lf k5 lh l1 hs er dz hr ia h3 ff dw lr ct eq lb bx le lm g1 ej no:Addr}
  {zc pD:Option Addr}
  {uU:Array (Option Value)}
  {wL iw vw yA u9 sY:Value}
  {c0 c1 c2 c3 c4 c5 c6 c7 c8 c9 z ab q as ap an bd:Addr}
  {dj fw d5 eC d4 et fu cx d6:Tok}
  (gj:nsIn K mainGlobals "Book" =some (some (.ref c0)))
  (gJ:nsIn K mainGlobals "Lot" =some (some (.ref c1)))
  (cM:nsIn K mainGlobals "LayingBook" =some (some (.ref c2)))
  (gl:nsIn K mainGlobals "Sale" =some (some (.ref c3)))
  (gO:nsIn K mainGlobals "Way" =some (some (.ref c4)))
  (gp:nsIn K mainGlobals "Mean" =some (some (.ref c5)))
  (eX:nsIn K mainGlobals "Eldest" =some (some (.ref c6)))
  (fq:nsIn K mainGlobals "Newest" =some (some (.ref c7)))
  (el:nsIn K mainGlobals "Dearest" =some (some (.ref c8)))
  (gx:nsIn K mainGlobals "NoLot" =some (some (.ref c9)))
  (gD:nsIn K mainGlobals "Buy" =some (some (.ref z)))
  (gf:nsIn K mainGlobals "Gift" =some (some (.ref ab)))
  (gr:nsIn K mainGlobals "Sell" =some (some (.ref q)))
  (gi:nsIn K mainGlobals "Give" =some (some (.ref as)))
  (fF:nsIn K mainGlobals "Split" =some (some (.ref ap)))
  (ek:nsIn K mainGlobals "Parting" =some (some (.ref an)))
  (fT:nsIn K mainGlobals "Entry" =some (some (.ref bd)))
  {m5 mh m8 ma mn m2 mw nn nv mu ha g3 hc hy h4 hf hd lc ls ld ix kw hz g8 h9 lv la ly ib gv hu lp lk h5 i8 i3 k8 i0 k2 kx kk h6 j5 iq j9 ln ll g9 i9 ke kp i1 ja kf j1 hg k4 k7 lx hn kv ik hb i4 lz h7 ko ij ki j7 ka il it is g2 kt h0 j0 he ky k6 jv i2 ie kg iv js hx hl hv hm ku ho k1 g7:FuncData}
  (a0:Ef_ K "_law_counted" rn f0 m5)
  (a1:Ef_ K "_law_cell_at" qT f1 mh)
  (a2:Ef_ K "_law_closed" tU f2 m8)
  (a3:Ef_ K "_law_days" Ad f3 ma)
  (a4:Ef_ K "_law_gains" vg f4 mn)
  (a5:Ef_ K "_law_mixed" vG f5 m2)
  (a6:Ef_ K "_law_sources" qU f6 mw)
  (a7:Ef_ K "_law_take" Am f7 nn)
  (a8:Ef_ K "_law_split_row" oO f8 nv)
  (a9:Ef_ K "_law_part_row" qi f9 mu)
  (a10:Ef_ K "_law_some" Bb ht ha)
  (a11:Ef_ K "_law_price" wB hp g3)
  (a12:Ef_ K "_law_pieces" tY kn hc)
  (a13:Ef_ K "_law_row" Dl kq hy)
  (a14:Ef_ K "_law_raw" Dk kd h4)
  (ng:Ef_ K "_law_history" qR kr hf)
  (mr:Ef_ K "refuse_twice" rN j8 hd)
  (mt:Ef_ K "place_of" Dw j6 lc)
  (nc:Ef_ K "in_order" CG k3 ls)
  (da:Em_ K c0 "row_of" "Book.row_of" tO co ld)
  (br:Em_ K c0 "keep_row" "Book.keep_row" pY cd ix)
  (mv:Ef_ K "place_in_row" qZ li kw)
  (lj:Em_ K c1 "__init__" "Lot.__init__" rJ dp hz)
  (dt:Em_ K c1 "with_more" "Lot.with_more" qb dy g8)
  (nb:Ef_ K "row_with" Df g0 h9)
  (b3:Em_ K c0 "put" "Book.put" CT b0 lv)
  (ep:Em_ K c0 "lay_on" "Book.lay_on" tH e2 la)
  (ns:Ef_ K "cost_of_parts" qm k9 ly)
  (ec:Em_ K c3 "gain" "Sale.gain" xX e3 ib)
  (nh:Ef_ K "is_open_loss" rF kl gv)
  (fi:Em_ K c2 "may_take" "LayingBook.may_take" lQ go hu)
  (j2:Em_ K c3 "__init__" "Sale.__init__" pR ea lp)
  (l3:Ef_ K "sale_laid_on" rE hw lk)
  (ei:Em_ K c2 "lay_on" "LayingBook.lay_on" mO en h5)
  (b6:Em_ K c0 "do_buy" "Book.do_buy" tZ cs i8)
  (cc:Em_ K c0 "do_gift" "Book.do_gift" qX cn i3)
  (l4:Ef_ K "sum_of_weights" oU j3 k8)
  (na:Ef_ K "part_of" Jc g4 i0)
  (l9:Ef_ K "dealt" Qa i6 k2)
  (ml:Ef_ K "sale_of" Ij ii kx)
  (bt:Em_ K c4 "levelled" "Way.levelled" rB bi kk)
  (nw:Ef_ K "cost_in" Ip h8 h6)
  (dv:Em_ K c5 "levelled" "Mean.levelled" qw d1 j5)
  (gu:Em_ K c1 "taken" "Lot.taken" Ao e4 iq)
  (ny:Ef_ K "row_without" um hh j9)
  (nr:Ef_ K "picks_in_turn" qx km ln)
  (dg:Em_ K c6 "picks" "Eldest.picks" rC bp ll)
  (eb:Em_ K c7 "picks" "Newest.picks" rK ev g9)
  (ga:Em_ K c1 "is_dearer" "Lot.is_dearer" qg gh i9)
  (m4:Ef_ K "dearest_first" pP kc ke)
  (d0:Em_ K c8 "picks" "Dearest.picks" qj e0 kp)
  (mo:Ef_ K "gone_from" Ak io i1)
  (b1:Em_ K c0 "taken_for" "Book.taken_for" oW cb ja)
  (b2:Em_ K c0 "do_sell" "Book.do_sell" rA dc kf)
  (l2:Ef_ K "pieces_split" qY ip j1)
  (m3:Ef_ K "row_split" Bd hj hg)
  (dl:Em_ K c0 "do_split" "Book.do_split" qp b4 k4)
  (me:Ef_ K "row_parted" vW kb k7)
  (cl:Em_ K c0 "do_parting" "Book.do_parting" nQ ch lx)
  (dd:Em_ K c0 "do_by_kind" "Book.do_by_kind" nW bm hn)
  (my:Ef_ K "held_with" Ay im kv)
  (m7:Ef_ K "held_with_more" oM l0 ik)
  (d3:Em_ K z "held_behind" "Buy.held_behind" nZ fk hb)
  (m6:Ef_ K "held_with_fewer" ou g5 i4)
  (e7:Em_ K q "held_behind" "Sell.held_behind" nj ew lz)
  (ed:Em_ K ab "held_behind" "Gift.held_behind" mY ey h7)
  (d2:Em_ K ap "held_behind" "Split.held_behind" mQ gc ko)
  (ez:Em_ K an "held_behind" "Parting.held_behind" lU e1 ij)
  (ni:Ef_ K "pieces_in" xW j4 ki)
  (cp:Em_ K c0 "held" "Book.held" Aj db j7)
  (bv:Em_ K c0 "do" "Book.do" Gw ca ka)
  (mx:Ef_ K "with_all_done" qe hq il)
  (ih:Em_ K c0 "__init__" "Book.__init__" pZ bs it)
  (ic:Em_ K c2 "__init__" "LayingBook.__init__" lV fl is)
  (nk:Ef_ K "laying_book_of" oR lf g2)
  (m1:Ef_ K "is_whole_number" nT k5 kt)
  (nd:Ef_ K "check_number" rm lh h0)
  (ne:Ef_ K "is_name" Ga l1 j0)
  (nf:Ef_ K "check_name" vZ hs he)
  (l7:Em_ K bd "__init__" "Entry.__init__" oV er ky)
  (hk:Em_ K an "__init__" "Parting.__init__" nH dz k6)
  (nx:Ef_ K "check_trade" uh hr jv)
  {bl:Addr} {uJ ir:Option Addr} {uv:Array (Option Value)} {xi ve jp i7 gS vn:Value}
  (n0:findIn K (.ref z) "__init__" =some (some (.ref bl)))
  {gP:Addr} {gZ:Option Addr} {gW:Value} {gY:Array (Option Value)} {wo:Nat} {gK:Tok}
  (l8:K.lookup bl=some ⟨xi,uJ,.func (fnOf "__init__" "Buy.__init__" (mZ lJ) (lM lJ) (iD lJ) (.ref gP) ve jp i7 ir gS vn),uv⟩)
  (mm:codeIn K gS "Buy.__init__" =true)
  (mk:keepIn K (.ref bl)=true)
  (gM:K.lookup gP=some ⟨gW,gZ,.seq #[.int 0 gK] wo,gY⟩)
  (m0:Ef_ K "check_named" tE ia i2)
  (mb:Ef_ K "named_copy" wH h3 ie)
  {bk:Addr} {pV oK:Option Addr} {vE:Array (Option Value)} {wZ xJ qc mF gQ jg:Value}
  (mf:findIn K (.ref q) "__init__" =some (some (.ref bk)))
  {gR:Addr} {gU:Option Addr} {gX:Value} {gT:Array (Option Value)} {jN:Nat} {gL:Tok}
  (nz:K.lookup bk=some ⟨wZ,pV,.func (fnOf "__init__" "Sell.__init__" (mZ lq) (lM lq) (iD lq) (.ref gR) xJ qc mF oK gQ jg),vE⟩)
  (nl:codeIn K gQ "Sell.__init__" =true)
  (l5:keepIn K (.ref bk)=true)
  (gN:K.lookup gR=some ⟨gX,gU,.seq #[.int 0 gL,.none] jN,gT⟩)
  (g6:Em_ K ab "__init__" "Gift.__init__" pQ ff kg)
  (i5:Em_ K ap "__init__" "Split.__init__" oY dw iv)
  (l6:Ef_ K "_law_entry" wj lr js)
  (bq:Em_ K c0 "sums" "Book.sums" Ba ct hx)
  (e5:Em_ K c3 "counted" "Sale.counted" rG eq hl)
  (m9:Ef_ K "copy_of_sale" rD lb hv)
  (bn:Em_ K c0 "sales" "Book.sales" vL bx hm)
  (mi:Ef_ K "_law_good" Ai le ku)
  (mp:Ef_ K "_law_way" Dj lm ho)
  (ms:Ef_ K "book_of" Gb g1 k1)
  (em:Em_ K c2 "laid" "LayingBook.laid" nP ej g7)
  (bc:Df_ K "law" YL no wL zc iw vw yA pD u9 sY uU)
  (gm:nsIn K mainGlobals "dict" =some none)
  (gH:nsIn K mainGlobals "len" =some none)
  (gn:nsIn K mainGlobals "list" =some none)
  (fN:nsIn K mainGlobals "range" =some none)
  (fh:nsIn K mainGlobals "sorted" =some none)
  (gz:nsIn K mainGlobals "max" =some none)
  (gy:nsIn K mainGlobals "zip" =some none)
  (gF:nsIn K mainGlobals "any" =some none)
  (gC:nsIn K mainGlobals "sum" =some none)
  (gG:nsIn K mainGlobals "min" =some none)
  (dB:nsIn K mainGlobals "reversed" =some none)
  (dh:nsIn K mainGlobals "enumerate" =some none)
  (cA:nsIn K mainGlobals "isinstance" =some none)
  (gB:nsIn K mainGlobals "int" =some none)
  (gg:nsIn K mainGlobals "bool" =some none)
  (gE:nsIn K mainGlobals "all" =some none)
  (gA:nsIn K mainGlobals "str" =some none)
  (gI:nsIn K mainGlobals "set" =some none)
  (bS:nsIn K mainGlobals "MOST_LETTERS" =some (some (.int 8 dj)))
  (dW:nsIn K mainGlobals "MOST_DAY" =some (some (.int 1000000 fw)))
  (b9:nsIn K mainGlobals "MOST_NUMBER" =some (some (.int 1000000 d5)))
  (cK:nsIn K mainGlobals "MOST_WHOLE" =some (some (.int 1000000 eC)))
  (cj:nsIn K mainGlobals "MOST_PIECES" =some (some (.int 1000000000 d4)))
  (cz:nsIn K mainGlobals "MOST_PRICE" =some (some (.int 1000000000 et)))
  (dn:nsIn K mainGlobals "MOST_FEE" =some (some (.int 1000000000 fu)))
  (bG:nsIn K mainGlobals "MOST_GIFT_COST" =some (some (.int 1000000000000000000 cx)))
  (cC:nsIn K mainGlobals "MOST_SPLIT" =some (some (.int 1000 d6)))
  (eS:specialIn K (.builtin "object.__class__") "__get__" =some (some (.builtin "getset_descriptor.__get__")))
  (eQ:takesIn K (.builtin "object.__class__")=some true)
  (fH:plainGet K c0 Str.empty=true)
  (fM:hasDictIn K c0=true)
  (fP:plainOver K c0=true)
  (fY:findIn K (.ref c0) "__setattr__" =some (some (.builtin "object.__setattr__")))
  (dq:findIn K (.ref c0) "way" =some none)
  (di:findIn K (.ref c0) "rows" =some none)
  (bz:findIn K (.ref c0) "last_place" =some none)
  (cT:findIn K (.ref c0) "paid" =some none)
  (bT:findIn K (.ref c0) "brought" =some none)
  (bh:findIn K (.ref c0) "sales_done" =some none)
  (aL:findIn K (.ref c0) "givings_done" =some none)
  (gk:plainGet K c1 Str.empty=true)
  (gt:hasDictIn K c1=true)
  (gw:plainOver K c1=true)
  (gd:findIn K (.ref c1) "__setattr__" =some (some (.builtin "object.__setattr__")))
  (cI:findIn K (.ref c1) "number" =some none)
  (cO:findIn K (.ref c1) "since" =some none)
  (cH:findIn K (.ref c1) "pieces" =some none)
  (du:findIn K (.ref c1) "cost" =some none)
  (bZ:plainGet K c2 Str.empty=true)
  (ck:hasDictIn K c2=true)
  (cf:plainOver K c2=true)
  (cg:findIn K (.ref c2) "__setattr__" =some (some (.builtin "object.__setattr__")))
  (bE:findIn K (.ref c2) "way" =some none)
  (aY:findIn K (.ref c2) "rows" =some none)
  (am:findIn K (.ref c2) "last_place" =some none)
  (bj:findIn K (.ref c2) "paid" =some none)
  (aI:findIn K (.ref c2) "brought" =some none)
  (ak:findIn K (.ref c2) "sales_done" =some none)
  (ac:findIn K (.ref c2) "givings_done" =some none)
  (bf:findIn K (.ref c2) "days" =some none)
  (aE:findIn K (.ref c2) "layings" =some none)
  (fB:plainGet K c3 Str.empty=true)
  (fG:hasDictIn K c3=true)
  (fO:plainOver K c3=true)
  (gb:findIn K (.ref c3) "__setattr__" =some (some (.builtin "object.__setattr__")))
  (cm:findIn K (.ref c3) "number" =some none)
  (dU:findIn K (.ref c3) "day" =some none)
  (cU:findIn K (.ref c3) "ware" =some none)
  (bI:findIn K (.ref c3) "proceeds" =some none)
  (cN:findIn K (.ref c3) "parts" =some none)
  (bP:findIn K (.ref c3) "laid_on" =some none)
  (fU:plainGet K c5 Str.empty=true)
  (fW:hasDictIn K c5=true)
  (fR:plainOver K c5=true)
  (fJ:findIn K (.ref c5) "__setattr__" =some (some (.builtin "object.__setattr__")))
  (ef:plainGet K c6 Str.empty=true)
  (eh:hasDictIn K c6=true)
  (eG:plainOver K c6=true)
  (d8:findIn K (.ref c6) "__setattr__" =some (some (.builtin "object.__setattr__")))
  (eg:plainGet K c7 Str.empty=true)
  (eo:hasDictIn K c7=true)
  (eE:plainOver K c7=true)
  (ee:findIn K (.ref c7) "__setattr__" =some (some (.builtin "object.__setattr__")))
  (dJ:plainGet K c8 Str.empty=true)
  (dG:hasDictIn K c8=true)
  (dF:plainOver K c8=true)
  (dR:findIn K (.ref c8) "__setattr__" =some (some (.builtin "object.__setattr__")))
  (fx:plainGet K z Str.empty=true)
  (fy:hasDictIn K z=true)
  (fA:plainOver K z=true)
  (fz:findIn K (.ref z) "__setattr__" =some (some (.builtin "object.__setattr__")))
  (ge:findIn K (.ref z) "__class__" =some (some (.builtin "object.__class__")))
  (gq:mroIn K z (.type "object")=some true)
  (d7:findIn K (.ref z) "day" =some none)
  (cJ:findIn K (.ref z) "number" =some none)
  (dX:findIn K (.ref z) "ware" =some none)
  (cD:findIn K (.ref z) "pieces" =some none)
  (de:findIn K (.ref z) "price" =some none)
  (eF:findIn K (.ref z) "fee" =some none)
  (dC:findIn K (.ref z) "cost" =some none)
  (eM:plainGet K ab Str.empty=true)
  (eP:hasDictIn K ab=true)
  (eL:plainOver K ab=true)
  (eJ:findIn K (.ref ab) "__setattr__" =some (some (.builtin "object.__setattr__")))
  (fS:findIn K (.ref ab) "__class__" =some (some (.builtin "object.__class__")))
  (fC:mroIn K ab (.type "object")=some true)
  (dm:findIn K (.ref ab) "day" =some none)
  (ci:findIn K (.ref ab) "number" =some none)
  (cP:findIn K (.ref ab) "ware" =some none)
  (b8:findIn K (.ref ab) "pieces" =some none)
  (cR:findIn K (.ref ab) "cost" =some none)
  (cG:findIn K (.ref ab) "since" =some none)
  (eI:plainGet K q Str.empty=true)
  (eN:hasDictIn K q=true)
  (eK:plainOver K q=true)
  (eO:findIn K (.ref q) "__setattr__" =some (some (.builtin "object.__setattr__")))
  (fL:findIn K (.ref q) "__class__" =some (some (.builtin "object.__class__")))
  (fE:mroIn K q (.type "object")=some true)
  (dY:findIn K (.ref q) "day" =some none)
  (ce:findIn K (.ref q) "number" =some none)
  (cY:findIn K (.ref q) "ware" =some none)
  (b5:findIn K (.ref q) "pieces" =some none)
  (cE:findIn K (.ref q) "price" =some none)
  (dN:findIn K (.ref q) "fee" =some none)
  (cF:findIn K (.ref q) "named" =some none)
  (bK:findIn K (.ref q) "proceeds" =some none)
  (dr:plainGet K ap Str.empty=true)
  (dD:hasDictIn K ap=true)
  (dZ:plainOver K ap=true)
  (dA:findIn K (.ref ap) "__setattr__" =some (some (.builtin "object.__setattr__")))
  (eZ:findIn K (.ref ap) "__class__" =some (some (.builtin "object.__class__")))
  (ft:mroIn K ap (.type "object")=some true)
  (df:findIn K (.ref ap) "day" =some none)
  (bO:findIn K (.ref ap) "number" =some none)
  (cy:findIn K (.ref ap) "ware" =some none)
  (cL:findIn K (.ref ap) "many" =some none)
  (dE:findIn K (.ref ap) "of" =some none)
  (cw:plainGet K an Str.empty=true)
  (cv:hasDictIn K an=true)
  (cr:plainOver K an=true)
  (cu:findIn K (.ref an) "__setattr__" =some (some (.builtin "object.__setattr__")))
  (dQ:findIn K (.ref an) "__class__" =some (some (.builtin "object.__class__")))
  (dO:mroIn K an (.type "object")=some true)
  (b7:findIn K (.ref an) "day" =some none)
  (bC:findIn K (.ref an) "number" =some none)
  (bV:findIn K (.ref an) "ware" =some none)
  (bM:findIn K (.ref an) "other" =some none)
  (bL:findIn K (.ref an) "share" =some none)
  (bJ:findIn K (.ref an) "whole" =some none)
  (fZ:makesIn K c1=true)
  (fX:isFn K (.ref dp)=true)
  (fV:keepIn K (.ref c1)=true)
  (fj:makesIn K c3=true)
  (fe:isFn K (.ref ea)=true)
  (fo:keepIn K (.ref c3)=true)
  (bQ:makesIn K c2=true)
  (bW:isFn K (.ref fl)=true)
  (bU:keepIn K (.ref c2)=true)
  (cX:makesIn K an=true)
  (cS:isFn K (.ref dz)=true)
  (cW:keepIn K (.ref an)=true)
  (fQ:makesIn K z=true)
  (fK:isFn K (.ref bl)=true)
  (fD:keepIn K (.ref z)=true)
  (eW:makesIn K q=true)
  (eT:isFn K (.ref bk)=true)
  (eV:keepIn K (.ref q)=true)
  (fc:makesIn K ab=true)
  (eU:isFn K (.ref ff)=true)
  (eR:keepIn K (.ref ab)=true)
  (eB:makesIn K ap=true)
  (eu:isFn K (.ref dw)=true)
  (eA:keepIn K (.ref ap)=true)
  (fb:makesIn K c0=true)
  (fm:isFn K (.ref bs)=true)
  (e8:keepIn K (.ref c0)=true)
  (dI:makesIn K c6=true)
  (dL:findIn K (.ref c6) "__init__" =some (some (.builtin "object.__init__")))
  (dH:keepIn K (.ref c6)=true)
  (dM:makesIn K c7=true)
  (dk:findIn K (.ref c7) "__init__" =some (some (.builtin "object.__init__")))
  (dS:keepIn K (.ref c7)=true)
  (cV:makesIn K c8=true)
  (cQ:findIn K (.ref c8) "__init__" =some (some (.builtin "object.__init__")))
  (cZ:keepIn K (.ref c8)=true)
  (fr:makesIn K c5=true)
  (e9:findIn K (.ref c5) "__init__" =some (some (.builtin "object.__init__")))
  (fg:keepIn K (.ref c5)=true)
  (bo:isFn K (.ref dy)=true)
  (aR:isFn K (.ref co)=true)
  (ay:findIn K (.ref c2) "row_of" =some (some (.ref co)))
  (av:isFn K (.ref cd)=true)
  (ai:findIn K (.ref c2) "keep_row" =some (some (.ref cd)))
  (bY:isFn K (.ref e3)=true)
  (aj:isFn K (.ref go)=true)
  (bN:isFn K (.ref b0)=true)
  (aV:findIn K (.ref c2) "put" =some (some (.ref b0)))
  (bH:isFn K (.ref e2)=true)
  (ax:isFn K (.ref en)=true)
  (cq:isFn K (.ref e4)=true)
  (bu:isFn K (.ref gh)=true)
  (aP:findIn K (.ref c6) "levelled" =some (some (.ref bi)))
  (aa:isFn K (.ref bi)=true)
  (aN:findIn K (.ref c7) "levelled" =some (some (.ref bi)))
  (aJ:findIn K (.ref c8) "levelled" =some (some (.ref bi)))
  (ba:isFn K (.ref d1)=true)
  (aF:isFn K (.ref bp)=true)
  (bF:isFn K (.ref ev)=true)
  (bw:isFn K (.ref e0)=true)
  (bR:findIn K (.ref c5) "picks" =some (some (.ref bp)))
  (aq:isFn K (.ref cb)=true)
  (af:findIn K (.ref c2) "taken_for" =some (some (.ref cb)))
  (aS:isFn K (.ref cs)=true)
  (az:findIn K (.ref c2) "do_buy" =some (some (.ref cs)))
  (aC:isFn K (.ref cn)=true)
  (ar:findIn K (.ref c2) "do_gift" =some (some (.ref cn)))
  (aG:isFn K (.ref dc)=true)
  (au:findIn K (.ref c2) "do_sell" =some (some (.ref dc)))
  (aw:isFn K (.ref b4)=true)
  (ao:findIn K (.ref c2) "do_split" =some (some (.ref b4)))
  (ag:isFn K (.ref ch)=true)
  (ad:findIn K (.ref c2) "do_parting" =some (some (.ref ch)))
  (ah:isFn K (.ref bm)=true)
  (ae:findIn K (.ref c2) "do_by_kind" =some (some (.ref bm)))
  (aO:isFn K (.ref fk)=true)
  (aD:isFn K (.ref ew)=true)
  (aH:isFn K (.ref ey)=true)
  (aA:isFn K (.ref gc)=true)
  (al:isFn K (.ref e1)=true)
  (bB:isFn K (.ref db)=true)
  (aM:findIn K (.ref c2) "held" =some (some (.ref db)))
  (bX:isFn K (.ref ca)=true)
  (be:findIn K (.ref c2) "do" =some (some (.ref ca)))
  (bA:isFn K (.ref ct)=true)
  (aK:findIn K (.ref c2) "sums" =some (some (.ref ct)))
  (bD:isFn K (.ref eq)=true)
  (aX:isFn K (.ref bx)=true)
  (aB:findIn K (.ref c2) "sales" =some (some (.ref bx)))
  (aQ:isFn K (.ref ej)=true)
  (bg:specialIn K (.ref c0) "__getattribute__" =some (some (.builtin "type.__getattribute__")))
  (aZ:readsIn K c0 (.type "type")=true)
  (bb:findCls K (.ref c0) (.type "type") "__init__" =some (.val (.ref bs)))
  (aW:specialIn K (.ref bd) "__getattribute__" =some (some (.builtin "type.__getattribute__")))
  (aU:readsIn K bd (.type "type")=true)
  (aT:findCls K (.ref bd) (.type "type") "__init__" =some (.val (.ref er)))
  (eY:kitOne K (.ref z) (.ref q)=some false/\kitOne K (.ref z) (.ref ab)=some false/\kitOne K (.ref z) (.ref as)=some false/\kitOne K (.ref z) (.ref ap)=some false/\kitOne K (.ref z) (.ref an)=some false)
  (eD:kitOne K (.ref q) (.ref z)=some false/\kitOne K (.ref q) (.ref ab)=some false/\kitOne K (.ref q) (.ref as)=some false/\kitOne K (.ref q) (.ref ap)=some false/\kitOne K (.ref q) (.ref an)=some false)
  (d9:kitOne K (.ref ab) (.ref z)=some false/\kitOne K (.ref ab) (.ref q)=some false/\kitOne K (.ref ab) (.ref as)=some false/\kitOne K (.ref ab) (.ref ap)=some false/\kitOne K (.ref ab) (.ref an)=some false)
  (dP:kitOne K (.ref ap) (.ref z)=some false/\kitOne K (.ref ap) (.ref q)=some false/\kitOne K (.ref ap) (.ref ab)=some false/\kitOne K (.ref ap) (.ref as)=some false/\kitOne K (.ref ap) (.ref an)=some false)
  (cB:kitOne K (.ref an) (.ref z)=some false/\kitOne K (.ref an) (.ref q)=some false/\kitOne K (.ref an) (.ref ab)=some false/\kitOne K (.ref an) (.ref as)=some false/\kitOne K (.ref an) (.ref ap)=some false)
  :∃fd:FuncData,(∀(s:Shared)(v:Value),BindsTo s fd ⟨[v],[]⟩ [("_law_script",v)])/\∀base:Heap,K.In base->base.Ns mainGlobals mg->jE l.prog w K mg base CX0 12 fa fd ["_law_script"] (Ph K):=by
 have e:=nt.symm.trans (mg_of X G bc.1);cases e;have T:Txt K mg ⟨f0,f1,f2,f3,f4,f5,f6,f7,f8,f9,ht,hp,kn,kq,kd,kr,j8,j6,k3,co,cd,li,dp,dy,g0,b0,e2,k9,e3,kl,go,ea,hw,en,cs,cn,j3,g4,i6,ii,bi,h8,d1,e4,hh,km,bp,ev,gh,kc,e0,io,cb,dc,ip,hj,b4,kb,ch,bm,im,l0,fk,g5,ew,ey,gc,e1,j4,db,ca,hq,bs,fl,lf,k5,lh,l1,hs,er,dz,hr,bl,ia,h3,bk,ff,dw,lr,ct,eq,lb,bx,le,lm,g1,ej,fa,c0,c1,c2,c3,c4,c5,c6,c7,c8,c9,z,ab,q,as,ap,an,bd,dj,fw,d5,eC,d4,et,fu,cx,d6⟩ ⟨_,_,_,_,_,_,_,_,_,_,_,_,_,_,_,_,_,_,_,_,_,_,_,_,_,_,_,_,_,_,_,_,_,_,_,_,_,_,_,_,_,_,_,_,_,_,_,_,_,_,_,_,_,_,_,_,_,_,_,_,_,_,_,_,_,_,_,_,_,_,_,_,_,_,_,_,_,_,_,_,_,_,_,_,_,_,_,_,_,_,_,_,_,_,_,_,_,_⟩:=⟨a0.g X G,a1.g X G,a2.g X G,a3.g X G,a4.g X G,a5.g X G,a6.g X G,a7.g X G,a8.g X G,a9.g X G,a10.g X G,a11.g X G,a12.g X G,a13.g X G,a14.g X G,ng.g X G,mr.g X G,mt.g X G,nc.g X G,da.F,br.F,mv.g X G,lj.F,dt.F,nb.g X G,b3.F,ep.F,ns.g X G,ec.F,nh.g X G,fi.F,j2.F,l3.g X G,ei.F,b6.F,cc.F,l4.g X G,na.g X G,l9.g X G,ml.g X G,bt.F,nw.g X G,dv.F,gu.F,ny.g X G,nr.g X G,dg.F,eb.F,ga.F,m4.g X G,d0.F,mo.g X G,b1.F,b2.F,l2.g X G,m3.g X G,dl.F,me.g X G,cl.F,dd.F,my.g X G,m7.g X G,d3.F,m6.g X G,e7.F,ed.F,d2.F,ez.F,ni.g X G,cp.F,bv.F,mx.g X G,ih.F,ic.F,nk.g X G,m1.g X G,nd.g X G,ne.g X G,nf.g X G,l7.F,hk.F,nx.g X G,VP (st:=lJ) (its:=[.int 0 gK]) l8 mm mk gM rfl (.cons ⟨_,rfl⟩ .nil),m0.g X G,mb.g X G,VP (st:=lq) (its:=[.int 0 gL,.none]) nz nl l5 gN rfl (.cons ⟨_,rfl⟩ (.cons rfl .nil)),g6.F,i5.F,l6.g X G,bq.F,e5.F,m9.g X G,bn.F,mi.g X G,mp.g X G,ms.g X G,em.F,⟨mg_of X G bc.1,bc.2.2.2,Vf (st:=YL) bc.2.1 bc.2.2.1 bc.2.2.2⟩,mg_none_of X G gm,mg_none_of X G gH,mg_none_of X G gn,mg_none_of X G fN,mg_none_of X G fh,mg_none_of X G gz,mg_none_of X G gy,mg_none_of X G gF,mg_none_of X G gC,mg_none_of X G gG,mg_none_of X G dB,mg_none_of X G dh,mg_none_of X G cA,mg_none_of X G gB,mg_none_of X G gg,mg_none_of X G gE,mg_none_of X G gA,mg_none_of X G gI,mg_of X G gj,mg_of X G gJ,mg_of X G cM,mg_of X G gl,mg_of X G gp,mg_of X G eX,mg_of X G fq,mg_of X G el,mg_of X G gD,mg_of X G gf,mg_of X G gr,mg_of X G gi,mg_of X G fF,mg_of X G ek,mg_of X G fT,mg_of X G bS,mg_of X G dW,mg_of X G b9,mg_of X G cK,mg_of X G cj,mg_of X G cz,mg_of X G dn,mg_of X G bG,mg_of X G cC,⟨fH,fM,fP,fY⟩,dq,di,bz,cT,bT,bh,aL,⟨gk,gt,gw,gd⟩,cI,cO,cH,du,⟨bZ,ck,cf,cg⟩,bE,aY,am,bj,aI,ak,ac,bf,aE,⟨fB,fG,fO,gb⟩,cm,dU,cU,bI,cN,bP,⟨fU,fW,fR,fJ⟩,⟨ef,eh,eG,d8⟩,⟨eg,eo,eE,ee⟩,⟨dJ,dG,dF,dR⟩,⟨fx,fy,fA,fz⟩,⟨⟨fx,fy,fA,fz⟩,ge,eS,eQ,gq⟩,d7,cJ,dX,cD,de,eF,dC,⟨eM,eP,eL,eJ⟩,⟨⟨eM,eP,eL,eJ⟩,fS,eS,eQ,fC⟩,dm,ci,cP,b8,cR,cG,⟨eI,eN,eK,eO⟩,⟨⟨eI,eN,eK,eO⟩,fL,eS,eQ,fE⟩,dY,ce,cY,b5,cE,dN,cF,bK,⟨dr,dD,dZ,dA⟩,⟨⟨dr,dD,dZ,dA⟩,eZ,eS,eQ,ft⟩,df,bO,cy,cL,dE,⟨cw,cv,cr,cu⟩,⟨⟨cw,cv,cr,cu⟩,dQ,eS,eQ,dO⟩,b7,bC,bV,bM,bL,bJ,⟨fZ,lj.n,fX,fV⟩,⟨fj,j2.n,fe,fo⟩,⟨bQ,ic.n,bW,bU⟩,⟨cX,hk.n,cS,cW⟩,⟨fQ,n0,fK,fD⟩,⟨eW,mf,eT,eV⟩,⟨fc,g6.n,eU,eR⟩,⟨eB,i5.n,eu,eA⟩,⟨fb,ih.n,fm,e8⟩,⟨dI,dL,dH⟩,⟨dM,dk,dS⟩,⟨cV,cQ,cZ⟩,⟨fr,e9,fg⟩,⟨dt.n,bo,dt.k⟩,⟨da.n,aR,da.k⟩,⟨ay,aR,da.k⟩,⟨br.n,av,br.k⟩,⟨ai,av,br.k⟩,⟨ec.n,bY,ec.k⟩,⟨fi.n,aj,fi.k⟩,⟨b3.n,bN,b3.k⟩,⟨aV,bN,b3.k⟩,⟨ep.n,bH,ep.k⟩,⟨ei.n,ax,ei.k⟩,⟨gu.n,cq,gu.k⟩,⟨ga.n,bu,ga.k⟩,⟨aP,aa,bt.k⟩,⟨aN,aa,bt.k⟩,⟨aJ,aa,bt.k⟩,⟨dv.n,ba,dv.k⟩,⟨dg.n,aF,dg.k⟩,⟨eb.n,bF,eb.k⟩,⟨d0.n,bw,d0.k⟩,⟨bR,aF,dg.k⟩,⟨b1.n,aq,b1.k⟩,⟨af,aq,b1.k⟩,⟨b6.n,aS,b6.k⟩,⟨az,aS,b6.k⟩,⟨cc.n,aC,cc.k⟩,⟨ar,aC,cc.k⟩,⟨b2.n,aG,b2.k⟩,⟨au,aG,b2.k⟩,⟨dl.n,aw,dl.k⟩,⟨ao,aw,dl.k⟩,⟨cl.n,ag,cl.k⟩,⟨ad,ag,cl.k⟩,⟨dd.n,ah,dd.k⟩,⟨ae,ah,dd.k⟩,⟨d3.n,aO,d3.k⟩,⟨e7.n,aD,e7.k⟩,⟨ed.n,aH,ed.k⟩,⟨d2.n,aA,d2.k⟩,⟨ez.n,al,ez.k⟩,⟨cp.n,bB,cp.k⟩,⟨aM,bB,cp.k⟩,⟨bv.n,bX,bv.k⟩,⟨be,bX,bv.k⟩,⟨bq.n,bA,bq.k⟩,⟨aK,bA,bq.k⟩,⟨e5.n,bD,e5.k⟩,⟨bn.n,aX,bn.k⟩,⟨aB,aX,bn.k⟩,⟨em.n,aQ,em.k⟩,⟨bg,aZ,bb⟩,⟨aW,aU,aT⟩,eY,eD,d9,dP,cB⟩
 exact⟨_,λs v=> .of_eq rfl,λbase _ _=>ajc T⟩
def walk{l:PySem.W.OpenLaw}{q:Program}{aa:List Str}{XP:(Str->Option Value)->Heap->Prop}{YP:World->Heap->Prop}{d:DefRec}{K:Params->Fg_}(hn:l.most=some 63)(ab:d.params.defaults=[])
  (hY:∀(w:World)(h:Heap),YP w h->(K w.params).In h)
  (F:∀(w:World)(mg:Str->Option Value)(fa:Addr)(h:Heap),(K w.params).In h->h.Ns mainGlobals mg->mg d.name=some (.ref fa)->
   ∃fd:FuncData,(∀(s:Shared)(u:Value),BindsTo s fd ⟨[u],[]⟩ [("_law_script",u)])/\∀base:Heap,(K w.params).In base->base.Ns mainGlobals mg->jE l.prog w (K w.params) mg base CX0 12 fa fd ["_law_script"] (Ph (K w.params))):
  PySem.W.WalkO q aa XP YP l.row.toRowW d [] (λf vs=>PySem.call f vs):=
 L2.walk_of (n:=63) (k:=12) (x:= "_law_script") (CX:=λ_=>CX0) (sp:=λw=>Ph (K w.params)) hn (by decide) ab ⟨rfl,by decide,by decide⟩ hY F (λ_ _ a ns hl _ hS=>⟨a,ns,rfl,hS,hl,λ_=>rfl⟩) λ_ _ _ _ _ z=>z
end My
structure PySem.W.Fast:Prop where(tw17665225392680992698 tw11102502267465156268 tw10903669984865640253 tw14293732928725285170 tw12360886501032485977 tw14662843404056427845 tw15402235880804529945 tw8385812305514124946 tw16264029586227806429 tw11716020251749150796 tw11964978834772431369 tw12208135713309204552 tw5363520350451454965 tw8687189384546745817 tw8461505311640746569 tw6882488248959116643 tw709761381580174214 tw18353246985745044502 tw5890474657936413851 tw3153811607731082842 tw15090846847128481696 tw6556208703316526970 tw3299215284571320457 tw16488231359864206440 tw11357223023542923540 tw17633093391979932030 tw405094035113851437 tw899292543322802930 tw16570756766747120140 tw5478220922694664136 tw10156978752955488647 tw17599514458005103345 tw14873603807045861850 tw3045008376549604070 tw6242920487593678002 tw7194537661366492097 tw12237830459350010970 tw16584536657249078329 tw323761843012326986 tw2544459053264684310 tw5589021438190293176 tw7692254816137605768 tw11194352578956058166 tw11307789084548361812 tw10182379028263516161 tw7393807756328768287 tw462996298931275110 tw12195811877331958834 tw10030268470157391184 tw3252895420439049256 tw17538072244915859083 tw2027344508359748360 tw2352442067914219597 tw15702957679125889578 tw12328300717552017037 tw304598604824394766 tw14678886261646986733 tw12240712781068935509 tw11605203447230741576 tw2250105561461587283 tw17053114042359563972 tw13481746322809127818 tw221252209730858079 tw11295508924976658256 tw7503497590412453353 tw15770392402916167851 tw15001238314760340275 tw13272894295827555303 tw7562465241846588371 tw10588804488678462005 tw960222556026810672 tw995956842122912950 tw13126884675511690218 tw18285954324978263249 tw6308840695991468233 tw5370267428902693473 tw15699226232625790219 tw16272865262704919798 tw3328121705048250331 tw6058692616144250284 tw16809008337275135034 tw14151851124280199221 tw911798184368493560 tw9449153004550156636 tw16451543659894019117 tw1132788939937676029 tw2351790360453083039 tw11968332809387127625 tw105873918447923400 tw13814089813299720459 tw1013013252111210495 tw5200077164475998101 tw1791767881458275178 tw12946156649904786404 tw7537887888202924130 tw6369258400360909831 tw9969032190661601771 tw4610056360287945278 tw16725967178260540522 tw3476774454165815723 tw6528224679974742243 tw9000892146987283598 tw8120134044320091139 tw18327545746438555176 tw193178784912893954 tw14537484905275570217 tw9065761302711239627 tw253169617374654116 tw9814945774948057102 tw6340270865001959102 tw10982397339847456880 tw16184519562615576788 tw9881811035095155106 tw13377453036198328466 tw9514165744463276618 tw9196498300659930872 tw14969870046807672769 tw7639293246049997590 tw1828888143795168175 tw9272912081393528781 tw10378417240686632224 tw10707315059449474323 tw15452662825524463145 tw11303175775450142026 tw1222360644216544411 tw2259671388788379188 tw11310830178322749602 tw3124367286276455631 tw15853736943730807814 tw2242991201440219939 tw210879196199524647 tw14893660423753244383 tw2417754481282789195 tw16094724222303276056 tw17562801669131193712 tw6532502956593560492 tw12962243990120472097 tw2502195293425751272 tw12188917959441605870 tw13120936396294919790 tw623525942873202066 tw11196555894312002777 tw1292529536596862334 tw9181110186229851719 tw12998945671307682695 tw2368349559545129115 tw1324195540246773332 tw12891895844359074463 tw5808214437543908011 tw15078634756416421636 tw9533299567704835736 tw4209751476643066941 tw2385536335604287056 tw12106926391280294510 tw1798492030766957345 tw10607481647485030088 tw11202630317243335002 tw7277976736162530969 tw17235648320955452901 tw9282524979257706238 tw17946195935352069972 tw11527894164457514224 tw14699019338239099798 tw3566604175693310038 tw8839740293191187118 tw1966590791091359625 tw2696925205708791457 tw12799357634783706918 tw7000498249587236677 tw16252824452036171372 tw9727382572482765314 tw7698373345481212853 tw13868487585300678574 tw11406286067927452529 tw10232368596040077920 tw3400773544505774964 tw16307933315311862917 tw3529543416237365503 tw15710087906391966408 tw10408601477146045020 tw2279217052655948472 tw17679754533305759860 tw13471221798146423936 tw1873950732661038858 tw5339336636434033721 tw236756127200636853 tw1062443195382159608 tw9303171393840087069 tw17003955824093292221 tw17290316991718916541 tw17474083353151835979 tw11411930170948053821 tw8965738578639983984 tw2282742408333212946 tw16360570088519754245 tw17399807615453505197 tw4859027564139315644 tw6420941589300282169 tw15025540682252993944 tw2557517985991643228 tw2259217853882036717 tw13401180537616914688 tw3423148574764641472 tw468373116712617175 tw1213322705066446071 tw9182856197687450108 tw8452557706212052061 tw2684204468311839023 tw7351424869449733667 tw6509558750711429839 tw14197346675441579765 tw10232804799354693130 tw5859926265578654449 tw11485621544705590039 tw5999958520667691916 tw18204206225038189262 tw15061332234757504045 tw5539700234472677770 tw7464479030280771757 tw8834449149824577557 tw1017585346699557515 tw13992189307667188320 tw761752300365903372 tw12181247516218968442 tw14505609700247256154 tw11658700601339918765 tw10990219887657811908 tw10394597539791616157 tw8869561531666144968 tw1604378157017592003 tw9864692271838950697 tw6810882548546022276 tw12382296138748805299 tw12802538446529127046 tw11870374849305946940 tw15889296842682563477 tw9693678084231326325 tw13570488764537914050 tw3987678924310257208 tw15699482155327981224 tw13484465800519334164 tw10263769010219087634 tw18198641403985332570 tw3196578675090977786 tw3383774385981335536 tw16423640192668867125 tw17439540080585053504 tw1999407685448961311 tw10422737346746896989 tw7919869042720909875 tw2108719986967415251 tw4945234674317451961 tw4942965734655135151 tw6406029163251724622 tw10714579583640326065 tw15277287245312727286 tw5865654052088553081 tw12368613495994206577 tw7185118511224819947 tw15259743372328685624 tw16785814597380262115 tw7931410091491660889 tw8410128091943777158 tw16029844216897311136 tw18327946124496471256 tw3095404329167513613 tw326094207044944434 tw1398603213635761377 tw13551164659959862909 tw16779028920288034172 tw3369543665177720521 tw17736071670034710992 tw2191249781874676554 tw25607510248132871 tw2853050285558323487 tw13659008927902108786 tw14086395676006974148 tw52002164279758762 tw15843520408851538556 tw16801391400191787894 tw10635023637723667951 tw4194118215871640132 tw12112144382018215284 tw1096670225248223755 tw8464679412813750887 tw16991666375472789547 tw16473281181853190208 tw14616018342214300482 tw8446496330696698187 tw16623262832264874923 tw11007140080026143489 tw5046146940915404851 tw9072451883804307776 tw2263982025003859368 tw5792334032351470388 tw10010372754712933078 tw15172591236083780799 tw7596224741502124854 tw13948087895771641667 tw370774971129361275 tw9571237952931098505 tw9656023869551671022 tw17732740208003531229 tw9404982900915288317 tw14403500801232914954 tw2829096158380409373 tw17271617922954540181 tw18196714213610976559 tw13482140446188128216 tw14509566674481804373 tw8421185223755953198 tw8058783921132956602 tw12988349497318987310 tw4712164222088365859 tw11159160232212214834 tw13055199168619476430 tw3967877301045871613 tw14794655160195251798 tw8542997115293311144 tw16458988352559449037 tw14132035061897348347 tw17333877773525298860 tw12314963563231719303 tw11471020059370154184 tw15983898408886563258 tw6593926380995656555 tw8362121771093617978 tw2423888513298771726 tw11844371717509149476 tw6038824137601497063 tw641416728424152321 tw15443433989737215903 tw7737018889086586198 tw12549541769178075230 tw8806727929391768402 tw5376910710106302335 tw5047545615154223789 tw4798656661792695644 tw13795922840094644128 tw11605334749588690786 tw16222545366233483636 tw13188956968896192259 tw2506573531753585481 tw3605897195032282802 tw6358540312429841649 tw6706502331473387386 tw13547407777694787644 tw5410453025272647859 tw13142248393910088973 tw8222520201772164384 tw16938496071226534186 tw17495689428110065281 tw11258628290931835155 tw12487817884729103218 tw15694941907118876723 tw10336523086050078591 tw15718396915806131896 tw2138067750168916381 tw5782720458144812851 tw4894103141265019281 tw9361728414564256873 tw2353416957580661151 tw5216104103058809014 tw11705613695303487330 tw12468544993028974735 tw13409538142173023049 tw4666718172548623524 tw6441989803154412464 tw5534137317102515088 tw9152096636557723156 tw18010345711345868545 tw5630505725805275727 tw16812872661759722726 tw4966053358518166022 tw4669134729747338331 tw9215243535516644830 tw2458263399872931635 tw13610188457439312476 tw12388942615918462442 tw18219416515996950150 tw15152005224297869873 tw6306698380315125477 tw2401944793385210241 tw11650456823697300893 tw8410996141989701318 tw16404294406726124995 tw780425316467581961 tw11623346821332435583 tw9666399490483269993 tw3409685809141548725 tw4411379592414651995 tw11429502366856537367 tw16914038223841718266 tw13902836948838218764 tw16530078813993069189 tw14139057019766986174 tw877393458596991919 tw7812879954134436722 tw7859912796998512632 tw16803370511781665563 tw239979064779377393 tw13418562865548715787 tw11048642786492425182 tw11669159805438660349 tw15984615125181349306 tw14505857366277817964 tw3112744014426849982 tw14655038867486706439 tw11790624938014555787 tw1912338508186351223 tw3124659540465525162 tw17000981871753059248 tw10050920849678539649 tw17438072892690988514 tw1896183166363755276 tw5742040321985870600 tw12323349782838914955 tw6373881921590122316 tw2360236622196486452 tw12642123737095922395 tw7186005294325266642 tw96313125645003029 tw444057537114860595 tw17213720974993805895 tw15511195972652022705 tw5924429321188578064 tw11632940489017698233 tw8586843268064941245 tw5018371218895463850 tw16716780926967551945 tw9665698354242011561 tw13238563178831396222 tw14578766659146681381 tw5440746857350589853 tw9745575726745389303 tw2099839202895978839 tw11720612182469135947 tw3177953937169376340 tw16620462566261701787 tw7246309067105362015 tw16617366483154243274 tw17695011062843244327 tw14068389572753889266 tw9888137259209824155 tw2178946102713948391 tw12147891454593568721 tw9538626487424563047 tw9077615766974002219 tw9578925123768495785 tw361534306091380657 tw8148717694834618384 tw7161358385472487225 tw12664839157202228335 tw10268699002173485355 tw17106932194486061613 tw12932868761861505740 tw14971427688188779820 tw3788425003643716519 tw17003712257402975327 tw13972838496617783247 tw13935316921159829040 tw9454939285929030775 tw11901477996074614790 tw17673069251331900249 tw5709414263523062916 tw18230988301959434606 tw10488953324107533779 tw11601569708302015632 tw8450073816705893184 tw5003160843380213247 tw12596144037545288048 tw15734069403445060759 tw7147836643222115919 tw17508197664641850891 tw16324334081767387245 tw11790348927291338079 tw17472292963525816495 tw16123098051534481565 tw5253486880944933530 tw1158252734594143925 tw11447011835949922265 tw16560047982147103179 tw6580177651744117274 tw1889118880400374089 tw15903049835598638877 tw6669802010693078910 tw11195271004790284277 tw17665343662909707956 tw11072290868342816721 tw11736801427226357151 tw7544453557635591575 tw14528263926757402318 tw12981700532798080081 tw7546633665219922357 tw13841747991630564164 tw15956137247264329794 tw7741194233367635784 tw13231067810763217215 tw5407098045052144040 tw17378078332546716690 tw11202696266482788729 tw6564551656086603140 tw13805171919159250683 tw5907062901719303432 tw1250706850558792307 tw17487459967026957680 tw8205017327757848570 tw11103839247740635410 tw8154898370376927121 tw16074045426522000307 tw13810990347179164610 tw1385118809609992234 tw13051112782559302810 tw907306855742690005 tw4263316876038754142 tw3061601224255687283 tw1848139929185596976 tw6149110902004608179 tw12172188785919736515 tw3677271320722924544 tw8168018011695062373 tw14299859846073716399 tw3062733991908283959 tw5781436468124805357 tw18198957480919720122 tw17996742329652674287 tw190705203392015095 tw11939442652983397637 tw14163082236446615689 tw17709321947459184165 tw7987418642412400417 tw7587613036956251398 tw4398107336137821119 tw4351534323481007037 tw14748380019176782665 tw8639892864480922346 tw15347020127081505087 tw12089854208300475545 tw9211385975886045409 tw3483569621529498439 tw3477969882711995660 tw12100891065746879502 tw14265110233305099315 tw10432465066262615558 tw3607632418604158487 tw8513188685286687641 tw16894387642012441351 tw14201525629913987925 tw11673723072912958887 tw12412143904287361054 tw14279470722997656237 tw3797856341547371606 tw2351494580228176222 tw2462184455898199052 tw2303303883620787223 tw929341963458894622 tw4103228054547186404 tw6874892853390456054 tw8089458603795020382 tw10940273913191059783 tw8938201423621942409 tw11724585839464050939 tw1760750197960380830 tw18134220918384534554 tw1091516011533891429 tw7086031449114200125 tw10219326699969255250 tw6885856307800356053 tw4247476729309226582 tw5509599663625157912 tw3009406187992972362 tw14171047007198491327 tw10399077150230240833 tw18029657206624307429 tw2030185938128463347 tw7242054978037734461 tw14264105690837823846 tw9704050507695882631 tw17465008025103693000 tw16794593139093960329 tw18118884794899835755 tw5927433333950683759 tw14040638272241509488 tw13687115561880233165 tw4016492716314049770 tw4946701085819766273 tw8875266780594534272 tw13735543725034191231 tw17059490357447670320 tw15070704098912503037 tw3923886631668130282 tw2087448065809143863 tw17699750901664025796 tw5762915573401022467 tw6899653149834586691 tw8070239828621855250 tw13055107290059539878 tw7651999570132668049 tw1435452661130554530 tw5036046873820284924 tw5523429355374252815 tw17633127980431073262 tw954270094297437954 tw4497522607370572021 tw9668403789568103876 tw957068506455888530 tw6842749091763685621 tw231642213009640450 tw3016788004336619385 tw12600803118033464094 tw5468128862364047147 tw6839009458605633785 tw15661272771671542899 tw13271780497002497988 tw12623729935569035180 tw16851943880651865337 tw7656860796730811623 tw3950629738955511698 tw8285606766169704654 tw10061917095196633662 tw16479794981607198308 tw15126208676066224496 tw14476525640399980463 tw17698896154129954616 tw569151635642174481 tw16195168843465968751 tw3860058357177056862 tw860799542811920668 tw17643770528580954678 tw17608281344122522232 tw8625914899665991319 tw2739051700773025739 tw18333706692635836237 tw3911719185117810293 tw15432376431757745015 tw5056367729196637714 tw8539264397917898651 tw4794050977381819432 tw825348261499787741 tw2644304064775320721 tw3103291415711326413 tw10771884664189883329 tw7912229524406135965 tw8671863056074896543 tw13987506053326102418 tw8468770020306655078 tw16233787295547011225 tw13905108831522346076 tw17206784306493672608 tw8646580307322919199 tw3394110872845579367 tw15181018932489718803 tw947606208476741848 tw18073756228328302988 tw12779985005089752279 tw6220958620579210784 tw7562333687037666851 tw12418675487041215158 tw8046772120731018348 tw5168554493845866722 tw17344519699120058635 tw10586085214067330470 tw2525162138285918637 tw7090870033938635888 tw11812892819297413345 tw10332307542254574168 tw17184116676222067003 tw5447454575420547240 tw12855971899634945758 tw1082340916044917613 tw1859577048162992324 tw943981639557857486 tw6776802491361002411 tw15134597059743319962 tw17215731185478445056 tw1631467872314563549 tw9435052248034134853 tw5576647980282484269 tw15461178289575750058 tw6757940994448748968 tw13147435604846183713 tw718172109933924698 tw10720293881898393250 tw11832832003564955190 tw4936090612650094500 tw9139717151085930272 tw1118716425188360252 tw7538916689778548543 tw14402135291210711372 tw17957669618569082258 tw9131446917138172845 tw2657346882369234632 tw915358519467041587 tw1582388285323964367 tw4677561848739633471 tw1331629991614206937 tw3933681353127578298 tw11282072837108196436 tw7317524404328305018 tw2637173546266602940 tw11940728390588326602 tw5462789118003215601:True)
open PySem PySem.W PyProof.Rows
set_option maxRecDepth 100000 in
set_option maxHeartbeats 0 in
theorem PySem.Challenge.cw_lotledger_k63_whole_nothing_left_holds : PySem.Challenge.rw_lotledger_k63_whole_nothing_left.Holds := by
 w_on;o_law;k_head;(case hw=>w_witness2)
 k_fill
 refine My.walk (l:=PySem.Challenge.rw_lotledger_k63_whole_nothing_left) rfl rfl (λw h Y=>PySem.W.kIn_of Y) ?F
 case F=>
  intro w mg fa h KX G hmg;refine' My.all_mk KX G hmg ?gj ?gJ ?cM ?gl ?gO ?gp ?eX ?fq ?el ?gx ?gD ?gf ?gr ?gi ?fF ?ek ?fT ?a0 ?a1 ?a2 ?a3 ?a4 ?a5 ?a6 ?a7 ?a8 ?a9 ?a10 ?a11 ?a12 ?a13 ?a14 ?a15 ?a16 ?a17 ?a18 ?a19 ?a20 ?a21 ?a22 ?a23 ?a24 ?a25 ?a26 ?a27 ?a28 ?a29 ?a30 ?a31 ?a32 ?a33 ?a34 ?a35 ?a36 ?a37 ?a38 ?a39 ?a40 ?a41 ?a42 ?a43 ?a44 ?a45 ?a46 ?a47 ?a48 ?a49 ?a50 ?a51 ?a52 ?a53 ?a54 ?a55 ?a56 ?a57 ?a58 ?a59 ?a60 ?a61 ?a62 ?a63 ?a64 ?a65 ?a66 ?a67 ?a68 ?a69 ?a70 ?a71 ?a72 ?a73 ?a74 ?a75 ?a76 ?a77 ?a78 ?a79 ?a80 ?a81 ?a82 ?l82 ?d82 ?k82 ?gM ?a83 ?a84 ?a85 ?l85 ?d85 ?k85 ?gN ?a86 ?a87 ?a88 ?a89 ?a90 ?a91 ?a92 ?a93 ?a94 ?a95 ?a96 ?a97 ?gm ?gH ?gn ?fN ?fh ?gz ?gy ?gF ?gC ?gG ?dB ?dh ?cA ?gB ?gg ?gE ?gA ?gI ?bS ?dW ?b9 ?cK ?cj ?cz ?dn ?bG ?cC ?eS ?eQ ?fH ?fM ?fP ?fY ?dq ?di ?bz ?cT ?bT ?bh ?aL ?gk ?gt ?gw ?gd ?cI ?cO ?cH ?du ?bZ ?ck ?cf ?cg ?bE ?aY ?am ?bj ?aI ?ak ?ac ?bf ?aE ?fB ?fG ?fO ?gb ?cm ?dU ?cU ?bI ?cN ?bP ?fU ?fW ?fR ?fJ ?ef ?eh ?eG ?d8 ?eg ?eo ?eE ?ee ?dJ ?dG ?dF ?dR ?fx ?fy ?fA ?fz ?ge ?gq ?d7 ?cJ ?dX ?cD ?de ?eF ?dC ?eM ?eP ?eL ?eJ ?fS ?fC ?dm ?ci ?cP ?b8 ?cR ?cG ?eI ?eN ?eK ?eO ?fL ?fE ?dY ?ce ?cY ?b5 ?cE ?dN ?cF ?bK ?dr ?dD ?dZ ?dA ?eZ ?ft ?df ?bO ?cy ?cL ?dE ?cw ?cv ?cr ?cu ?dQ ?dO ?b7 ?bC ?bV ?bM ?bL ?bJ ?fZ ?fX ?fV ?fj ?fe ?fo ?bQ ?bW ?bU ?cX ?cS ?cW ?fQ ?fK ?fD ?eW ?eT ?eV ?fc ?eU ?eR ?eB ?eu ?eA ?fb ?fm ?e8 ?dI ?dL ?dH ?dM ?dk ?dS ?cV ?cQ ?cZ ?fr ?e9 ?fg ?bo ?aR ?ay ?av ?ai ?bY ?aj ?bN ?aV ?bH ?ax ?cq ?bu ?aP ?aa ?aN ?aJ ?ba ?aF ?bF ?bw ?bR ?aq ?af ?aS ?az ?aC ?ar ?aG ?au ?aw ?ao ?ag ?ad ?ah ?ae ?aO ?aD ?aH ?aA ?al ?bB ?aM ?bX ?be ?bA ?aK ?bD ?aX ?aB ?aQ ?bg ?aZ ?bb ?aW ?aU ?aT ?eY ?eD ?d9 ?dP ?cB
  (case gj|gJ|cM|gl|gO|gp|eX|fq|el|gx|gD|gf|gr|gi|fF|ek|fT=>k_is)
  (case a0|a1|a2|a3|a4|a5|a6|a7|a8|a9|a10|a11|a12|a13|a14|a15|a16|a17|a18|a19|a20|a21|a22|a23|a24|a25|a26|a27|a28|a29|a30|a31|a32|a33|a34|a35|a36|a37|a38|a39|a40|a41|a42|a43|a44|a45|a46|a47|a48|a49|a50|a51|a52|a53|a54|a55|a56|a57|a58|a59|a60|a61|a62|a63|a64|a65|a66|a67|a68|a69|a70|a71|a72|a73|a74|a75|a76|a77|a78|a79|a80|a81=>constructor;rfl;refine⟨?_,?_,?_,?_⟩<;>k_is)
  (case a82|l82|d82|k82|gM=>k_is)
  (case a83|a84=>constructor;rfl;refine⟨?_,?_,?_,?_⟩<;>k_is)
  (case a85|l85|d85|k85|gN=>k_is)
  (case a86|a87|a88|a89|a90|a91|a92|a93|a94|a95|a96=>constructor;rfl;refine⟨?_,?_,?_,?_⟩<;>k_is)
  (case a97=>refine⟨?_,?_,?_,?_⟩<;>k_is)
  (case gm|gH|gn|fN|fh|gz|gy|gF|gC|gG|dB|dh|cA|gB|gg|gE|gA|gI|bS|dW|b9|cK|cj|cz|dn|bG|cC|eS|eQ|fH|fM|fP|fY|dq|di|bz|cT|bT|bh|aL|gk|gt|gw|gd|cI|cO|cH|du|bZ|ck|cf|cg|bE|aY|am|bj|aI|ak|ac|bf|aE|fB|fG|fO|gb|cm|dU|cU|bI|cN|bP|fU|fW|fR|fJ|ef|eh|eG|d8|eg|eo|eE|ee|dJ|dG|dF|dR|fx|fy|fA|fz|ge|gq|d7|cJ|dX|cD|de|eF|dC|eM|eP|eL|eJ|fS|fC|dm|ci|cP|b8|cR|cG|eI|eN|eK|eO|fL|fE|dY|ce|cY|b5|cE|dN|cF|bK|dr|dD|dZ|dA|eZ|ft|df|bO|cy|cL|dE|cw|cv|cr|cu|dQ|dO|b7|bC|bV|bM|bL|bJ|fZ|fX|fV|fj|fe|fo|bQ|bW|bU|cX|cS|cW|fQ|fK|fD|eW|eT|eV|fc|eU|eR|eB|eu|eA|fb|fm|e8|dI|dL|dH|dM|dk|dS|cV|cQ|cZ|fr|e9|fg|bo|aR|ay|av|ai|bY|aj|bN|aV|bH|ax|cq|bu|aP|aa|aN|aJ|ba|aF|bF|bw|bR|aq|af|aS|az|aC|ar|aG|au|aw|ao|ag|ad|ah|ae|aO|aD|aH|aA|al|bB|aM|bX|be|bA|aK|bD|aX|aB|aQ|bg|aZ|bb|aW|aU|aT=>k_is)
  (case eY|eD|d9|dP|cB=>refine⟨?_,?_,?_,?_,?_⟩<;>kit_is)
