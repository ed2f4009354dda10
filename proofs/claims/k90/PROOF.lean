import PyProof.Rows.All
import Wide.FinOn
import OpenK.KSplit
import KE.KSortTup
import KE.KDictOf
import KE.RegKIsAll
import KE.KEqDict
import KE.KRevIter
import KE.KDictList
import PySem.Challenge.RW_lotledger_k90_whole_sums
set_option Elab.async false
set_option linter.all false
set_option compiler.extract_closed false
set_option maxRecDepth 100000
set_option maxHeartbeats 4000000
local macro_rules | `(tactic| walk_at "o") => `(tactic| first | exact Or.inl rfl | exact Or.inr (Or.inl rfl) | exact Or.inr (Or.inr rfl))
local macro_rules | `(tactic| walk_at "p") => `(tactic| first | exact .inl rfl | exact .inr rfl | assumption)
noncomputable section
abbrev Fg_:=PySem.W.Frag
def za:= @List.length_map
def zc:= @List.mem_map
def zd:= @PySem.Heap.get?_push_of_some
def ze:= @PySem.wpAny_bind
def zf:= @if_neg
def zg:= @List.mem_cons_self
def zh:= @List.mem_of_getElem?
def zi:= @if_pos
def zj:= @List.not_mem_nil
def zk:= @List.getElem?_eq_some_iff
def zl:= @List.map_cons
def zm:= @Nat.le_refl
def zn:= @List.mem_cons_of_mem
def zo:= @List.getElem?_map
def zp:= @List.map_append
def zq:= @List.getElem?_eq_getElem
def zr:= @List.mem_singleton
def zt:= @List.size_toArray
def zu:= @List.map_map
def zv:= @PySem.Heap.lt_size
def zw:= @PySem.sizeLine_eq
def zx:= @List.mem_cons
def zy:= @Option.some.inj
def zA:= @PySem.wpAny_pure
def zB:= @PySem.Heap.get?_push_size
def zC:= @List.length_append
def zD:= @List.mem_append
def zE:= @Nat.ne_of_lt
def zF:= @List.mem_append_right
def zG:= @List.length_cons
def zH:= @decide_eq_true
def zI:= @List.sum_cons
def zJ:= @decide_eq_false
def zK:= @List.take_add_one
def zL:= @Nat.lt_of_lt_of_le
def zM:= @Nat.zero_le
def zN:= @List.nodup_cons
def zO:= @Bool.false_ne_true
def zP:= @PySem.F.plainAttrs_list
def zQ:= @List.map_congr_left
def zR:= @PySem.PassesOwn.never
def zS:= @Nat.le_trans
def zT:= @List.length_take
def zU:= @Int.emod_lt_of_pos
def zV:= @PySem.F.slot_list_append
def zW:= @PySem.F.type_list_append
def zX:= @List.take_length
def zY:= @List.pairwise_map
def zZ:= @Int.emod_nonneg
def z3:= @List.take_of_length_le
def z4:= @List.getElem?_append_right
def z5:= @List.filter_cons_of_pos
def z6:= @List.filter_cons_of_neg
def z7:= @PySem.Paired.length
def z8:= @Array.length_toList
def z9:= @List.getElem_of_mem
def ya:= @List.getElem?_append_left
def yb:= @PySem.wpAny_holding
def yc:= @List.getElem?_eq_none
def yd:= @PySem.F.plainAttrs_dict
def ye:= @List.getElem_map
def yf:= @of_decide_eq_true
def yg:= @List.mem_append_left
def yh:= @List.pairwise_iff_getElem
def yi:= @PySem.wpAny_mono
def yj:= @List.mem_filter
def yk:= @List.append_nil
def ym:= @PySem.Heap.get?_update_ne
def yn:= @List.length_singleton
def yo:= @List.length_filter_le
def yp:= @Bool.false_eq_true
def yq:= @PySem.wpAny_Call_Name_kw
def yr:= @PySem.W.kia_one
def yt:= @Nat.le_succ
def yu:= @Nat.lt_irrefl
def yv:= @Nat.lt_of_le_of_lt
def yw:= @List.filter_append
def yx:= @List.any_eq_true
def yy:= @Nat.pow_le_pow_right
def yz:= @Nat.ne_of_gt
def yA:= @List.mem_range
def yB:= @List.nodup_append
def yC:= @PySem.wpAny_truthy_bool
def yD:= @List.replicate_succ
def yE:= @List.filter_eq_self
def yF:= @Sum.inr.inj
def yG:= @Array.getElem?_toList
def yH:= @PySem.F.slot_dict_get
def yI:= @List.length_drop
def yJ:= @Nat.le_add_right
def yK:= @Option.isSome_iff_exists
def yL:= @List.append_assoc
def yM:= @List.Sublist.refl
def yN:= @PySem.wpAny_pyIter_list
def yO:= @List.foldl_cons
def yP:= @List.length_pos_iff
def yQ:= @PySem.Heap.get?_update_other
def yR:= @Int.le_refl
def yS:= @List.map_take
def yT:= @List.getElem_mem
def yU:= @Int.mul_nonneg
def yV:= @List.Nodup.sublist
def yW:= @List.mem_iff_getElem?
def yX:= @List.sum_append
def yY:= @PySem.wpAny_passesOwn
def yZ:= @List.mem_of_mem_take
def y0:= @List.pairwise_append
def y4:= @PySem.wpAny_newObj_type
def y6:= @List.sublist_append_left
def y8:= @PySem.mem_of_lookup
def y9:= @Int.mul_ediv_cancel
def zza:= @Bool.and_eq_true
def zzb:= @List.filter_cons
def zzc:= @List.length_eq_zero_iff
def zzd:= @PySem.wpAny_call_entry
def zze:= @Int.mul_le_mul_of_nonneg_left
def zzf:= @PySem.F.entry_dict_get
def zzg:= @PySem.call_meetsIn
def zzh:= @Bool.eq_iff_iff
def zzi:= @List.nil_append
def zzj:= @List.find?_cons
def zzk:= @List.length_nil
def zzl:= @Int.ediv_nonneg
def zzm:= @List.cons.inj
def zzn:= @PySem.F.slot_dict_pop
def zzo:= @List.take_append_drop
def zzp:= @List.eq_nil_or_concat
def zzq:= @List.concat_eq_append
def zzr:= @PySem.wpAny_tryCatch
def zzs:= @List.map_nil
def zzt:= @List.ext_getElem
def zzu:= @List.drop_eq_getElem_cons
def zzv:= @Array.getElem?_eq_getElem
def zzw:= @PySem.F.slot_dict_values
def zzx:= @List.length_erase_of_mem
def zzy:= @PySem.wpAny_newList
def zzz:= @PySem.wpAny_execs_nil
def zzA:= @PySem.W.callWith_K
def zzB:= @PySem.F.slot_dict_items
def zzC:= @Nat.le_of_lt
def zzD:= @List.getElem?_set_self
def zzE:= @PySem.Heap.size_push
def zzF:= @List.flatten_cons
def zzG:= @Option.map_eq_some_iff
def zzH:= @Nat.lt_succ_of_lt
def zzI:= @List.ext_getElem?
def zzJ:= @List.drop_of_length_le
def zzK:= @List.length_pos_of_mem
def zzL:= @PySem.wpAny_pyNext_list_item
def zzM:= @PySem.wpAny_Call_method
def zzN:= @List.length_replicate
def zzO:= @PySem.W.methodCall_KW
def zzP:= @List.getElem?_toArray
def zzQ:= @PySem.wpAny_pyNext_list_end
def zzR:= @Nat.lt_succ_self
def zzS:= @Int.ediv_le_ediv
def zzT:= @PySem.call_meets
def zzU:= @List.getElem?_set_ne
def zzV:= @Array.toArray_toList
def zzW:= @List.mem_erase_of_ne
def zzX:= @List.take_append_of_le_length
def zzY:= @Option.map_some
def zzZ:= @PySem.wpAny_specialOf
def zz0:= @List.filterMap_cons
def zz1:= @PySem.W.plainGet_of
def zz2:= @List.getElem?_range
def zz3:= @Nat.lt_trans
def zz4:= @Bool.false_and
def zz5:= @Array.perm_iff_toList_perm
def zz6:= @List.zip_cons_cons
def zz7:= @List.Perm.refl
def zz8:= @List.getD_eq_getElem?_getD
def zz9:= @Int.mul_le_mul
def yya:= @PySem.wpAny_seqItems
def yyb:= @Sum.inl.inj
def yyc:= @List.take_sublist
def yyd:= @Int.toNat_natCast
def yye:= @List.getElem?_inj
def yyf:= @PySem.wpAny_pyIter_slot
def yyg:= @PySem.wpAny_letGo
def yyh:= @PySem.wpAny_standAt
def yyi:= @List.getElem_inj
def yyj:= @PySem.W.makes_of
def yyk:= @List.lookup_cons
def yyl:= @PySem.Heap.size_update
def yym:= @Nat.le_of_eq
def yyn:= @Int.lt_trans
def yyo:= @PySem.wpAny_call
def yyp:= @PySem.wpAny_typeOf
def yyq:= @List.of_mem_zip
def yyr:= @Int.natCast_add
def yys:= @PySem.wpAny_updateSeq
def yyt:= @List.map_id
namespace L2
open PySem PySem.Spec PyProof.Rows
variable{A:Around}{C a b:Addr}{E:Value->Shared->Prop}{K:Fg_}{P:Program}{Q:Unit->Shared->Prop}{base h:Heap}{c e tg:Expr}{ch fp:List Addr}{f:Value->Value->Sem Value}{i t':Nat}{mg:Str->Option Value}{o:Obj}{op:CmpOp}{outer:List Env}{pins:List (Addr×Obj)}{pos:Pos}{q:Str->Option NameKind}{s:Shared}{u:Value}{us:List Value}{w:World}{x:Str}
abbrev Key:=Sum Int Str
noncomputable def WL:Key->Value->Bool
 |.inl k,v=>Value.isInt k v
 |.inr x,v=>Value.isStrOf x v
noncomputable def anP(w:World):Key->Int
 |.inl k=>hashInt k
 |.inr x=>hashStr w x
def mj:∀{k:Key}{v:Value},WL k v=true->(∃i t,k=Sum.inl i/\v=Value.int i t)\/(∃x t,k=Sum.inr x/\v=Value.str x t)
 |.inl i,v,h=>by
  obtain⟨t,e⟩:=Value.isInt_shape (k:=i) (v:=v) h;exact .inl ⟨i,t,rfl,e⟩
 |.inr x,v,h=>by
  obtain⟨t,e⟩:=Value.isStrOf_shape (x:=x) (v:=v) h;exact .inr ⟨x,t,rfl,e⟩
def ZW(i:Int)(t:Tok):WL (.inl i) (.int i t)=true:=by simp[WL,Value.isInt]
def ZQ(x:Str)(t:Tok):WL (.inr x) (.str x t)=true:=by simp[WL,Value.isStrOf]
def amf(a b:Int):decide ((Sum.inl a:Key)=Sum.inl b)=(a==b):=by
 by_cases e:a=b
 ·subst e;simp
 ·have h:¬(Sum.inl a:Key)=Sum.inl b:=λq=>e (yyb q)
  rw[zJ h];exact(beq_eq_false_iff_ne.mpr e).symm
def amb(a b:Str):decide ((Sum.inr a:Key)=Sum.inr b)=decide (a=b):=by
 by_cases e:a=b
 ·subst e;simp
 ·have h:¬(Sum.inr a:Key)=Sum.inr b:=λq=>e (yF q)
  rw[zJ h,zJ e]
def alm(a:Int)(b:Str):decide ((Sum.inl a:Key)=Sum.inr b)=false:=zJ (λq=>nomatch q)
def akZ(a:Str)(b:Int):decide ((Sum.inr a:Key)=Sum.inl b)=false:=zJ (λq=>nomatch q)
noncomputable def jU(prog:Program)(w:World):PySem.KeyKind prog w Key where
 is:=WL
 hash:=anP w
 inj:=λv a b ha hb=>by
  rcases mj ha with⟨i,t,rfl,rfl⟩|⟨x,t,rfl,rfl⟩
  ·rcases mj hb with⟨j,u,rfl,e⟩|⟨y,u,rfl,e⟩
   ·injection e with e1 _;rw[e1]
   ·exact nomatch e
  ·rcases mj hb with⟨j,u,rfl,e⟩|⟨y,u,rfl,e⟩
   ·exact nomatch e
   ·injection e with e1 _;rw[e1]
 byValue:=λk v h=>by
  rcases mj h with⟨i,t,rfl,rfl⟩|⟨x,t,rfl,rfl⟩<;>rfl
 pyHash:=λhv h=>by
  rcases mj hv with⟨i,t,rfl,rfl⟩|⟨x,t,rfl,rfl⟩
  ·exact wpAny_pyHash_int h
  ·exact wpAny_pyHash_str h
 eqBool:=λhu hv h=>by
  rcases mj hu with⟨i,t,rfl,rfl⟩|⟨x,t,rfl,rfl⟩
  ·rcases mj hv with⟨j,u,rfl,rfl⟩|⟨y,u,rfl,rfl⟩
   ·rw[amf]at h;exact wpAny_eqBool_int h
   ·rw[alm]at h;exact SeqAt.EqAt.int_str i t y u _ _ _ _ h
  ·rcases mj hv with⟨j,u,rfl,rfl⟩|⟨y,u,rfl,rfl⟩
   ·rw[akZ]at h;exact SeqAt.EqAt.str_int x t j u _ _ _ _ h
   ·rw[amb]at h;exact wpAny_eqBool_str h
 «strs»:=λk x t v h=>by
  rcases mj h with⟨i,u,rfl,e⟩|⟨y,u,rfl,e⟩
  ·exact nomatch e
  ·injection e with e1 _
   subst e1;cases v<;>rfl
def RJ(prog:Program)(w:World)(i:Int)(t:Tok):(jU prog w).is (.inl i) (.int i t)=true:=ZW i t
def Tc(prog:Program)(w:World)(x:Str)(t:Tok):(jU prog w).is (.inr x) (.str x t)=true:=ZQ x t
inductive V where
 |non|bl (b:Bool)|int (i:Int)|str (x:Str)|byt (b:Array UInt8)|flt (b:UInt64)|ref (a:Addr)|ty (n:String)
 deriving DecidableEq
def RelV:V->Value->Prop
 |.non,u=>u=Value.none
 |.bl b,u=>u=Value.bool b
 |.int i,u=>∃t,u=Value.int i t
 |.str x,u=>∃t,u=Value.str x t
 |.byt b,u=>∃t,u=Value.bytes b t
 |.flt b,u=>∃t,u=Value.float b t
 |.ref a,u=>u=Value.ref a
 |.ty n,u=>u=Value.type n
abbrev Vals:List V->List Value->Prop:=Paired RelV
theorem Vals.length{xs:List V}{us:List Value}(r:Vals xs us):xs.length=us.length:=z7 r
theorem Vals.get:∀{xs:List V}{us:List Value}{i:Nat}{x:V},Vals xs us->xs[i]? =some x->∃u,us[i]? =some u/\RelV x u
 |_,_,_,_,.nil,e=>by simp at e
 |_,_,0,_,.cons r _,e=>by simp at e;subst e;exact⟨_,rfl,r⟩
 |_,_,i+1,x,.cons _ t,e=>by
  obtain⟨u,h1,h2⟩:=Vals.get (i:=i) (x:=x) t (by simpa using e);exact⟨u,by simpa using h1,h2⟩
theorem Vals.set{x:V}{u:Value}(r:RelV x u):∀{xs:List V}{us:List Value}(i:Nat),Vals xs us->Vals (xs.set i x) (us.set i u)
 |_,_,_,.nil=> .nil
 |_,_,0,.cons _ t=> .cons r t
 |_,_,i+1,.cons q t=> .cons q (Vals.set r i t)
theorem Vals.append:∀{xs ys:List V}{us ws:List Value},Vals xs us->Vals ys ws->Vals (xs++ys) (us++ws)
 |_,_,_,_,.nil,s=>s
 |_,_,_,_,.cons r t,s=> .cons r (Vals.append t s)
theorem Vals.take:∀{xs:List V}{us:List Value}(n:Nat),Vals xs us->Vals (xs.take n) (us.take n)
 |_,_,0,_=> .nil
 |_,_,_+1,.nil=> .nil
 |_,_,n+1,.cons r t=> .cons r (Vals.take n t)
theorem Vals.drop:∀{xs:List V}{us:List Value}(n:Nat),Vals xs us->Vals (xs.drop n) (us.drop n)
 |_,_,0,r=>r
 |_,_,_+1,.nil=> .nil
 |_,_,n+1,.cons _ t=>Vals.drop n t
def KH:Option V->Option Value->Prop
 |some v,some u=>RelV v u
 |none,none=>True
 |_,_=>False
def KV{κ:Type}:List (κ×V)->List (κ×Value)->Prop:=Paired fun(p:κ×V)(q:κ×Value)=>p.1=q.1/\RelV p.2 q.2
noncomputable def kV:Key->V
 |.inl i=> .int i
 |.inr x=> .str x
inductive HO where
 |lst (xs:List V)
 |tup (xs:List V)
 |dK (kvs:List (Key×V))|dT (kvs:List (List Key×V))
 |set (S:Int->Bool) (n:Nat)
 |ins (C dx:Addr) (fs:List (Str×V))
 |own (x:Addr)
 |xd (fs:List (Str×V))
 |met (f x:Addr)
 |rng (lo hi:Int)
 |frz (o:Obj) (u:HO)
 |tbl (ps:Array Value)
 |ext (φ:Heap->Prop)
abbrev Hp:=Addr->Option HO
noncomputable def upd(H:Hp)(a:Addr)(o:HO):Hp:=λb=>if b=a then some o else H b
def jd{H:Hp}{o:HO}:upd H a o a=some o:=by unfold upd;rw[zi rfl]
def jn{H:Hp}{o:HO}(h:b≠a):upd H a o b=H b:=by unfold upd;rw[zf h]
def ana{H:Hp}{o u:HO}(h:H a=some o)(h':H b=some u)(d:o≠u):a≠b:=by
 intro e;subst e;rw[h]at h';exact d (zy h')
def jY{H:Hp}{o:HO}(h:H a=some o)(h':H b=none):a≠b:=by
 intro e;subst e;rw[h]at h';cases h'
section
variable(P:Program)(w:World)
def mO(H:Hp)(h:Heap)(a:Addr):HO->Prop
 |.lst xs=>xs.length<=sizeLine/\∃(its:List Value)(n:Nat),Vals xs its/\h.get? a=some {cls:=.type "list",data:=.seq its.toArray n}
 |.tup xs=>xs.length<=sizeLine/\∃its:List Value,Vals xs its/\IsTup h a its.toArray
 |.dK kvs=>kvs.length<=sizeLine/\(a==sysModules)=false/\∃vs,KV kvs vs/\h.DictOf (jU P w) a vs
 | .dT kvs=>kvs.length<=sizeLine/\(a==sysModules)=false/\∃xs:List (List Key×Addr×Value),
   Paired (fun(p:List Key×V)(q:List Key×Addr×Value)=>p.1=q.1/\H q.2.1=some (.tup (p.1.map kV))/\RelV p.2 q.2.2) kvs xs/\
   ∃o es ep,h.get? a=some o/\o.ExactDict/\o.data=.dict es ep/\es.toList=xs.map (entryOfKey (tupleKind (jU P w)))/\(xs.map (·.1)).Nodup
 |.set S n=>h.SetOf (intKind P w) a S n
 | .ins C dx fs=>H dx=some (.own a)/\fs.length<=1000/\dx≠a/\h.get? a=some (PySem.W.instObj C dx)/\
   ∃mA,h.Ns1 dx mA/\(∀f,KH (fs.lookup f) (mA f))/\PySem.Within mA (fs.map (·.1))
 |.own _=>∃o,h.get? a=some o
 |.xd fs=>∃mA,h.Ns1 a mA/\∀f,KH (fs.lookup f) (mA f)
 |.rng lo hi=>∃t u v,h.get? a=some {cls:=.type "range",data:=.fields #[.int lo t,.int hi u,.int 1 v]}
 |.frz o u=>h.get? a=some o/\mO H h a u
 |.tbl ps=>h.get? a=some {cls:=.none,data:=.fields ps}
 |.met f x=>h.get? a=some (PySem.W.methodObj (.ref f) (.ref x))
 |.ext φ=>φ h/\(∃o,h.get? a=some o)/\∀h1 h2:Heap,φ h1->(∀o,h1.get? a=some o->h2.get? a=some o)->φ h2
def HOk(H:Hp)(h:Heap):Prop:=∀a o,H a=some o->mO P w H h a o
end
section
variable{P:Program}{w:World}{H H':Hp}{h h':Heap}{a:Addr}{o:HO}
theorem mO.lt(x:mO P w H h a o):a<h.objs.size:=by
 cases o with
 |lst xs=>obtain⟨_,_,_,_,e⟩:=x;exact zv e
 |tup xs=>obtain⟨_,_,_,p⟩:=x;exact p.lt
 |dK kvs=>obtain⟨_,_,_,_,o,_,_,e,_⟩:=x;exact zv e
 |dT kvs=>obtain⟨_,_,_,_,o,_,_,e,_⟩:=x;exact zv e
 |set S n=>obtain⟨o,_,_,_,e,_⟩:=x;exact zv e
 |ins C dx fs=>obtain⟨_,_,_,e,_⟩:=x;exact zv e
 |own y=>obtain⟨_,e⟩:=x;exact zv e
 |xd fs=>obtain⟨_,⟨_,_,_,e,_⟩,_⟩:=x;exact zv e
 |rng lo hi=>obtain⟨_,_,_,e⟩:=x;exact zv e
 |frz ob u=>obtain⟨e,_⟩:=x;exact zv e
 |tbl ps=>exact zv (show h.get? a=some _ from x)
 |met f y=>exact zv (show h.get? a=some _ from x)
 |ext φ=>obtain⟨_,⟨_,e⟩,_⟩:=x;exact zv e
theorem Paired.mapP{α β:Type}{F G:α->β->Prop}:∀{l₁:List α}{l₂:List β},Paired F l₁ l₂->(∀a b,F a b->G a b)->Paired G l₁ l₂
 |_,_,.nil,_=> .nil
 |_,_,.cons r t,f=> .cons (f _ _ r) (Paired.mapP t f)
def mO.stay(x:mO P w H h a o)(k:∀b u,(b=a\/H b=some (.own a))->h.get? b=some u->h'.get? b=some u)
  (ho:∀b,H b=some (.own a)->H' b=some (.own a)) (ht:∀b xs,H b=some (.tup xs)->H' b=some (.tup xs)):mO P w H' h' a o:=by
 induction o with
 |lst xs=>obtain⟨z,its,n,r,e⟩:=x;exact⟨z,its,n,r,k _ _ (.inl rfl) e⟩
 |tup xs=>obtain⟨z,its,r,ob,e,c⟩:=x;exact⟨z,its,r,ob,k _ _ (.inl rfl) e,c⟩
 |dK kvs=>obtain⟨z,y,vs,r,ob,es,ep,e,c⟩:=x;exact⟨z,y,vs,r,ob,es,ep,k _ _ (.inl rfl) e,c⟩
 |dT kvs=>
  obtain⟨z,y,xs,r,ob,es,ep,e,c⟩:=x;exact⟨z,y,xs,Paired.mapP r λp q z=>⟨z.1,ht _ _ z.2.1,z.2.2⟩,ob,es,ep,k _ _ (.inl rfl) e,c⟩
 |set S n=>obtain⟨ob,es,ep,t,e,c⟩:=x;exact⟨ob,es,ep,t,k _ _ (.inl rfl) e,c⟩
 |ins C dx fs=>
  obtain⟨d,z,ne,e,mA,⟨od,es,ep,e2,c⟩,r⟩:=x;exact⟨ho _ d,z,ne,k _ _ (.inl rfl) e,mA,⟨od,es,ep,k _ _ (.inr d) e2,c⟩,r⟩
 |own y=>obtain⟨ob,e⟩:=x;exact⟨ob,k _ _ (.inl rfl) e⟩
 |xd fs=>obtain⟨mA,⟨od,es,ep,e,c⟩,r⟩:=x;exact⟨mA,⟨od,es,ep,k _ _ (.inl rfl) e,c⟩,r⟩
 |rng lo hi=>obtain⟨t,u,v,e⟩:=x;exact⟨t,u,v,k _ _ (.inl rfl) e⟩
 |frz ob u ih=>obtain⟨e,q⟩:=x;exact⟨k _ _ (.inl rfl) e,ih q⟩
 |tbl ps=>
  have e:h.get? a=some {cls:=.none,data:=.fields ps}:=x;show h'.get? a=some {cls:=.none,data:=.fields ps};exact k a _ (.inl rfl) e
 |met f y=>
  have e:h.get? a=some (PySem.W.methodObj (.ref f) (.ref y)):=x;show h'.get? a=some (PySem.W.methodObj (.ref f) (.ref y));exact k a _ (.inl rfl) e
 |ext φ=>obtain⟨p,⟨o,e⟩,st⟩:=x;exact⟨st _ _ p λo q=>k _ _ (.inl rfl) q,⟨o,k _ _ (.inl rfl) e⟩,st⟩
theorem HOk.lt(x:HOk P w H h)(e:H a=some o):a<h.objs.size:=(x a o e).lt
def HOk.fresh(x:HOk P w H h)(e:h.objs.size<=a):H a=none:=by
 cases q:H a with
 |none=>rfl
 |some u=>exact absurd (zL (x.lt q) e) (yu _)
def HOk.kept(x:HOk P w H h)(k:∀b u,h.get? b=some u->h'.get? b=some u):HOk P w H h':=λa o e=>
 (x a o e).stay (λb u _ q=>k b u q) (λ_ q=>q) λ_ _ q=>q
def HOk.laid(x:HOk P w H h)(k:∀b u,h.get? b=some u->h'.get? b=some u)(hp:h.objs.size<=a)(z:mO P w (upd H a o) h' a o):HOk P w (upd H a o) h':=λb u e=>by
 have hn:=x.fresh hp;by_cases hb:b=a
 ·subst hb;rw[jd]at e;cases e;exact z
 ·rw[jn hb]at e
  exact(x b u e).stay (λc v _ q=>k c v q) (λc q=>by rw[jn (jY q hn)];exact q) λc xs q=>by rw[jn (jY q hn)];exact q
end
def Rd(H:Hp)(a:Addr)(u:HO):Prop:=H a=some u\/∃o,H a=some (.frz o u)
def Rd.of{H:Hp}{u:HO}(h:H a=some u):Rd H a u:=.inl h
def Rd.ok{H:Hp}{u:HO}(r:Rd H a u)(x:HOk P w H h):mO P w H h a u:=by
 rcases r with r|⟨o,r⟩
 ·exact x a u r
 ·obtain⟨_,q⟩:=x a _ r
  exact q
def Mut:Option HO->Prop
 |some (.lst _)=>True
 |some (.dK _)=>True
 |some (.dT _)=>True
 |some (.set _ _)=>True
 |some (.ins _ _ _)=>True
 |some (.ext _)=>True
 |_=>False
section
variable{P:Program}{w:World}{H:Hp}{h h':Heap}{x e:Addr}{o':HO}
def HOk.write(ok:HOk P w H h)(mu:Mut (H x))(he:e=x\/H e=some (.own x))(k:∀b u,b≠e->h.get? b=some u->h'.get? b=some u)(ad:∃u,h'.get? e=some u)
  (ae:mO P w (upd H x o') h' x o'):HOk P w (upd H x o') h':=λb u q=>by
 have ab:∀c y,H c=some (.own y)->c≠x:=λc y r z=>by subst z;rw[r]at mu;exact mu
 have ac:∀c xs,H c=some (.tup xs)->c≠x:=λc xs r z=>by subst z;rw[r]at mu;exact mu
 by_cases hb:b=x
 ·subst hb;rw[jd]at q;cases q;exact ae
 ·rw[jn hb]at q
  by_cases aa:b=e
  ·have q':H b=some (.own x):=by
    rcases he with z|z
    ·exact absurd (aa.trans z) hb
    ·rw[aa];exact z
   rw[q]at q';cases q';obtain⟨v,hv⟩:=ad;exact⟨v,by rw[aa];exact hv⟩
  ·refine(ok b u q).stay (λc v hc r=>k c v ?_ r) (λc r=>by rw[jn (ab c b r)];exact r) λc xs r=>by rw[jn (ac c xs r)];exact r
   rcases hc with rfl|hc
   ·exact aa
   ·rintro rfl
    rcases he with z|z
    ·exact ab c b hc z
    ·rw[hc]at z;cases z;exact hb rfl
end
structure Un(fs ex:List Addr)(H H':Hp)(h h':Heap):Prop where
 keep:∀b o,h.get? b=some o->H b=none->b∉fs->b∉ex->h'.get? b=some o
 slot:∀b o,h.get? b=some o->H b=none->b∈fs->b∉ex->∃sl,h'.get? b=some {o with slots:=sl}
 free:∀b o,h.get? b=some o->H b=none->b∉ex->H' b=none
 there:∀b o,h.get? b=some o->b∉ex->∃o',h'.get? b=some o'
 tups:∀b xs,H b=some (.tup xs)->H' b=some (.tup xs)
 frzs:∀b o u,H b=some (.frz o u)->H' b=some (.frz o u)
 tbls:∀b ps,H b=some (.tbl ps)->∃more,H' b=some (.tbl (ps++more))
section
variable{fs fs' ex ex':List Addr}{H H1 H2:Hp}{h h1 h2 h':Heap}{a x e:Addr}{o:HO}
def Un.any(u:Un fs ex H H1 h h1){z:Obj}(q:h.get? b=some z)(n:H b=none)(hx:b∉ex):∃sl,h1.get? b=some {z with slots:=sl}:=by
 by_cases hb:b∈fs
 ·exact u.slot b z q n hb hx
 ·exact⟨z.slots,u.keep b z q n hb hx⟩
def Un.trans(a:Un fs ex H H1 h h1)(b:Un fs ex H1 H2 h1 h2):Un fs ex H H2 h h2 where
 keep:=λc z q n hc hx=>b.keep c z (a.keep c z q n hc hx) (a.free c z q n hx) hc hx
 slot:=λc z q n hc hx=>by
  obtain⟨sl,e1⟩:=a.slot c z q n hc hx;obtain⟨aa,e2⟩:=b.slot c _ e1 (a.free c z q n hx) hc hx;exact⟨aa,e2⟩
 free:=λc z q n hx=>by
  obtain⟨o',e1⟩:=a.there c z q hx;exact b.free c o' e1 (a.free c z q n hx) hx
 there:=λc z q hx=>by
  obtain⟨o',e1⟩:=a.there c z q hx;exact b.there c o' e1 hx
 tups:=λc xs q=>b.tups c xs (a.tups c xs q)
 frzs:=λc z xs q=>b.frzs c z xs (a.frzs c z xs q)
 tbls:=λc ps q=>by
  obtain⟨m1,e1⟩:=a.tbls c ps q;obtain⟨m2,e2⟩:=b.tbls c _ e1;exact⟨m1++m2,by rw[e2,Array.append_assoc]⟩
def Un.kept(k:∀b u,h.get? b=some u->h'.get? b=some u):Un fs ex H H h h':=
 ⟨λb z q _ _ _=>k b z q,λb z q _ _ _=>⟨z.slots,k b z q⟩,λ_ _ _ n _=>n,λb z q _=>⟨z,k b z q⟩,λ_ _ q=>q,λ_ _ _ q=>q,λ_ ps q=>⟨#[],by rw[q];simp⟩⟩
def Un.refl:Un fs ex H H h h:=Un.kept λ_ _ q=>q
def Un.laid(k:∀b u,h.get? b=some u->h'.get? b=some u)(z:h.objs.size<=a)(hn:H a=none):Un fs ex H (upd H a o) h h' where
 keep:=λb u q _ _ _=>k b u q
 slot:=λb u q _ _ _=>⟨u.slots,k b u q⟩
 free:=λb u q n _=>by rw[jn (zE (zL (zv q) z))];exact n
 there:=λb u q _=>⟨u,k b u q⟩
 tups:=λb xs q=>by rw[jn (jY q hn)];exact q
 frzs:=λb u xs q=>by rw[jn (jY q hn)];exact q
 tbls:=λb ps q=>⟨#[],by rw[jn (jY q hn),q];simp⟩
def Un.write(mu:Mut (H x))(he:e=x\/H e=some (.own x))(k:∀b u,b≠e->h.get? b=some u->h'.get? b=some u)(ab:∃u,h'.get? e=some u):Un fs ex H (upd H x o) h h':=by
 have hx:∀b,H b=none->b≠x:=λb n z=>by subst z;rw[n]at mu;exact mu
 have hb:∀b,H b=none->b≠e:=λb n z=>by
  subst z;rcases he with r|r
  ·exact hx b n r
  ·rw[n]at r;cases r
 have hm:∀b u,H b=some u->¬Mut (some u)->b≠x:=λb u q nm z=>by subst z;rw[q]at mu;exact nm mu
 refine ⟨λb u q n _ _=>k b u (hb b n) q,λb u q n _ _=>⟨u.slots,k b u (hb b n) q⟩,λb u q n _=>by rw[jn (hx b n)];exact n,λb u q _=>?_,
  λb xs q=>by rw[jn (hm b _ q λz=>z)];exact q,λb u xs q=>by rw[jn (hm b _ q λz=>z)];exact q,λb ps q=>⟨#[],by rw[jn (hm b _ q λz=>z),q];simp⟩⟩
 by_cases aa:b=e
 ·subst aa;exact ab
 ·exact⟨u,k b u aa q⟩
end
noncomputable def trk(h:Heap)(H:Hp):List Addr:=(List.range h.objs.size).filter λa=>(H a).isSome
noncomputable def aaG(h:Heap)(H:Hp):Heap:=PySem.W.hideAll h (trk h H)
def aam(h:Heap)(H:Hp):(aaG h H).objs.size=h.objs.size:=PySem.W.hideAll_size _ _
def aif{H:Hp}(e:h.get? b=some o)(n:H b=none):(aaG h H).get? b=some o:=
 PySem.W.hideAll_get _ e λhm=>by
  have q:(H b).isSome=true:=(yj.mp hm).2;rw[n]at q;simp at q
def akq{H:Hp}(e:(aaG h H).get? b=some o):h.get? b=some o/\H b=none:=by
 have e':h.get? b=some o:=PySem.W.of_hideAll (trk h H) e;refine⟨e',?_⟩
 cases q:H b with
 |none=>rfl
 |some x=>
  have hm:b∈trk h H:=yj.mpr ⟨yA.mpr (zv e'),by simp[q]⟩;have z:(aaG h H).get? b=none:=PySem.W.hideAll_none (trk h H) hm;rw[z]at e;cases e
noncomputable def ajP(g h:Heap)(L:Addr):List (Addr×Obj):=(List.range h.objs.size).filterMap λa=>if a=L\/(g.get? a).isSome=true then none else(h.get? a).map λo=>(a,o)
noncomputable def rest(g h:Heap)(L d:Addr):List (Addr×Obj):=(ajP g h L).filter λp=>decide (p.1≠d)
structure Mod(K:Fg_)(mg:Str->Option Value)(base:Heap):Prop where
 kin:K.In base
 glob:base.Ns mainGlobals mg
 blt:∃mb,base.Ns builtinsNs mb/\∀x:Str,x≠ "__name__" ->mb x=bootBuiltins x
 nolimit:base.NoLimit
structure Cx where
 prog:Program
 w:World
 K:Fg_
 mg:Str->Option Value
 base:Heap
 A:Around
 N:List Str
 s₀:Shared
 H₀:Hp
 env:Env
 outer:List Env
 stack:List Env
 ex:List Addr
 fn:Str->Bool
 calm:Bool
 pn:List (Addr×Obj)
 xe:Value->Shared->Prop
noncomputable def frs(l:List Env):List Addr:=l.filterMap (·.frame)
abbrev Cx.fs(X:Cx):List Addr:=frs X.outer
def Vis(sc:Scope)(x:Str):Prop:=sc.names.lookup x=some .local\/sc.names.lookup x=some .cell\/sc.names.lookup x=some .free
def Loc(sc:Scope)(x:Str):Prop:=sc.names.lookup x=some .local\/sc.names.lookup x=some .cell
def Look(env:Env)(h:Heap)(m:Str->Option Value)(x:Str)(u:Value):Prop:=
 (env.kindOf x=some .local/\m x=some u)\/((env.kindOf x=some .cell\/env.kindOf x=some .free)/\∃c,env.cells.lookup x=some c/\h.IsCell c (some u))
structure Cx.Ok(X:Cx):Prop where
 mod:Mod X.K X.mg X.base
 kind:X.env.scope.kind=.function
 glob:X.env.globals=mainGlobals
 blt:X.env.builtins=builtinsNs
 above:X.s₀.heap.objs.size<=X.env.locals
 inj:∀x y c,X.env.cells.lookup x=some c->X.env.cells.lookup y=some c->x=y
 has:∀x,(X.env.kindOf x=some .cell\/X.env.kindOf x=some .free)->∃c,X.env.cells.lookup x=some c
 cab:∀x c,X.fn x=true->X.env.cells.lookup x=some c->X.s₀.heap.objs.size<=c
 hd:X.calm=true->X.A.handled=none
 frames:X.A.frames=some X.stack
 stk:X.stack=X.outer\/(X.stack=X.env::X.outer/\X.env.frame=some X.env.locals)
 exf:∀b∈X.ex,b≠X.env.locals/\∀x c,X.env.cells.lookup x=some c->c≠b
 bs:∀b o,X.base.get? b=some o->X.s₀.heap.get? b=some o/\X.H₀ b=none
 bsz:X.base.objs.size<=X.s₀.heap.objs.size
 noex:∀b o,X.base.get? b=some o->b∉X.ex
 exfs:∀b∈X.ex,b∉X.fs
 funs:X.s₀.heap.FunFrames X.base X.outer
 frf:∀b∈X.fs,X.H₀ b=none
structure Inv(X:Cx)(pins:List (Addr×Obj))(σ:List (Option V))(H:Hp)(s:Shared):Prop where
 ok:X.Ok
 os:s.os=X.s₀.os
 bare:AllBare s.gens
 base:Un X.fs X.ex X.H₀ H X.s₀.heap s.heap
 loc:∃m,s.heap.Ns X.env.locals m/\∀(i:Nat)(x:Str)(v:V),X.N[i]? =some x->σ[i]? =some (some v)->Vis X.env.scope x->∃u,RelV v u/\Look X.env s.heap m x u
 cell:∀x c,X.env.cells.lookup x=some c->∃v,s.heap.IsCell c v
 free:H X.env.locals=none
 freeC:∀x c,X.env.cells.lookup x=some c->H c=none
 pin:∀p∈X.pn++pins,s.heap.get? p.1=some p.2/\H p.1=none/\p.1≠X.env.locals/\p.1∉X.fs/\∀v,p.2.data≠.cell v
 hok:HOk X.prog X.w H s.heap
 len:σ.length=X.N.length
section
variable{X:Cx}{pins:List (Addr×Obj)}{σ:List (Option V)}{H H':Hp}{s:Shared}{h':Heap}
def Cx.Ok.nofr(ok:X.Ok)(e:X.base.get? b=some o):b∉X.fs:=λq=>by
 have:=(ok.funs.mem q).1;rw[e]at this;cases this
theorem Inv.bs(I:Inv X pins σ H s):∀b o,X.base.get? b=some o->s.heap.get? b=some o/\H b=none:=λb o e=>
 ⟨I.base.keep b o (I.ok.bs b o e).1 (I.ok.bs b o e).2 (I.ok.nofr e) (I.ok.noex b o e),I.base.free b o (I.ok.bs b o e).1 (I.ok.bs b o e).2 (I.ok.noex b o e)⟩
def Inv.bk(I:Inv X pins σ H s):∀b o,X.base.get? b=some o->s.heap.get? b=some o:=λb o e=>(I.bs b o e).1
theorem Inv.mod(I:Inv X pins σ H s):Mod X.K X.mg X.base:=I.ok.mod
def Inv.kIn(I:Inv X pins σ H s):X.K.In s.heap:=I.ok.mod.kin.keeps I.bk
theorem Inv.lt(I:Inv X pins σ H s):X.env.locals<s.heap.objs.size:=let⟨_,hn,_⟩:=I.loc;hn.lt
def Inv.sz(I:Inv X pins σ H s):X.s₀.heap.objs.size<=s.heap.objs.size:=zS I.ok.above (zzC I.lt)
def Inv.nofs(I:Inv X pins σ H s)(h:s.heap.objs.size<=a):a∉X.fs:=λq=>by
 obtain⟨_,o,z,_⟩:=I.ok.funs.mem q;exact absurd (zL (zv z) (zS I.sz h)) (yu _)
def Inv.cne(I:Inv X pins σ H s):∀x c,X.env.cells.lookup x=some c->c≠X.env.locals:=λx c e z=>by
 obtain⟨v,o,ho,hd⟩:=I.cell x c e;obtain⟨m,⟨o',es,ep,aa,q,_⟩,_⟩:=I.loc;rw[z,aa]at ho;cases ho;rw[q]at hd;cases hd
theorem Inv.funs(I:Inv X pins σ H s):s.heap.FunFrames X.base X.outer:=by
 have q:∀(l:List Env),(∀b∈frs l,b∈X.fs)->X.s₀.heap.FunFrames X.base l->s.heap.FunFrames X.base l:=by
  intro l
  induction l with
  |nil=>intro _ _;trivial
  |cons env r ih=>
   intro hs hl;obtain⟨hk,⟨L,o,hf,hn,ho,hd⟩,hr⟩:=hl;have hL:L∈X.fs:=hs L (by unfold frs;rw[zz0,hf];exact zg);obtain⟨sl,e⟩:=I.base.slot L o ho (I.ok.frf L hL) hL λz=>I.ok.exfs L z hL;exact⟨hk,⟨L,_,hf,hn,e,hd⟩,ih (λb hb=>hs b (by unfold frs;rw[zz0,hf];exact zn _ hb)) hr⟩
 exact q X.outer (λ_ hb=>hb) I.ok.funs
theorem Inv.stack(I:Inv X pins σ H s):s.heap.FunFrames X.base X.stack:=by
 rcases I.ok.stk with e|⟨e,q⟩
 ·rw[e];exact I.funs
 ·rw[e]
  obtain⟨m,hn,_⟩:=I.loc;refine .cons (by rw[I.ok.kind];decide) q hn ?_ I.funs;exact Heap.get?_none_of_le (zS I.ok.bsz I.ok.above)
def Inv.stkSub(I:Inv X pins σ H s):∀b∈frs X.stack,b∈X.env.locals::X.fs:=λb q=>by
 rcases I.ok.stk with e|⟨e,z⟩
 ·rw[e]at q;exact zn _ q
 ·rw[e]at q
  unfold frs at q;rw[zz0,z]at q;exact q
def Inv.stkFree(I:Inv X pins σ H s):∀b∈frs X.stack,H b=none:=λb q=>by
 rcases zx.mp (I.stkSub b q)with e|q
 ·rw[e];exact I.free
 ·obtain⟨_,o,ho,_⟩:=I.ok.funs.mem q
  exact I.base.free b o ho (I.ok.frf b q) λz=>I.ok.exfs b z q
def Inv.step{g':Array GenState}{t':Nat}{d':Drawn}{ch:List Addr}(I:Inv X pins σ H s)
  (ab:∀b∈ch,(b∈X.ex\/X.s₀.heap.objs.size<=b)/\b≠X.env.locals/\(∀x c,X.env.cells.lookup x=some c->c≠b)/\∀p∈X.pn++pins,p.1≠b)
  (keep:∀b o,b≠X.env.locals->b∉X.fs->b∉ch->s.heap.get? b=some o->H b=none->h'.get? b=some o)
  (slot:∀b o,b≠X.env.locals->b∈X.fs->b∉ch->s.heap.get? b=some o->H b=none->∃sl,h'.get? b=some {o with slots:=sl}) (free:∀b o,b∉ch->s.heap.get? b=some o->H b=none->H' b=none)
  (there:∀b o,b∉ch->s.heap.get? b=some o->∃o',h'.get? b=some o')
  (tups:∀b xs,H b=some (.tup xs)->H' b=some (.tup xs)) (frzs:∀b o u,H b=some (.frz o u)->H' b=some (.frz o u)) (tbls:∀b ps,H b=some (.tbl ps)->∃af,H' b=some (.tbl (ps++af)))
  (ns:∀m,s.heap.Ns X.env.locals m->h'.Ns X.env.locals m) (hok:HOk X.prog X.w H' h') (hg:AllBare g'):
  Inv X pins σ H' {s with heap:=h',gens:=g',drawn:=d',toks:=t'}:=by
 have ae:∀b o,X.s₀.heap.get? b=some o->b≠X.env.locals:=λb o e=>zE (zL (zv e) I.ok.above)
 have ad:∀b o,X.s₀.heap.get? b=some o->b∉X.ex->b∉ch:=λb o e hx hb=>by
  rcases(ab b hb).1 with z|z
  ·exact hx z
  ·exact absurd (zL (zv e) z) (yu _)
 have aa:∀x c,X.env.cells.lookup x=some c->∀v,s.heap.IsCell c v->h'.IsCell c v:=λx c e v ⟨o,ho,hd⟩=>by
  have ac:c∉ch:=λz=>(ab c z).2.2.1 x c e rfl;by_cases hc:c∈X.fs
  ·obtain⟨sl,q⟩:=slot c o (I.cne x c e) hc ac ho (I.freeC x c e)
   exact⟨_,q,hd⟩
  ·exact⟨o,keep c o (I.cne x c e) hc ac ho (I.freeC x c e),hd⟩
 refine⟨I.ok,I.os,hg,⟨λb o e n hb hx=>?_,λb o e n hb hx=>?_,λb o e n hx=>?_,λb o e hx=>?_,λb xs e=>tups b xs (I.base.tups b xs e),λb o xs e=>frzs b o xs (I.base.frzs b o xs e),λb ps e=>?_⟩,?_,λx c e=>?_,?_,λx c e=>?_,λp hp=>?_,hok,I.len⟩
 ·exact keep b o (ae b o e) hb (ad b o e hx) (I.base.keep b o e n hb hx) (I.base.free b o e n hx)
 ·obtain⟨sl,e1⟩:=I.base.slot b o e n hb hx
  obtain⟨ag,e2⟩:=slot b _ (ae b o e) hb (ad b o e hx) e1 (I.base.free b o e n hx);exact⟨ag,e2⟩
 ·obtain⟨o',e1⟩:=I.base.there b o e hx
  exact free b o' (ad b o e hx) e1 (I.base.free b o e n hx)
 ·obtain⟨o',e1⟩:=I.base.there b o e hx
  exact there b o' (ad b o e hx) e1
 ·obtain⟨m1,e1⟩:=I.base.tbls b ps e
  obtain⟨m2,e2⟩:=tbls b _ e1;exact⟨m1++m2,by rw[e2,Array.append_assoc]⟩
 ·obtain⟨m,hn,hl⟩:=I.loc
  refine⟨m,ns m hn,λi x v e1 e2 e3=>?_⟩;obtain⟨u,r,l⟩:=hl i x v e1 e2 e3;refine⟨u,r,?_⟩;rcases l with l|⟨k,c,e,z⟩
  ·exact .inl l
  ·exact .inr ⟨k,c,e,aa x c e _ z⟩
 ·obtain⟨v,z⟩:=I.cell x c e
  exact⟨v,aa x c e v z⟩
 ·obtain⟨m,⟨o,_,_,ho,_⟩,_⟩:=I.loc
  exact free _ o (λz=>(ab _ z).2.1 rfl) ho I.free
 ·obtain⟨v,o,ho,hd⟩:=I.cell x c e
  exact free c o (λz=>(ab c z).2.2.1 x c e rfl) ho (I.freeC x c e)
 ·obtain⟨e,n,ne,nf,d⟩:=I.pin p hp
  have ac:p.1∉ch:=λz=>(ab p.1 z).2.2.2 p hp rfl;exact⟨keep p.1 p.2 ne nf ac e n,free p.1 p.2 ac e n,ne,nf,d⟩
def Inv.un(I:Inv X pins σ H s)(u:Un X.fs [] H H' s.heap h')(hok:HOk X.prog X.w H' h'):Inv X pins σ H' {s with heap:=h',toks:=t'}:=by
 obtain⟨m,⟨o,es,ep,ho,r⟩,_⟩:=id I.loc;obtain⟨sl,hL⟩:=u.any ho I.free (by simp)
 exact I.step (g':=s.gens) (d':=s.drawn) (ch:=[]) (λ_ z=>nomatch z) (λb o _ hb _ e n=>u.keep b o e n hb (by simp)) (λb o _ hb _ e n=>u.slot b o e n hb (by simp)) (λb o _ e n=>u.free b o e n (by simp)) (λb o _ e=>u.there b o e (by simp)) u.tups u.frzs u.tbls (λm' hm=>by
  obtain⟨o',ab,aa,q,r'⟩:=hm;rw[ho]at q;cases q;exact⟨_,ab,aa,hL,r'⟩) hok I.bare
def Inv.call{g':Array GenState}{t':Nat}{d':Drawn}(I:Inv X pins σ H s)(u:Un (frs X.stack) ch H H' s.heap h')(hok:HOk X.prog X.w H' h')(hg:AllBare g')
  (aa:∀b∈ch,(b∈X.ex\/X.s₀.heap.objs.size<=b)/\b≠X.env.locals/\(∀x c,X.env.cells.lookup x=some c->c≠b)/\∀p∈X.pn++pins,p.1≠b):
  Inv X pins σ H' {s with heap:=h',gens:=g',drawn:=d',toks:=t'}:=by
 obtain⟨m,⟨o,es,ep,ho,r⟩,_⟩:=id I.loc;obtain⟨sl,hL⟩:=u.any ho I.free λz=>(aa _ z).2.1 rfl
 exact I.step (ch:=ch) aa (λb o hL hb q e n=>u.keep b o e n (λz=>(zx.mp (I.stkSub b z)).elim hL hb) q) (λb o _ _ q e n=>u.any e n q) (λb o q e n=>u.free b o e n q) (λb o q e=>u.there b o e q) u.tups u.frzs u.tbls (λm' hm=>by
  obtain⟨o',ad,ac,ab,r'⟩:=hm;rw[ho]at ab;cases ab;exact⟨_,ad,ac,hL,r'⟩) hok hg
def Inv.turned{t':Nat}{it:Addr}(I:Inv X pins σ H s)(k:∀b o,b≠it->s.heap.get? b=some o->h'.get? b=some o)(hn:H it=none)(hL:it≠X.env.locals)
  (h1:it∈X.ex\/X.s₀.heap.objs.size<=it) (h2:∀x c,X.env.cells.lookup x=some c->c≠it) (h3:∀p∈X.pn++pins,p.1≠it):Inv X pins σ H {s with heap:=h',toks:=t'}:=by
 have aa:∀b u,H b=some u->b≠it:=λb u e z=>by rw[z,hn]at e;cases e
 refine I.step (g':=s.gens) (d':=s.drawn) (ch:=[it]) (λb hb=>?_) (λb o _ _ hc e _=>k b o (λz=>hc (by simp[z])) e) (λb o _ _ hc e _=>⟨o.slots,k b o (λz=>hc (by simp[z])) e⟩) (λ_ _ _ _ n=>n)
  (λb o hc e=>⟨o,k b o (λz=>hc (by simp[z])) e⟩) (λ_ _ e=>e) (λ_ _ _ e=>e) (λb ps e=>⟨#[],by rw[e];simp⟩) (λm hm=>?_) (λb u e=>?_) I.bare
 ·have e:b=it:=by simpa using hb
  subst e;exact⟨h1,hL,h2,h3⟩
 ·obtain⟨o,es,ep,ho,r⟩:=hm
  exact⟨o,es,ep,k _ o (Ne.symm hL) ho,r⟩
 ·refine(I.hok b u e).stay (λc v hc q=>k c v ?_ q) (λ_ q=>q) λ_ _ q=>q
  rcases hc with z|z
  ·rw[z];exact aa b u e
  ·exact aa c _ z
def Inv.tok(I:Inv X pins σ H s)(t:Nat):Inv X pins σ H {s with toks:=t}:=I.un (h':=s.heap) (t':=t) Un.refl I.hok
theorem Inv.kept{t':Nat}(I:Inv X pins σ H s)(k:∀b u,s.heap.get? b=some u->h'.get? b=some u):Inv X pins σ H {s with heap:=h',toks:=t'}:=I.un (Un.kept k) (I.hok.kept k)
theorem Inv.laid{a:Addr}{o:HO}{t':Nat}(I:Inv X pins σ H s)(k:∀b u,s.heap.get? b=some u->h'.get? b=some u)(z:s.heap.objs.size<=a)(q:mO X.prog X.w (upd H a o) h' a o):
  Inv X pins σ (upd H a o) {s with heap:=h',toks:=t'}:=I.un (Un.laid k z (I.hok.fresh z)) (I.hok.laid k z q)
theorem Inv.write{x e:Addr}{o:HO}{t':Nat}(I:Inv X pins σ H s)(mu:Mut (H x))(he:e=x\/H e=some (.own x))(k:∀b u,b≠e->s.heap.get? b=some u->h'.get? b=some u)(q:∃u,h'.get? e=some u)
  (z:mO X.prog X.w (upd H x o) h' x o):Inv X pins σ (upd H x o) {s with heap:=h',toks:=t'}:=I.un (Un.write mu he k q) (I.hok.write mu he k q z)
def Inv.pins_of{q:List (Addr×Obj)}(I:Inv X pins σ H s)(h:∀p∈q,s.heap.get? p.1=some p.2/\H p.1=none/\p.1≠X.env.locals/\p.1∉X.fs/\∀v,p.2.data≠.cell v):Inv X q σ H s:=
 ⟨I.ok,I.os,I.bare,I.base,I.loc,I.cell,I.free,I.freeC,λp hp=>(zD.mp hp).elim (λz=>I.pin p (yg _ z)) (h p),I.hok,I.len⟩
def Uy{N:List Str}(q:N.Nodup){j:Nat}(a:N[i]? =some x)(b:N[j]? =some x):i=j:=by
 obtain⟨h1,z⟩:=zk.mp a;obtain⟨h2,e2⟩:=zk.mp b;exact(yyi q).mp (z.trans e2.symm)
def QX{M:Model}{A:Around}{E:Value->Shared->Prop}{v:V}{Q:Unit->Shared->Prop}(I:Inv X pins σ H s)(hN:X.N.Nodup)(hi:X.N[i]? =some x)(hx:Loc X.env.scope x)(r:RelV v u)
  (h:∀s',Inv X pins (σ.set i (some v)) H s'->(∃a,Heap.SameBut a s.heap s'.heap/\(a=X.env.locals\/X.env.cells.lookup x=some a))->Q () s') (hf:X.fn x=true\/X.env.scope.names.lookup x=some .local:=by walk_at "p"):wpAny M A (storeName X.env x u) Q E s:=by
 obtain⟨m,hn,hl⟩:=id I.loc;have ae:(X.env.scope.kind==.class||(X.env.scope.kind==.module && X.env.locals !=X.env.globals))=false:=by rw[I.ok.kind];rfl
 have af:i<σ.length:=by rw[I.len];exact(zk.mp hi).1
 have ad:=I.cne
 have aa:∀{a:Addr}{h':Heap},(∃o,s.heap.get? a=some o/\H a=none)->Heap.SameBut a s.heap h'->HOk X.prog X.w H h':=fun{a h'} ha hs b ob e=>by
  obtain⟨_,_,ab⟩:=ha;refine(I.hok b ob e).stay (λc w' hc q=>(hs.2 c ?_).trans q) (λ_ q=>q) λ_ _ q=>q;rintro rfl;rcases hc with rfl|hc
  ·rw[ab]at e;cases e
  ·rw[ab]at hc;cases hc
 rcases hx with hk|hk
 ·refine wpAny_storeName_local hk hn (λh' al hs=>?_) ae
  obtain⟨oL,_,_,ak,_⟩:=id hn;refine h _ ⟨I.ok,I.os,I.bare,⟨λb o e n hb hx=>?_,λb o e n hb hx=>?_,I.base.free,λb o e hx=>?_,I.base.tups,I.base.frzs,I.base.tbls⟩,⟨_,al,λj y v' e1 e2 e3=>?_⟩,λy c e=>?_,I.free,I.freeC,λp hp=>?_,aa ⟨oL,ak,I.free⟩ hs,by simpa using I.len⟩ ⟨_,hs,.inl rfl⟩
  ·exact(hs.2 b (zE (zL (zv e) I.ok.above))).trans (I.base.keep b o e n hb hx)
  ·obtain⟨sl,e1⟩:=I.base.slot b o e n hb hx
   exact⟨sl,(hs.2 b (zE (zL (zv e) I.ok.above))).trans e1⟩
  ·obtain⟨o',e1⟩:=I.base.there b o e hx
   exact⟨o',(hs.2 b (zE (zL (zv e) I.ok.above))).trans e1⟩
  ·by_cases hj:j=i
   ·subst hj
    rw[hi]at e1;cases e1;rw[zzD af]at e2;cases e2;exact⟨u,r,.inl ⟨hk,by simp⟩⟩
   ·rw[zzU (Ne.symm hj)]at e2
    obtain⟨u',r',q⟩:=hl j y v' e1 e2 e3;refine⟨u',r',?_⟩;rcases q with⟨k,e⟩|⟨k,c,e,z⟩
    ·refine .inl ⟨k,?_⟩
     have:y≠x:=λe=>hj (Uy hN e1 (e▸hi));simp[this,e]
    ·exact .inr ⟨k,c,e,z.sameBut hs (ad y c e)⟩
  ·obtain⟨w',z⟩:=I.cell y c e
   exact⟨w',z.sameBut hs (ad y c e)⟩
  ·obtain⟨e,n,ne,nf,d⟩:=I.pin p hp
   exact⟨(hs.2 p.1 ne).trans e,n,ne,nf,d⟩
 ·have ac:X.fn x=true:=by
   rcases hf with z|z
   ·exact z
   ·rw[z]at hk;cases hk
  obtain⟨c,hc⟩:=I.ok.has x (.inl hk);obtain⟨w',z⟩:=I.cell x c hc;refine wpAny_storeName_cell I.ok.kind hk hc z (λh' aj hs=>?_);obtain⟨oc,ai,ah⟩:=id z;refine h {s with heap:=h'} ⟨I.ok,I.os,I.bare,⟨λb o e n hb hx=>?_,λb o e n hb hx=>?_,I.base.free,λb o e hx=>?_,I.base.tups,I.base.frzs,I.base.tbls⟩,⟨m,hn.sameBut hs (Ne.symm (ad x c hc)),λj y v' e1 e2 e3=>?_⟩,λy c' e=>?_,I.free,I.freeC,λp hp=>?_,aa ⟨oc,ai,I.freeC x c hc⟩ hs,by simpa using I.len⟩ ⟨c,hs,.inr hc⟩
  ·exact(hs.2 b (zE (zL (zv e) (I.ok.cab x c ac hc)))).trans (I.base.keep b o e n hb hx)
  ·obtain⟨sl,e1⟩:=I.base.slot b o e n hb hx
   exact⟨sl,(hs.2 b (zE (zL (zv e) (I.ok.cab x c ac hc)))).trans e1⟩
  ·obtain⟨o',e1⟩:=I.base.there b o e hx
   exact⟨o',(hs.2 b (zE (zL (zv e) (I.ok.cab x c ac hc)))).trans e1⟩
  ·by_cases hj:j=i
   ·subst hj
    rw[hi]at e1;cases e1;rw[zzD af]at e2;cases e2;exact⟨u,r,.inr ⟨.inl hk,c,hc,aj⟩⟩
   ·rw[zzU (Ne.symm hj)]at e2
    obtain⟨u',r',q⟩:=hl j y v' e1 e2 e3;refine⟨u',r',?_⟩;rcases q with q|⟨k,c',e,z'⟩
    ·exact .inl q
    ·refine .inr ⟨k,c',e,z'.sameBut hs ?_⟩
     rintro rfl;exact hj (Uy hN e1 (I.ok.inj _ _ _ e hc▸hi))
  ·by_cases ag:c'=c
   ·subst ag;exact⟨_,aj⟩
   ·obtain⟨w2,z2⟩:=I.cell y c' e
    exact⟨w2,z2.sameBut hs ag⟩
  ·obtain⟨e,n,ne,nf,d⟩:=I.pin p hp
   refine⟨(hs.2 p.1 ?_).trans e,n,ne,nf,d⟩;intro q;rw[q,ai]at e;have q':oc=p.2:=zy e;exact d w' (by rw[<-q'];exact ah)
def Uq{M:Model}{A:Around}{E:Value->Shared->Prop}{v:V}{Q:Unit->Shared->Prop}(I:Inv X pins σ H s)(hN:X.N.Nodup)(hi:X.N[i]? =some x)(z:Loc X.env.scope x)(r:RelV v u)
  (h:∀s',Inv X pins (σ.set i (some v)) H s'->Q () s') (q:X.fn x=true\/X.env.scope.names.lookup x=some .local:=by walk_at "p"):wpAny M A (storeName X.env x u) Q E s:=
 QX I hN hi z r (λs' I' _=>h s' I') q
def Inv.call'{s':Shared}(I:Inv X pins σ H s)(ho:s'.os=s.os)(u:Un (frs X.stack) ch H H' s.heap s'.heap)(hok:HOk X.prog X.w H' s'.heap)(z:AllBare s'.gens)
  (q:∀b∈ch,(b∈X.ex\/X.s₀.heap.objs.size<=b)/\b≠X.env.locals/\(∀x c,X.env.cells.lookup x=some c->c≠b)/\∀p∈X.pn++pins,p.1≠b):Inv X pins σ H' s':=by
 obtain⟨h',g',d',t',o'⟩:=s';have e:o'=s.os:=ho;subst e;exact I.call (g':=g') (t':=t') (d':=d') u hok z q
end
abbrev XK:=Value->Option Addr->Hp->Prop
abbrev St:=List (Option V)
abbrev VK:=V->Hp->Prop
abbrev TE:=St->Hp->VK->Prop
abbrev TT:=St->Hp->(Bool->Hp->Prop)->Prop
abbrev TA:=St->Hp->(List V->Hp->Prop)->Prop
structure Ends where
 nx:St->Hp->Prop
 rt:VK
 bk:St->Hp->Prop:=λ_ _=>False
 ct:St->Hp->Prop:=λ_ _=>False
abbrev TS:=Ends->St->Hp->Prop
def EP(X:Cx)(pins:List (Addr×Obj))(σ:St)(Q:VK)(u:Value)(s':Shared):Prop:=∃v H',Inv X pins σ H' s'/\RelV v u/\Q v H'
def TP(X:Cx)(pins:List (Addr×Obj))(σ:St)(Q:Bool->Hp->Prop)(b:Bool)(s':Shared):Prop:=∃H',Inv X pins σ H' s'/\Q b H'
def AP(X:Cx)(pins:List (Addr×Obj))(σ:St)(Q:List V->Hp->Prop)(us:List Value)(s':Shared):Prop:=∃vs H',Inv X pins σ H' s'/\Vals vs us/\Q vs H'
def SP(X:Cx)(pins:List (Addr×Obj))(D:Ends)(f:Flow)(s':Shared):Prop:=
 match f with
 |.next=>∃σ' H',Inv X pins σ' H' s'/\D.nx σ' H'
 |.brk=>∃σ' H',Inv X pins σ' H' s'/\D.bk σ' H'
 |.cont=>∃σ' H',Inv X pins σ' H' s'/\D.ct σ' H'
 |.ret u=>∃v σ' H',Inv X pins σ' H' s'/\RelV v u/\D.rt v H'
def PE(X:Cx)(e:Expr)(t:TE):Prop:=
 ∀(pins:List (Addr×Obj))(s:Shared)(σ:St)(H:Hp)(Q:VK),Inv X pins σ H s->t σ H Q->wpAny (model X.prog X.w) X.A (eval e X.env) (EP X pins σ Q) X.xe s
def PT(X:Cx)(e:Expr)(t:TT):Prop:=
 ∀(pins:List (Addr×Obj))(s:Shared)(σ:St)(H:Hp)(Q:Bool->Hp->Prop),Inv X pins σ H s->t σ H Q->wpAny (model X.prog X.w) X.A (isTrue e X.env (eval e X.env)) (TP X pins σ Q) X.xe s
def PW(X:Cx)(e:Expr)(t:TT):Prop:=
 ∀(whole:Sem Value)(pins:List (Addr×Obj))(s:Shared)(σ:St)(H:Hp)(Q:Bool->Hp->Prop),Inv X pins σ H s->t σ H Q->wpAny (model X.prog X.w) X.A (isTrue e X.env whole) (TP X pins σ Q) X.xe s
def PW.pt{X:Cx}{t:TT}(h:PW X e t):PT X e t:=h _
def PA(X:Cx)(es:List Expr)(t:TA):Prop:=
 ∀(pos:Pos)(pins:List (Addr×Obj))(s:Shared)(σ:St)(H:Hp)(Q:List V->Hp->Prop),Inv X pins σ H s->t σ H Q->wpAny (model X.prog X.w) X.A (spliced (backTo pos (starEach es X.env))) (AP X pins σ Q) X.xe s
def PS(X:Cx)(st:Stmt)(t:TS):Prop:=
 ∀(pins:List (Addr×Obj))(s:Shared)(σ:St)(H:Hp)(D:Ends),Inv X pins σ H s->t D σ H->wpAny (model X.prog X.w) X.A (exec st X.env) (SP X pins D) X.xe s
def PSs(X:Cx)(st:List Stmt)(t:TS):Prop:=
 ∀(pins:List (Addr×Obj))(s:Shared)(σ:St)(H:Hp)(D:Ends),Inv X pins σ H s->t D σ H->wpAny (model X.prog X.w) X.A (execs st X.env) (SP X pins D) X.xe s
def thn{α:Type}{t:Sem α}{Q Q':α->Shared->Prop}{M:Model}(h:wpAny M A t Q E s)(q:∀a s,Q a s->Q' a s):wpAny M A t Q' E s:=yi h q λ_ _ x=>x
section
variable{X:Cx}
def Ro(i:Nat):TE:=λσ H Q=>∃v,σ[i]? =some (some v)/\Q v H
def tC(v:V):TE:=λ_ H Q=>Q v H
def alF(hN:X.N[i]? =some x)(hv:Vis X.env.scope x)(hd:(x==("__debug__" :Str))=false:=by decide) (hcd:(x==("__classdict__" :Str))=false:=by decide):PE X (.Name x pos) (Ro i):=by
 intro pins s σ H Q I h;obtain⟨v,e,h⟩:=h;obtain⟨m,hn,hl⟩:=I.loc;obtain⟨u,r,l⟩:=hl i x v hN e hv;have aa:EP X pins σ Q u s:=⟨v,H,I,r,h⟩;rcases l with⟨z,hm⟩|⟨z,c,hc,q⟩
 ·exact wpAny_Name (wpAny_loadName_local I.ok.kind z hn hm aa) hd
 ·rcases z with z|z
  ·exact wpAny_Name (wpAny_loadName_cell I.ok.kind z hc q aa) hd
  ·exact wpAny_Name (wpAny_loadName_free I.ok.kind z hc q aa hcd) hd
def jf{i j pos}:PE X (.Constant (.int i) j pos) (tC (.int i)):=λ_ _ _ H _ I h=>wpAny_Constant_int ⟨.int i,H,I.tok _,⟨_,rfl⟩,h⟩
def FJ{b j pos}:PE X (.Constant (.bool b) j pos) (tC (.bl b)):=λ_ _ _ H _ I h=>Constant_bool ⟨.bl b,H,I,rfl,h⟩
def mR{j pos}:PE X (.Constant .none j pos) (tC .non):=λ_ _ _ H _ I h=>Constant_none ⟨.non,H,I,rfl,h⟩
def jB{x j pos}:PE X (.Constant (.str x) j pos) (tC (.str x)):=λ_ _ _ H _ I h=>Calls.Constant_str ⟨.str x,H,I.tok _,⟨_,rfl⟩,h⟩
def Gl(X:Cx)(x:Str):Prop:=X.env.kindOf x=some .globalImplicit
def Iv{E:Value->Shared->Prop}{σ:St}{H:Hp}{pos:Pos}{Q:Value->Shared->Prop}(I:Inv X pins σ H s)(q:Gl X x)(hm:X.mg x=some u)(h:Q u s)
  (hd:(x==("__debug__" :Str))=false:=by decide):wpAny (model X.prog X.w) X.A (eval (.Name x pos) X.env) Q E s:=
 Calls.Name_function_global I.ok.kind q (Calls.loadGlobal_global (by rw[I.ok.glob];exact I.mod.glob.keeps I.bk) hm h) hd
def BL{E:Value->Shared->Prop}{σ:St}{H:Hp}{pos:Pos}{Q:Value->Shared->Prop}(I:Inv X pins σ H s)(z:Gl X x)(hm:X.mg x=none)(q:bootBuiltins x=some u)(h:Q u s)
  (hn:x≠ "__name__" :=by decide) (hd:(x==("__debug__" :Str))=false:=by decide):wpAny (model X.prog X.w) X.A (eval (.Name x pos) X.env) Q E s:=by
 obtain⟨mb,h1,h2⟩:=I.mod.blt;exact Calls.Name_function_global I.ok.kind z (Calls.loadGlobal_builtin (by rw[I.ok.glob];exact I.mod.glob.keeps I.bk) hm (by rw[I.ok.blt];exact h1.keeps I.bk) ((h2 x hn).trans q) h) hd
def mY{v:V}(q:Gl X x)(hm:X.mg x=some u)(r:RelV v u)(hd:(x==("__debug__" :Str))=false:=by decide):PE X (.Name x pos) (tC v):=
 λ_ _ _ H _ I h=>Iv I q hm ⟨v,H,I,r,h⟩ hd
def ajK{v:V}(z:Gl X x)(hm:X.mg x=none)(q:bootBuiltins x=some u)(r:RelV v u)(hn:x≠ "__name__" :=by decide) (hd:(x==("__debug__" :Str))=false:=by decide):PE X (.Name x pos) (tC v):=
 λ_ _ _ H _ I h=>BL I z hm q ⟨v,H,I,r,h⟩ hn hd
variable{a b:Expr}{ta tb:TE}{pos:Pos}
def tB(t:TE):TT:=λσ H Q=>t σ H λx H1=>∃c,x=.bl c/\Q c H1
def qp{t:TE}(h:PE X e t)(he:∀z,isTrue e X.env z=(do let v<-z;standAt e.pos;holding [v] (truthy v)):=by intro _;rfl):PT X e (tB t):=by
 intro pins s σ H Q I hw;refine isTrue_plain (thn (h pins s σ H _ I hw) λv s1 ⟨x,H1,I1,r1,q1⟩=>?_) (he _);obtain⟨d,rfl,q⟩:=q1;cases r1;exact yC ⟨H1,I1,q⟩
variable{tA tB':TT}{rest:List Expr}
def anz(t u:TT):TT:=λσ H Q=>t σ H λc H1=>if c=true then u σ H1 Q else Q false H1
def tOr(t u:TT):TT:=λσ H Q=>t σ H λc H1=>if c=true then Q true H1 else u σ H1 Q
def anD(t:TT):TT:=λσ H Q=>t σ H λc H1=>Q (!c) H1
def vR(ha:PT X a tA):PW X (.BoolOp .And [a] pos) tA:=by
 intro q pins s σ H Q I h;refine isTrue_and (thn (ha pins s σ H Q I h) λc z e=>?_)
 cases c with
 |true=>exact isTrue_and_nil e
 |false=>exact e
def BV(ha:PT X a tA):PW X (.BoolOp .Or [a] pos) tA:=by
 intro q pins s σ H Q I h;refine isTrue_or (thn (ha pins s σ H Q I h) λc z e=>?_)
 cases c with
 |false=>exact isTrue_or_nil e
 |true=>exact e
def xR(ha:PT X a tA)(hb:PW X (.BoolOp .And (b::rest) pos) tB'):PW X (.BoolOp .And (a::b::rest) pos) (anz tA tB'):=by
 intro wh pins s σ H Q I h;refine isTrue_and (thn (ha pins s σ H _ I h) λc s1 ⟨H1,z,q⟩=>?_)
 cases c with
 |true=>exact hb wh pins s1 σ H1 Q z q
 |false=>exact⟨H1,z,q⟩
def GP(ha:PT X a tA)(hb:PW X (.BoolOp .Or (b::rest) pos) tB'):PW X (.BoolOp .Or (a::b::rest) pos) (tOr tA tB'):=by
 intro wh pins s σ H Q I h;refine isTrue_or (thn (ha pins s σ H _ I h) λc s1 ⟨H1,z,q⟩=>?_)
 cases c with
 |true=>exact⟨H1,z,q⟩
 |false=>exact hb wh pins s1 σ H1 Q z q
def LC(ha:PT X a tA):PT X (.UnaryOp .Not a pos) (anD tA):=by
 intro pins s σ H Q I h;exact isTrue_not (ha pins s σ H (λc H1=>Q (!c) H1) I h)
def aly(ta tb:TE):TE:=λσ H Q=>ta σ H λx H1=>∃c,x=.bl c/\if c=true then tb σ H1 Q else Q (.bl false) H1
def ams(ta:TE):TE:=λσ H Q=>ta σ H λx H1=>∃c,x=.bl c/\Q (.bl (!c)) H1
def Ur{op}{t:TE}(h:PE X a t):PE X (.BoolOp op [a] pos) t:=λpins s σ H Q I q=>BoolOp_one (h pins s σ H Q I q)
def Qz(ha:PE X a ta)(hb:PE X (.BoolOp .And (b::rest) pos) tb):PE X (.BoolOp .And (a::b::rest) pos) (aly ta tb):=by
 intro pins s σ H Q I h;refine BoolOp_and (thn (ha pins s σ H _ I h) λv s1 ⟨x,H1,z,r1,q⟩=>?_);obtain⟨c,rfl,q⟩:=q;cases r1;refine yC ?_
 cases c with
 |true=>exact hb pins s1 σ H1 Q z q
 |false=>exact⟨.bl false,H1,z,rfl,q⟩
def amh(ha:PE X a ta):PE X (.UnaryOp .Not a pos) (ams ta):=by
 intro pins s σ H Q I h;refine UnaryOp_ (thn (ha pins s σ H _ I h) λv s1 ⟨x,H1,I1,z,q⟩=>?_);obtain⟨c,rfl,q⟩:=q;cases z;exact not_of (yC ⟨.bl (!c),H1,I1,rfl,q⟩)
def tIf(t:TT)(ta tb:TE):TE:=λσ H Q=>t σ H λc H1=>if c=true then ta σ H1 Q else tb σ H1 Q
def Eu(hc:PT X c tA)(ha:PE X a ta)(hb:PE X b tb):PE X (.IfExp c a b pos) (tIf tA ta tb):=by
 intro pins s σ H Q I h;refine wpAny_IfExp (thn (hc pins s σ H _ I h) λd s1 ⟨H1,z,q⟩=>?_)
 cases d with
 |true=>exact ha pins s1 σ H1 Q z q
 |false=>exact hb pins s1 σ H1 Q z q
end
def SqL(K:Fg_)(H:Hp)(a:Addr)(xs:List V):Prop:=
 Rd H a (.lst xs)\/
  ∃(o:Obj)(its:Array Value)(n:Nat),K.lookup a=some o/\o.cls=.type "list" /\o.dict=none/\o.data=.seq its n/\its.size<=sizeLine/\Vals xs its.toList
def SqT(K:Fg_)(H:Hp)(a:Addr)(xs:List V):Prop:=
 Rd H a (.tup xs)\/
  ∃(o:Obj)(its:Array Value)(n:Nat),K.lookup a=some o/\o.cls=.type "tuple" /\o.data=.seq its n/\its.size<=sizeLine/\Vals xs its.toList
noncomputable def anL:Value->Option V
 |.none=>some .non
 |.bool b=>some (.bl b)
 |.int i _=>some (.int i)
 |.str x _=>some (.str x)
 |.bytes b _=>some (.byt b)
 |.float b _=>some (.flt b)
 |.ref a=>some (.ref a)
 |.type n=>some (.ty n)
 |_=>none
def RelV.abs{x:V}(r:RelV x u):anL u=some x:=by
 cases x with
 |non=>cases r;rfl
 |bl _=>cases r;rfl
 |int _=>obtain⟨t,rfl⟩:=r;rfl
 |str _=>obtain⟨t,rfl⟩:=r;rfl
 |byt _=>obtain⟨t,rfl⟩:=r;rfl
 |flt _=>obtain⟨t,rfl⟩:=r;rfl
 |ref _=>cases r;rfl
 |ty _=>cases r;rfl
def RelV.inj{x y:V}(r:RelV x u)(q:RelV y u):x=y:=zy (r.abs.symm.trans q.abs)
theorem Vals.inj:∀{xs ys:List V}{us:List Value},Vals xs us->Vals ys us->xs=ys
 |_,_,_,.nil,.nil=>rfl
 |_,_,_,.cons r t,.cons r' t'=>by rw[r.inj r',Vals.inj t t']
section
variable{X:Cx}{pins:List (Addr×Obj)}{σ:St}{H:Hp}{s:Shared}{a:Addr}{xs ys:List V}
def jh(h:H a=some (.lst xs)):SqL K H a xs:=.inl (.inl h)
def jE(h:H a=some (.tup xs)):SqT K H a xs:=.inl (.inl h)
def Inv.list(I:Inv X pins σ H s)(h:SqL X.K H a xs):∃its:List Value,Vals xs its/\PlainL s.heap a its.toArray/\xs.length<=sizeLine:=by
 rcases h with h|⟨o,its,n,q,hc,hd,hs,hz,r⟩
 ·obtain⟨z,its,n,r,e⟩:=h.ok I.hok
  exact⟨its,r,⟨_,n,e,rfl,rfl,rfl⟩,z⟩
 ·refine⟨its.toList,r,⟨o,n,I.kIn a o q,hc,hd,by simpa using hs⟩,?_⟩
  have e:=r.length;simp only[z8]at e;lia
def Inv.tuple(I:Inv X pins σ H s)(h:SqT X.K H a xs):∃its:List Value,Vals xs its/\IsTup s.heap a its.toArray/\xs.length<=sizeLine:=by
 rcases h with h|⟨o,its,n,q,hc,hs,hz,r⟩
 ·obtain⟨z,its,r,p⟩:=h.ok I.hok
  exact⟨its,r,p,z⟩
 ·refine⟨its.toList,r,⟨o,I.kIn a o q,hc,n,by simpa using hs⟩,?_⟩
  have e:=r.length;simp only[z8]at e;lia
def Inv.list_inj(I:Inv X pins σ H s)(h:SqL X.K H a xs)(h':SqL X.K H a ys):xs=ys:=by
 obtain⟨its,r,⟨o,n,e,_,_,d⟩,_⟩:=I.list h;obtain⟨its',z,⟨o',n',q,_,_,d'⟩,_⟩:=I.list h';rw[e]at q;cases q;rw[d]at d';injection d' with d1 _
 have:its=its':=by simpa using congrArg Array.toList d1
 subst this;exact r.inj z
end
abbrev Cx.wish(X:Cx)(E:Value->Shared->Prop):Cx:={X with xe:=E}
abbrev Cx.nox(X:Cx):Cx:=X.wish λ_ _=>False
theorem Cx.Ok.wish{X:Cx}(ok:X.Ok)(E:Value->Shared->Prop):(X.wish E).Ok:=
 ⟨ok.mod,ok.kind,ok.glob,ok.blt,ok.above,ok.inj,ok.has,ok.cab,ok.hd,ok.frames,ok.stk,ok.exf,ok.bs,ok.bsz,ok.noex,ok.exfs,ok.funs,ok.frf⟩
def Cx.Ok.unwish{X:Cx}(ok:(X.wish E).Ok):X.Ok:=
 ⟨ok.mod,ok.kind,ok.glob,ok.blt,ok.above,ok.inj,ok.has,ok.cab,ok.hd,ok.frames,ok.stk,ok.exf,ok.bs,ok.bsz,ok.noex,ok.exfs,ok.funs,ok.frf⟩
section
variable{X:Cx}{pins:List (Addr×Obj)}{σ:St}{H:Hp}{s:Shared}{E:Value->Shared->Prop}
theorem Inv.wish(I:Inv X pins σ H s)(E:Value->Shared->Prop):Inv (X.wish E) pins σ H s:=⟨I.ok.wish E,I.os,I.bare,I.base,I.loc,I.cell,I.free,I.freeC,I.pin,I.hok,I.len⟩
theorem Inv.unwish(I:Inv (X.wish E) pins σ H s):Inv X pins σ H s:=⟨I.ok.unwish,I.os,I.bare,I.base,I.loc,I.cell,I.free,I.freeC,I.pin,I.hok,I.len⟩
theorem SP.unwish{D:Ends}{f:Flow}{s':Shared}(h:SP (X.wish E) pins D f s'):SP X pins D f s':=by
 cases f with
 |next=>obtain⟨z,H',I,q⟩:=h;exact⟨z,H',I.unwish,q⟩
 |brk=>obtain⟨z,H',I,q⟩:=h;exact⟨z,H',I.unwish,q⟩
 |cont=>obtain⟨z,H',I,q⟩:=h;exact⟨z,H',I.unwish,q⟩
 |ret u=>obtain⟨v,z,H',I,r,q⟩:=h;exact⟨v,z,H',I.unwish,r,q⟩
theorem PSs.nox{st:List Stmt}{t:TS}(h:PSs X.nox st t):PSs X st t:=λpins s σ H D I hw=>
 yi (h pins s σ H D (I.wish _) hw) (λ_ _ q=>q.unwish) λ_ _ z=>False.elim z
end
section
variable{X:Cx}{st:Stmt}{rest:List Stmt}{t u:TS}{e:Expr}{te:TE}{pos:Pos}
def Xj:TS:=λD σ H=>D.nx σ H
def aar(t u:TS):TS:=λD σ H=>t {D with nx:=u D} σ H
def jC:PSs X [] Xj:=λ_ _ σ H _ I h=>zzz ⟨σ,H,I,h⟩
def jb(h1:PS X st t)(h2:PSs X rest u):PSs X (st::rest) (aar t u):=by
 intro pins s σ H D I h;refine wpAny_execs_cons (thn (h1 pins s σ H {D with nx:=u D} I h) λf s1 q=>?_)
 cases f with
 |next=>
  obtain⟨z,H',I',q⟩:=q;exact h2 pins s1 z H' D I' q
 |ret v=>exact q
 |brk=>exact q
 |cont=>exact q
def je(h1:PS X st t):PSs X [st] t:=by
 intro pins s σ H D I h;refine wpAny_execs_cons (thn (h1 pins s σ H D I h) λf z q=>?_)
 cases f with
 |next=>exact zzz q
 |ret v=>exact q
 |brk=>exact q
 |cont=>exact q
def ajn:TS:=λD σ H=>D.bk σ H
def aix:PS X (.Break pos) ajn:=λ_ _ σ H _ I h=>wpAny_Break ⟨σ,H,I,h⟩
def Inv.quiet{σ:St}{H:Hp}(I:Inv X pins σ H s):interactive X.env=false:=by simp[interactive,I.ok.kind]
def ajE(te:TE):TS:=λD σ H=>te σ H λ_ H1=>D.nx σ H1
def jA(he:PE X e te)(z:swapsWith e none pos.line X.env=pure false:=by rfl):PS X (.Expr e pos) (ajE te):=by
 intro pins s σ H D I h;exact wpAny_Expr_any (thn (he pins s σ H _ I h) λv s1 ⟨x,H1,I1,r1,q⟩=>⟨σ,H1,I1,q⟩) I.quiet z
def anf(te:TE):TS:=λD σ H=>te σ H D.rt
def jq(he:PE X e te):PS X (.Return (some e) pos) (anf te):=by
 intro pins s σ H D I h;exact wpAny_Return_some (thn (he pins s σ H _ I h) λv s1 ⟨x,H1,I1,q,z⟩=>⟨x,σ,H1,I1,q,z⟩)
def alQ:TS:=λD _ H=>D.rt .non H
def ajF:PS X (.Return none pos) alQ:=λ_ _ σ H _ I h=>wpAny_Return_none ⟨.non,σ,H,I,rfl,h⟩
def YD(c:TT)(t u:TS):TS:=λD σ H=>c σ H λb H1=>if b=true then t D σ H1 else u D σ H1
def kE{a b:List Stmt}{tc:TT}(hc:PT X c tc)(ha:PSs X a t)(hb:PSs X b u):PS X (.If c a b pos) (YD tc t u):=by
 intro pins s σ H D I h;refine wpAny_If (thn (hc pins s σ H _ I h) λd s1 ⟨H1,z,q⟩=>?_)
 cases d with
 |true=>exact ha pins s1 σ H1 D z q
 |false=>exact hb pins s1 σ H1 D z q
def alI:TS:=λ_ _ _=>False
def mC:PS X st alI:=λ_ _ _ _ _ _ h=>h.elim
end
abbrev TG:=V->St->Hp->(St->Hp->Prop)->Prop
abbrev TGs:=List V->St->Hp->(St->Hp->Prop)->Prop
def PG(X:Cx)(target:Expr)(t:TG):Prop:=
 ∀(pins:List (Addr×Obj)) (s:Shared) (σ:St) (H:Hp) (v:V) (u:Value) (Q:St->Hp->Prop),Inv X pins σ H s->RelV v u->t v σ H Q->
  wpAny (model X.prog X.w) X.A (assign target X.env u) (λ_ s'=>∃σ' H',Inv X pins σ' H' s'/\Q σ' H') X.xe s
def PGs(X:Cx)(ts:List Expr)(t:TGs):Prop:=
 ∀(pins:List (Addr×Obj)) (s:Shared) (σ:St) (H:Hp) (vs:List V) (us:List Value) (Q:St->Hp->Prop),Inv X pins σ H s->Vals vs us->t vs σ H Q->
  wpAny (model X.prog X.w) X.A (assignInOrder ((assignEach ts X.env).map (·.2)) us) (λ_ s'=>∃σ' H',Inv X pins σ' H' s'/\Q σ' H') X.xe s
section
variable{X:Cx}{pos:Pos}
def RX(i:Nat):TG:=λv σ H Q=>Q (σ.set i (some v)) H
def jk(hN:X.N.Nodup)(hi:X.N[i]? =some x)(z:Loc X.env.scope x)(q:X.fn x=true\/X.env.scope.names.lookup x=some .local:=by walk_at "p"):PG X (.Name x pos) (RX i):=by
 intro pins s σ H v u Q I r h;exact wpAny_assign_Name (Uq I hN hi z r (λs' I'=>⟨_,H,I',h⟩) q)
def ant:TGs:=λvs σ H Q=>vs=[]/\Q σ H
def alL(t:TG)(u:TGs):TGs:=λvs σ H Q=>∃v r,vs=v::r/\t v σ H λσ' H'=>u r σ' H' Q
def oF:PGs X [] ant:=by
 intro pins s σ H vs us Q I r h;obtain⟨e,h⟩:=h;subst e;cases r;exact assignInOrder_nil ⟨σ,H,I,h⟩
def jG{es:List Expr}{t:TG}{u:TGs}(h1:PG X e t)(h2:PGs X es u)
  (hs:(assignEach (e::es) X.env).map (·.2)=assign e X.env::(assignEach es X.env).map (·.2):=by rfl):PGs X (e::es) (alL t u):=by
 intro pins s σ H vs us Q I r h;obtain⟨v,vr,e1,h⟩:=h;subst e1
 cases r with
 |cons r rr=>
  rw[hs];refine assignInOrder_cons (thn (h1 pins s σ H _ _ _ I r h) λ_ s1 ⟨σ1,H1,q,z⟩=>?_);exact h2 pins s1 σ1 H1 _ _ Q q rr z
def anh(K:Fg_)(n:Nat)(t:TGs):TG:=λv σ H Q=>∃a xs,v=.ref a/\SqT K H a xs/\xs.length=n/\t xs σ H Q
def alZ{es:List Expr}{k:Nat}{t:TGs}{n:Nat}(hc:X.calm=true)(h:PGs X es t)
  (hn:(assignEach es X.env).length=n:=by rfl) (hst:(assignEach es X.env).findIdx? (·.1)=none:=by rfl):PG X (.Tuple es k pos) (anh X.K n t):=by
 intro pins s σ H v u Q I r q;obtain⟨a,xs,e1,hq,hl,q⟩:=q;subst e1;cases r;obtain⟨its,z,ht,hz⟩:=I.tuple hq;refine assign_Tuple_tuple (I.ok.hd hc) ht (by simp[hn,<-hl,z.length]) hst λh' hx=>?_;have I1:Inv X pins σ H {s with heap:=h'}:=I.kept (t':=s.toks) λb o e=>hx b o (zE (zv e)) e;exact h pins _ σ H xs _ Q I1 (by simpa using z) q
def amz(te:TE)(g:TG):TS:=λD σ H=>te σ H λx H1=>g x σ H1 D.nx
def aiK{te:TE}{g:TG}(he:PE X e te)(hg:PG X tg g)(hs:swapsWithSole [tg] e pos.line X.env=pure false:=by rfl)(hw:swappedStores [tg] e X.env=pure none:=by rfl)
  (h1:(assignEach [tg] X.env).map (·.2)=[assign tg X.env]:=by rfl):PS X (.Assign [tg] e pos) (amz te g):=by
 intro pins s σ H D I h;refine wpAny_Assign_stores (thn (he pins s σ H _ I h) λv s1 ⟨x,H1,I1,z,q1⟩=>?_) hs hw;rw[h1];exact thn (hg pins s1 σ H1 x v _ I1 z q1) λ_ s2 q=>q
def jm{te:TE}{pos':Pos}(q:X.N.Nodup)(hi:X.N[i]? =some x)(hx:Loc X.env.scope x)(he:PE X e te)(hs:swapsWith e (some (.Name x pos')) pos.line X.env=pure false:=by rfl)(hf:X.fn x=true\/X.env.scope.names.lookup x=some .local:=by walk_at "p"):
  PS X (.Assign [.Name x pos'] e pos) (amz te (RX i)):=by
 intro pins s σ H D I h;refine wpAny_Assign_Name (thn (he pins s σ H _ I h) λv s1 ⟨y,H1,I1,z,q1⟩=>?_) hs;exact Uq I1 q hi hx z (λs2 I2=>⟨_,H1,I2,q1⟩) hf
end
section
variable{X:Cx}{pos:Pos}
def aiM(c:TT)(tb:TS):TS:=λD σ H=>∃W:Nat->St->Hp->Prop,(∃m,W m σ H)/\∀m σ H,W m σ H->
 c σ H λb H1=>if b=true then∃N:St->Hp->Prop,(∀σ' H',N σ' H'->∃m',m'<m/\W m' σ' H')/\tb {D with nx:=N,ct:=N,bk:=D.nx} σ H1 else D.nx σ H1
def aiz{q:List Stmt}{tc:TT}{tb:TS}(hp:PassesOwn (model X.prog X.w) X.A X.env X.xe)(hc:PT X c tc)(hb:PSs X q tb):PS X (.While c q [] pos) (aiM tc tb):=by
 intro pins s σ H D I h;obtain⟨W,⟨m0,w0⟩,z⟩:=h;refine wpAny_While (codeAny_whileLoop (λn s'=>∃σ' H',Inv X pins σ' H' s'/\W n σ' H') ?_ m0 ⟨σ,H,I,w0⟩);rintro n s1 ⟨σ1,H1,I1,w1⟩;refine yY hp (thn (hc pins s1 σ1 H1 _ I1 (z n σ1 H1 w1)) λb s2 ⟨H2,I2,q2⟩=>?_)
 cases b with
 |true=>
  obtain⟨N,hN,q2⟩:=q2;rw[zi rfl];refine yY hp (thn (hb pins s2 σ1 H2 _ I2 q2) λf s3 q3=>?_)
  cases f with
  |next=>
   obtain⟨σ3,H3,I3,n3⟩:=q3;obtain⟨m',hm,w3⟩:=hN σ3 H3 n3;exact⟨m',hm,σ3,H3,I3,w3⟩
  |cont=>
   obtain⟨σ3,H3,I3,n3⟩:=q3;obtain⟨m',hm,w3⟩:=hN σ3 H3 n3;exact⟨m',hm,σ3,H3,I3,w3⟩
  |brk=>exact q3
  |ret v=>exact q3
 |false=>
  rw[zf zO];exact zzz ⟨σ1,H2,I2,q2⟩
end
structure It where
 go:Nat->Hp->Prop
 yld:Nat->Hp->V->Hp->Prop
 stop:Nat->Hp->Prop
def SQ(X:Cx)(pins:List (Addr×Obj))(H:Hp)(b:Addr):Prop:=
 H b=none/\b≠X.env.locals/\b∉X.fs/\(b∈X.ex\/X.s₀.heap.objs.size<=b)/\(∀x c,X.env.cells.lookup x=some c->c≠b)/\∀p∈X.pn++pins,p.1≠b
def Inv.fpOk{X:Cx}{σ:St}{H H':Hp}(I:Inv X pins σ H s)(hb:s.heap.objs.size<=b)(hn:H' b=none):SQ X pins H' b:=by
 refine⟨hn,yz (zL I.lt hb),I.nofs hb,.inr (zS I.sz hb),λx c e z=>?_,λp hp z=>?_⟩
 ·obtain⟨v,q⟩:=I.cell x c e
  exact absurd (zL q.lt (by rw[z];exact hb)) (yu _)
 ·exact absurd (zL (zv (I.pin p hp).1) (by rw[z];exact hb)) (yu _)
structure Turn(P:Program)(w:World)(K:Fg_)(tg:Expr)(J:It)(fp:List Addr)(it:Addr)(tn:Nat->Heap->Prop):Prop where
 mem:it∈fp
 obj:∀i h,tn i h->∀b∈fp,∃o,h.get? b=some o/\∀v,o.data≠.cell v
 keep:∀i h h',tn i h->(∀b∈fp,∀o,h.get? b=some o->h'.get? b=some o)->tn i h'
 item:∀(X:Cx),X.prog=P->X.w=w->X.K=K->X.calm=true->∀(i:Nat)(pins:List (Addr×Obj))(s:Shared)(σ:St)(H:Hp)(E:Value->Shared->Prop),Inv X pins σ H s->(∀b∈fp,SQ X pins H b)->tn i s.heap->J.go i H->
  wpAny (model P w) X.A (pyNext (.ref it)) (λr s1=>∃u,r=some u/\
   wpAny (model P w) X.A (letOwnedTupleGo tg (.ref it) u) (λ_ s2=>∃x H',Inv X pins σ H' s2/\RelV x u/\J.yld i H x H'/\tn (i+1) s2.heap/\∀b∈fp,H' b=none) E s1) E s
 done:∀(X:Cx),X.prog=P->X.w=w->X.K=K->X.calm=true->∀(i:Nat)(pins:List (Addr×Obj))(s:Shared)(σ:St)(H:Hp)(E:Value->Shared->Prop),Inv X pins σ H s->(∀b∈fp,SQ X pins H b)->tn i s.heap->J.stop i H->
  wpAny (model P w) X.A (pyNext (.ref it)) (λr s1=>r=none/\Inv X pins σ H s1) E s
 self:∀(A:Around)(i:Nat)(s:Shared)(Q:Value->Shared->Prop)(E:Value->Shared->Prop),tn i s.heap->Q (.ref it) s->wpAny (model P w) A (pyIter (.ref it)) Q E s
abbrev TI:=St->Hp->(It->Hp->Prop)->Prop
def PIE(X:Cx)(pins:List (Addr×Obj))(σ:St)(tg:Expr)(R:It->Hp->Prop)(itv:Value)(s2:Shared):Prop:=
 ∃(it:Addr)(fp:List Addr)(tn:Nat->Heap->Prop)(J:It)(H':Hp),itv=.ref it/\Inv X pins σ H' s2/\Turn X.prog X.w X.K tg J fp it tn/\tn 0 s2.heap/\(∀b∈fp,SQ X pins H' b)/\R J H'
def PI(X:Cx)(tg iter:Expr)(wi:TI):Prop:=
 ∀(pins:List (Addr×Obj)) (s:Shared) (σ:St) (H:Hp) (R:It->Hp->Prop),Inv X pins σ H s->wi σ H R->
  wpAny (model X.prog X.w) X.A (eval iter X.env) (λv s1=>wpAny (model X.prog X.w) X.A (pyIter v) (PIE X pins σ tg R) X.xe s1) X.xe s
def WY{M:Model}{A:Around}{E:Value->Shared->Prop}{tg:Expr}{it:Addr}{u:Value}{n:String}{vs:Array Value}{Q:Unit->Shared->Prop}(z:s.heap.get? it=some o)(hc:o.cls=.type n)(hd:o.data=.fields vs)
  (hn:["enumerate", "zip", "dict_itemiterator", "dict_reverseitemiterator", "odict_iterator", "itertools.zip_longest", "itertools.pairwise"].contains n=false) (q:Q () s):wpAny M A (letOwnedTupleGo tg (.ref it) u) Q E s:=by
 unfold letOwnedTupleGo
 cases tg<;>first
  |exact zA q
  | (cases u<;>first
    |exact zA q
    | (refine ze (wpAny_load z ?_)
       rw[hc,hd];show wpAny M A (if(["enumerate", "zip", "dict_itemiterator", "dict_reverseitemiterator", "odict_iterator", "itertools.zip_longest", "itertools.pairwise"].contains n && vs[0]? ==some (rawInt _))=true then _ else _) Q E s;rw[zf (by intro h;rw[hn,zz4]at h;cases h)];exact zA q))
noncomputable def Itl(K:Fg_)(a:Addr):It:=
 ⟨λi H=>∃xs x,SqL K H a xs/\xs[i]? =some x,λi H x H'=>H'=H/\∀xs,SqL K H a xs->xs[i]? =some x,λi H=>∃xs,SqL K H a xs/\xs.length<=i⟩
noncomputable def Itr(lo:Int)(n:Nat):It:=⟨λi _=>i<n,λi H x H'=>H'=H/\x=.int (lo+i),λi _=>n<=i⟩
def Xm(a it:Addr):Turn P w K tg (Itl K a) [it] it (λi h=>h.IsListIter it a i) where
 mem:=by simp
 obj:=λi h st b q=>by
  have e:b=it:=by simpa using q
  subst e;obtain⟨o,e,c,d⟩:=st;exact⟨o,e,λv z=>by rw[d]at z;cases z⟩
 keep:=λi h h' st k=>st.at λo e=>k it (by simp) o e
 item:=by
  intro X hP hw hK hc i pins s σ H E I hf st hg;subst hP hw hK;obtain⟨xs,x,hq,hx⟩:=hg;obtain⟨its,rv,p,hz⟩:=I.list hq;obtain⟨u,hu,ru⟩:=rv.get hx;obtain⟨f0,f1,f2,f3,f4,f5⟩:=hf it (by simp);refine zzL st p.isList (x:=u) (by simpa using hu) λh' aa sb=>?_;have I1:Inv X pins σ H {s with heap:=h'}:=I.turned (t':=s.toks) (λb o q e=>(sb.2 b q).trans e) f0 f1 f3 f4 f5;obtain⟨o,e,c,d⟩:=id aa;exact⟨u,rfl,WY (s:={s with heap:=h'}) e c d (by decide) ⟨x,H,I1,ru,⟨rfl,λys hy=>by rw[I.list_inj hy hq];exact hx⟩,aa,λb q=>(hf b q).1⟩⟩
 done:=by
  intro X hP hw hK hc i pins s σ H E I hf st hg;subst hP hw hK;obtain⟨xs,hq,hx⟩:=hg;obtain⟨its,rv,p,hz⟩:=I.list hq;obtain⟨f0,f1,f2,f3,f4,f5⟩:=hf it (by simp);have hl:=rv.length;exact zzQ (I.ok.hd hc) st p.isList (by simp;lia) λh' eb=>⟨rfl,I.turned (t':=s.toks) (λb o q e=>eb b o q e) f0 f1 f3 f4 f5⟩
 self:=λ_ _ _ _ _ st h=>wpAny_pyIter_listiter st h
def WR(it:Addr)(lo:Int)(n:Nat):Turn P w K tg (Itr lo n) [it] it (λi h=>IsRangeIter h it (lo+(i:Nat)*1) ((n:Int) - (i:Nat)) 1) where
 mem:=by simp
 obj:=λi h st b q=>by
  have e:b=it:=by simpa using q
  subst e
  exact ⟨_,st,λv z=>by
   have z':Data.fields _=Data.cell v:=z;cases z'⟩
 keep:=λi h h' st k=>k it (by simp) _ st
 item:=by
  intro X hP hw hK hc i pins s σ H E I hf st hg;subst hP hw hK;obtain⟨f0,f1,f2,f3,f4,f5⟩:=hf it (by simp);have W:=Walks.range (prog:=X.prog) (w:=X.w) (I.ok.hd hc) it lo 1 n;refine W.item i s _ _ hg st λv h' tk hv aa kk=>?_;obtain⟨t,rfl⟩:=hv;have I1:Inv X pins σ H {s with heap:=h',toks:=tk}:=I.turned (λb o q e=>kk b o (by simpa using q) e) f0 f1 f3 f4 f5;refine⟨_,rfl,WY (s:={s with heap:=h',toks:=tk}) (n:= "range_iterator") aa rfl rfl (by decide) ⟨.int (lo+i),H,I1,⟨t,?_⟩,⟨rfl,rfl⟩,aa,λb q=>(hf b q).1⟩⟩;rw[Int.mul_one]
 done:=by
  intro X hP hw hK hc i pins s σ H E I hf st hg;subst hP hw hK;obtain⟨f0,f1,f2,f3,f4,f5⟩:=hf it (by simp);exact wpAny_pyNext_range_end (I.ok.hd hc) st (by have:n<=i:=hg;lia) λh' eb=>⟨rfl,I.turned (t':=s.toks) (λb o q e=>eb b o q e) f0 f1 f3 f4 f5⟩
 self:=λ_ _ _ _ _ st h=>wpAny_pyIter_rangeiter st h
section
variable{X:Cx}{tg:Expr}
def ZL(K:Fg_)(tl:TE):TI:=λσ H R=>tl σ H λx H1=>∃a,x=.ref a/\(∃xs,SqL K H1 a xs)/\R (Itl K a) H1
def akt{l:Expr}{tl:TE}(hl:PE X l tl):PI X tg l (ZL X.K tl):=by
 intro pins s σ H R I h;refine thn (hl pins s σ H _ I h) λv s1 ⟨x,H1,z,r1,q1⟩=>?_;obtain⟨a,e,⟨xs,hq⟩,q⟩:=q1;subst e;cases r1;obtain⟨its,rv,p,hz⟩:=z.list hq;refine yN p.isList ?_;refine⟨s1.heap.objs.size,[s1.heap.objs.size],_,_,H1,rfl,z.kept (t':=s1.toks) λb o e=>zd _ e,Xm a _,⟨_,zB _ rfl,rfl,rfl⟩,λb hb=>?_,q⟩;have e:b=s1.heap.objs.size:=by simpa using hb
 subst e;exact z.fpOk (zm _) (z.hok.fresh (zm _))
def aiF{σ:St}{H:Hp}{R:It->Hp->Prop}{E:Value->Shared->Prop}{lo hi:Int}{t u v:Tok}{tk:Nat}(I:Inv X pins σ H s)(h1: -(2^62)<=lo)(h2:lo<2^62)(h3: -(2^62)<=hi)(h4:hi<2^62)
  (q:R (Itr lo (hi - lo).toNat) H):wpAny (model X.prog X.w) X.A (pyIter (.ref s.heap.objs.size)) (PIE X pins σ tg R) E {s with heap:=s.heap.push {cls:=.type "range",data:=.fields #[.int lo t,.int hi u,.int 1 v]},toks:=tk}:=by
 refine wpAny_pyIter_range (IsRange.new ..) (small_one h1 h2 h3 h4) ?_;have z:Inv X pins σ H {s with heap:=s.heap.push {cls:=.type "range",data:=.fields #[.int lo t,.int hi u,.int 1 v]},toks:=tk}:=I.kept λb o e=>zd _ e
 refine ⟨(s.heap.push {cls:=.type "range",data:=.fields #[.int lo t,.int hi u,.int 1 v]}).objs.size,[(s.heap.push {cls:=.type "range",data:=.fields #[.int lo t,.int hi u,.int 1 v]}).objs.size],_,_,H,rfl,
  z.kept (t':=tk) λb o e=>zd _ e,WR _ lo (hi - lo).toNat,?_,λb hb=>?_,q⟩
 ·have e1:lo+((0:Nat):Int)*1=lo:=by simp
  have e2:(((hi - lo).toNat:Nat):Int) - ((0:Nat):Int)=Builtin.Range.rangeSize lo hi 1:=by rw[rangeSize_one];split<;>lia
  show IsRangeIter _ _ (lo+((0:Nat):Int)*1) ((((hi - lo).toNat:Nat):Int) - ((0:Nat):Int)) 1;rw[e1,e2];exact zB _ rfl
 ·have e:b=(s.heap.push {cls:=.type "range",data:=.fields #[.int lo t,.int hi u,.int 1 v]}).objs.size:=by simpa using hb
  subst e;exact z.fpOk (zm _) (z.hok.fresh (zm _))
def amo(ta:TA):TI:=λσ H R=>ta σ H λvs H1=>∃j:Int,vs=[.int j]/\ -(2^62)<=j/\j<2^62/\R (Itr 0 j.toNat) H1
def YH{a:Expr}{ta:TA}{p:Pos}(hg:Gl X "range") (hm:X.mg "range" =none) (ha:PA X [a] ta) (hs:starEach [a] X.env=[(false,eval a X.env)]:=by rfl):PI X tg (.Call (.Name "range" p) [a] [] pos) (amo ta):=by
 intro pins s σ H R I h;refine Call_ (BL I hg hm boot_range (PyProof.Rows.callWith_type1 (thn (ha pos pins s σ H _ I h) λus s1 ⟨vs,H1,I1,r1,z⟩=>?_) hs rfl));obtain⟨j,e,z,q2,q⟩:=z;subst e
 cases r1 with
 |cons r rr=>
  cases rr;obtain⟨t,rfl⟩:=r;exact call_range_1 (aiF I1 (by lia) (by lia) z q2 (by simpa using q))
def amD(wi:TI)(g:TG)(tb:TS):TS:=λD σ H=>wi σ H λJ H1=>∃W:Nat->Nat->St->Hp->Prop,(∃m,W 0 m σ H1)/\∀i m σ H,W i m σ H->
 (J.stop i H/\D.nx σ H)\/(J.go i H/\∃N:St->Hp->Prop,(∀σ' H',N σ' H'->∃m',m'<m/\W (i+1) m' σ' H')/\∀x H',J.yld i H x H'->g x σ H' λσ2 H2=>tb {D with nx:=N,ct:=N,bk:=D.nx} σ2 H2)
noncomputable def Qt(fp:List Addr)(h:Heap):List (Addr×Obj):=fp.filterMap λb=>(h.get? b).map λo=>(b,o)
def Bl(q:b∈fp)(e:h.get? b=some o):(b,o)∈Qt fp h:=List.mem_filterMap.mpr ⟨b,q,by rw[e];rfl⟩
def Zu{p:Addr×Obj}(z:p∈Qt fp h):p.1∈fp/\h.get? p.1=some p.2:=by
 obtain⟨b,hb,e⟩:=List.mem_filterMap.mp z
 cases q:h.get? b with
 |none=>rw[q]at e;cases e
 |some o=>
  rw[q]at e;have e':(b,o)=p:=zy e;subst e';exact⟨hb,q⟩
def Inv.pinned{σ:St}{H:Hp}(I:Inv X pins σ H s)(hf:∀b∈fp,SQ X pins H b)(ho:∀b∈fp,∃o,s.heap.get? b=some o/\∀v,o.data≠.cell v):Inv X (pins++Qt fp s.heap) σ H s:=
 I.pins_of λp hp=>(zD.mp hp).elim (λz=>I.pin p (zF _ z)) λz=>by
  obtain⟨hb,e⟩:=Zu z;obtain⟨f0,f1,f2,_⟩:=hf p.1 hb;obtain⟨o,q,d⟩:=ho p.1 hb;rw[e]at q;cases q;exact⟨e,f0,f1,f2,d⟩
def Inv.unpinned{pl:List (Addr×Obj)}{σ:St}{H:Hp}(I:Inv X (pins++pl) σ H s):Inv X pins σ H s:=I.pins_of λp q=>I.pin p (zF _ (yg _ q))
def oh{iter:Expr}{aa:List Stmt}{wi:TI}{g:TG}{tb:TS}{pos:Pos}(hp:PassesOwn (model X.prog X.w) X.A X.env X.xe)(hc:X.calm=true)(hi:PI X tg iter wi)(hg:PG X tg g)(hb:PSs X aa tb)
  (hs:∀x,foldedSetIterable iter X.env x=pure x:=by intro _;rfl):PS X (.For tg iter aa [] pos) (amD wi g tb):=by
 intro pins s σ H D I h;refine wpAny_For (thn (hi pins s σ H _ I h) λv s1 h1=>thn h1 λai s2 h2=>?_) hs;obtain⟨it,fp,tn,J,H2,e,I2,T,ag,f2,W,⟨m0,w0⟩,ad⟩:=h2;subst e;have z:∀{H':Hp},(∀b∈fp,H' b=none)->∀b∈fp,SQ X pins H' b:=λhn b hb=>⟨hn b hb,(f2 b hb).2⟩;refine codeAny_forLoop_any (λn s'=>∃i σ' H',Inv X pins σ' H' s'/\tn i s'.heap/\(∀b∈fp,H' b=none)/\W i n σ' H') ?_ m0 ⟨0,σ,H2,I2,ag,λb hb=>(f2 b hb).1,w0⟩;rintro n s3 ⟨i,σ3,H3,I3,ac,ae,w3⟩;rcases ad i n σ3 H3 w3 with⟨stop,qn⟩|⟨go,N,hN,af⟩
 ·refine yY hp (thn (T.done X rfl rfl rfl hc i pins s3 σ3 H3 X.xe I3 (z ae) ac stop) λr s4 ⟨hr,I4⟩=>?_)
  subst hr;exact zzz ⟨σ3,H3,I4,qn⟩
 ·refine yY hp (thn (T.item X rfl rfl rfl hc i pins s3 σ3 H3 X.xe I3 (z ae) ac go) λr s4 ⟨u,hr,h4⟩=>?_)
  subst hr;refine yY hp (thn h4 λ_ s5 ⟨x,H5,I5,r5,y5,ab,ah⟩=>?_);have I5':=I5.pinned (z ah) (T.obj _ _ ab);refine yY hp (thn (hg _ s5 σ3 H5 x u _ I5' r5 (af x H5 y5)) λ_ s6 ⟨σ6,H6,I6,q6⟩=>?_);refine yY hp (thn (hb _ s6 σ6 H6 _ I6 q6) λf s7 q7=>?_)
  have q:∀{σ7:St}{H7:Hp},Inv X (pins++Qt fp s5.heap) σ7 H7 s7->N σ7 H7->∃m,m<n/\∃i σ' H',Inv X pins σ' H' s7/\tn i s7.heap/\(∀b∈fp,H' b=none)/\W i m σ' H':=fun{σ7 H7} I7 n7=>by
   obtain⟨m',hm,w7⟩:=hN σ7 H7 n7;refine⟨m',hm,i+1,σ7,H7,I7.unpinned,T.keep _ _ _ ab λb hb o e=>(I7.pin (b,o) (zF _ (zF _ (Bl hb e)))).1,λb hb=>?_,w7⟩;obtain⟨o,e,d⟩:=T.obj _ _ ab b hb;exact(I7.pin (b,o) (zF _ (zF _ (Bl hb e)))).2.1
  cases f with
  |next=>obtain⟨σ7,H7,I7,n7⟩:=q7;exact q I7 n7
  |cont=>obtain⟨σ7,H7,I7,n7⟩:=q7;exact q I7 n7
  |brk=>obtain⟨σ7,H7,I7,q7⟩:=q7;exact⟨σ7,H7,I7.unpinned,q7⟩
  |ret v=>obtain⟨x7,σ7,H7,I7,r7,q7⟩:=q7;exact⟨x7,σ7,H7,I7.unpinned,r7,q7⟩
end
def aaN{xs:List V}{g:TG}{tb:TS}{D:Ends}{σ:St}{H:Hp}(z:Nat->St->Hp->Prop)(h0:z 0 σ H)(hl:∀i σ H,i<=xs.length->z i σ H->SqL K H a xs)
  (hs:∀i x σ H,xs[i]? =some x->z i σ H->g x σ H λσ2 H2=>tb {D with nx:=z (i+1),ct:=z (i+1),bk:=D.nx} σ2 H2) (hd:∀σ H,z xs.length σ H->D.nx σ H):
  ∃W:Nat->Nat->St->Hp->Prop,(∃m,W 0 m σ H)/\∀i m σ H,W i m σ H->
   ((Itl K a).stop i H/\D.nx σ H)\/((Itl K a).go i H/\∃N:St->Hp->Prop,(∀σ' H',N σ' H'->∃m',m'<m/\W (i+1) m' σ' H')/\∀x H',(Itl K a).yld i H x H'->g x σ H' λσ2 H2=>tb {D with nx:=N,ct:=N,bk:=D.nx} σ2 H2):=by
 refine⟨λi m σ H=>m=xs.length - i/\i<=xs.length/\z i σ H,⟨xs.length,by simp,zM _,h0⟩,?_⟩;rintro i m σ H ⟨rfl,hi,p⟩;have q:=hl i σ H hi p;by_cases aa:i<xs.length
 ·refine .inr ⟨⟨xs,xs[i],q,by simp[aa]⟩,z (i+1),λσ' H' p'=>⟨xs.length - (i+1),by lia,rfl,aa,p'⟩,λx H' y=>?_⟩
  obtain⟨e,y⟩:=y;subst e;exact hs i x σ _ (y xs q) p
 ·have e:i=xs.length:=by lia
  subst e;exact .inl ⟨⟨xs,q,zm _⟩,hd σ H p⟩
def YS{lo:Int}{n:Nat}{g:TG}{tb:TS}{D:Ends}{σ:St}{H:Hp}(z:Nat->St->Hp->Prop)(h0:z 0 σ H)
  (hs:∀i σ H,i<n->z i σ H->g (.int (lo+i)) σ H λσ2 H2=>tb {D with nx:=z (i+1),ct:=z (i+1),bk:=D.nx} σ2 H2) (hd:∀σ H,z n σ H->D.nx σ H):
  ∃W:Nat->Nat->St->Hp->Prop,(∃m,W 0 m σ H)/\∀i m σ H,W i m σ H->
   ((Itr lo n).stop i H/\D.nx σ H)\/((Itr lo n).go i H/\∃N:St->Hp->Prop,(∀σ' H',N σ' H'->∃m',m'<m/\W (i+1) m' σ' H')/\∀x H',(Itr lo n).yld i H x H'->g x σ H' λσ2 H2=>tb {D with nx:=N,ct:=N,bk:=D.nx} σ2 H2):=by
 refine⟨λi m σ H=>m=n - i/\i<=n/\z i σ H,⟨n,by simp,zM _,h0⟩,?_⟩;rintro i m σ H ⟨rfl,hi,p⟩;by_cases q:i<n
 ·refine .inr ⟨q,z (i+1),λσ' H' p'=>⟨n - (i+1),by lia,rfl,q,p'⟩,λx H' y=>?_⟩
  obtain⟨e,y⟩:=y;subst e y;exact hs i σ _ q p
 ·have e:i=n:=by lia
  subst e;exact .inl ⟨zm _,hd σ H p⟩
abbrev R2:=V->V->Hp->VK->Prop
def OpR(X:Cx)(f:Value->Value->Sem Value)(r:R2):Prop:=
 ∀(pins:List (Addr×Obj)) (s:Shared) (σ:St) (H:Hp) (x y:V) (v u:Value) (Q:VK),Inv X pins σ H s->RelV x v->RelV y u->r x y H Q->
  wpAny (model X.prog X.w) X.A (f v u) (EP X pins σ Q) X.xe s
def UnR(X:Cx)(f:Value->Sem Value)(r:V->Hp->VK->Prop):Prop:=
 ∀(pins:List (Addr×Obj)) (s:Shared) (σ:St) (H:Hp) (x:V) (v:Value) (Q:VK),Inv X pins σ H s->RelV x v->r x H Q->
  wpAny (model X.prog X.w) X.A (f v) (EP X pins σ Q) X.xe s
def nF(X:Cx)(f:Value)(r:List V->Hp->VK->Prop):Prop:=
 ∀(pins:List (Addr×Obj)) (s:Shared) (σ:St) (H:Hp) (xs:List V) (us:List Value) (Q:VK),Inv X pins σ H s->Vals xs us->r xs H Q->
  wpAny (model X.prog X.w) X.A (call f us) (EP X pins σ Q) X.xe s
def tOp(r:R2)(ta tb:TE):TE:=λσ H Q=>ta σ H λx H1=>tb σ H1 λy H2=>r x y H2 Q
def tUn(r:V->Hp->VK->Prop)(ta:TE):TE:=λσ H Q=>ta σ H λx H1=>r x H1 Q
def rI(C:Int->Int->Prop)(g:Int->Int->V):R2:=λx y H Q=>∃i j,x=.int i/\y=.int j/\C i j/\Q (g i j) H
def rI0(g:Int->Int->V):R2:=λx y H Q=>∃i j,x=.int i/\y=.int j/\Q (g i j) H
def rU(g:Int->V):V->Hp->VK->Prop:=λx H Q=>∃i,x=.int i/\Q (g i) H
section
variable{X:Cx}{a b c:Expr}{ta tb tc:TE}{pos:Pos}
def anc(ha:PE X a ta)(hb:PE X b tb){σ:St}{H:Hp}{R:V->V->Hp->Prop}(I:Inv X pins σ H s)
  (h:ta σ H λx H1=>tb σ H1 λy H2=>R x y H2) {Q:Value->Shared->Prop} {f:Value->Value->Sem Value}
  (hf:∀v u q x y H2,Inv X pins σ H2 q->RelV x v->RelV y u->R x y H2->wpAny (model X.prog X.w) X.A (f v u) Q X.xe q):
  wpAny (model X.prog X.w) X.A (eval a X.env) (λv s₁=>wpAny (model X.prog X.w) X.A (eval b X.env) (λu s₂=>wpAny (model X.prog X.w) X.A (f v u) Q X.xe s₂) X.xe s₁) X.xe s:=by
 refine thn (ha pins s σ H _ I h) λv s1 ⟨x,H1,I1,z,q1⟩=>?_;refine thn (hb pins s1 σ H1 _ I1 q1) λu q ⟨y,H2,I2,r2,q2⟩=>?_;exact hf v u q x y H2 I2 z r2 q2
def jw{op:Operator}{r:R2}(ho:OpR X (binaryOp op) r)(ha:PE X a ta)(hb:PE X b tb):PE X (.BinOp a op b pos) (tOp r ta tb):=by
 intro pins s σ H Q I h;exact wpAny_BinOp (anc ha hb I h λv u s2 x y H2 z rx ry q=>ho pins s2 σ H2 x y v u Q z rx ry q)
def aiq{op:UnaryOp}{r:V->Hp->VK->Prop}(ho:UnR X (unaryOp op) r)(ha:PE X a ta):PE X (.UnaryOp op a pos) (tUn r ta):=by
 intro pins s σ H Q I h;exact UnaryOp_ (thn (ha pins s σ H _ I h) λv s1 ⟨x,H1,I1,q,z⟩=>ho pins s1 σ H1 x v Q I1 q z)
def opI{f:Value->Value->Sem Value}{C:Int->Int->Prop}{g:Int->Int->Int}
  (z:∀(i j:Int)(t u:Tok)(s:Shared)(Q:Value->Shared->Prop)(E:Value->Shared->Prop),C i j->Q (.int (g i j) s.toks) {s with toks:=s.toks+1}->wpAny (model X.prog X.w) X.A (f (.int i t) (.int j u)) Q E s):
  OpR X f (rI C λi j=> .int (g i j)):=by
 intro pins s σ H x y v u Q I rx ry h;obtain⟨i,j,rfl,rfl,hc,q⟩:=h;obtain⟨t,rfl⟩:=rx;obtain⟨t',rfl⟩:=ry;exact z i j t t' s _ _ hc ⟨.int (g i j),H,I.tok _,⟨_,rfl⟩,q⟩
def anH{f:Value->Value->Sem Value}{g:Int->Int->Int}
  (z:∀(i j:Int)(t u:Tok)(s:Shared)(Q:Value->Shared->Prop)(E:Value->Shared->Prop),Q (.int (g i j) s.toks) {s with toks:=s.toks+1}->wpAny (model X.prog X.w) X.A (f (.int i t) (.int j u)) Q E s):
  OpR X f (rI0 λi j=> .int (g i j)):=by
 intro pins s σ H x y v u Q I rx ry h;obtain⟨i,j,rfl,rfl,q⟩:=h;obtain⟨t,rfl⟩:=rx;obtain⟨t',rfl⟩:=ry;exact z i j t t' s _ _ ⟨.int (g i j),H,I.tok _,⟨_,rfl⟩,q⟩
def amQ{f:Value->Value->Sem Value}{g:Int->Int->Bool}
  (z:∀(i j:Int)(t u:Tok)(s:Shared)(Q:Value->Shared->Prop)(E:Value->Shared->Prop),Q (.bool (g i j)) s->wpAny (model X.prog X.w) X.A (f (.int i t) (.int j u)) Q E s):
  OpR X f (rI0 λi j=> .bl (g i j)):=by
 intro pins s σ H x y v u Q I rx ry h;obtain⟨i,j,rfl,rfl,q⟩:=h;obtain⟨t,rfl⟩:=rx;obtain⟨t',rfl⟩:=ry;exact z i j t t' s _ _ ⟨.bl (g i j),H,I,rfl,q⟩
def anx(i j:Int):Prop:=0<=j/\j<=1000000/\i.natAbs<2^64
def amM(i j:Int):Prop:=(-(2^64)<i/\i<2^64)\/(-(2^64)<j/\j<2^64)
def amM.ok{i j:Int}(h:amM i j):IntMulOk i j:=by
 rcases h with⟨h1,h2⟩|⟨h1,h2⟩
 ·exact .of_left (intBits_le_64 h1 h2)
 ·exact .of_right (intBits_le_64 h1 h2)
def jZ:OpR X (binaryOp .Add) (rI0 λi j=> .int (i+j)):=anH λ_ _ _ _ _ _ _ q=>add_int q
def pq:OpR X (binaryOp .Sub) (rI0 λi j=> .int (i - j)):=anH λ_ _ _ _ _ _ _ q=>sub_int q
def lJ:OpR X (binaryOp .Mod) (rI (λ_ j=>0<j) λi j=> .int (i%j)):=opI λi j _ _ _ _ _ z q=>by
 have h1:(0:Int)<j:=z;exact mod_int' (by lia) (by rw[Int.fmod_eq_emod_of_nonneg i (by lia)];exact q)
def Cm:OpR X (binaryOp .Pow) (rI anx λi j=> .int (i^j.toNat)):=opI λ_ _ _ _ _ _ _ z q=>pow_int_small z.1 z.2.1 z.2.2 q
def unI{f:Value->Sem Value}{g:Int->Int}
  (z:∀(i:Int)(t:Tok)(s:Shared)(Q:Value->Shared->Prop)(E:Value->Shared->Prop),Q (.int (g i) s.toks) {s with toks:=s.toks+1}->wpAny (model X.prog X.w) X.A (f (.int i t)) Q E s):
  UnR X f (rU λi=> .int (g i)):=by
 intro pins s σ H x v Q I rx h;obtain⟨i,rfl,q⟩:=h;obtain⟨t,rfl⟩:=rx;exact z i t s _ _ ⟨.int (g i),H,I.tok _,⟨_,rfl⟩,q⟩
def Uz:UnR X (unaryOp .USub) (rU λi=> .int (-i)):=unI λ_ _ _ _ _ q=>neg_int q
end
noncomputable def akC:V->V->Bool
 |.non,.non=>true|.non,.int _=>true|.int _,.non=>true|.non,.bl _=>true|.bl _,.non=>true|.non,.str _=>true|.str _,.non=>true
 |.int _,.int _=>true|.bl _,.bl _=>true|.str _,.str _=>true|.byt _,.byt _=>true
 |.int _,.str _=>true|.str _,.int _=>true|.bl _,.str _=>true|.str _,.bl _=>true
 |_,_=>false
def rEq:R2:=λx y H Q=>akC x y=true/\Q (.bl (decide (x=y))) H
def rNe:R2:=λx y H Q=>akC x y=true/\Q (.bl (!decide (x=y))) H
def ZF{i j:Int}:decide (V.int i=V.int j)=(i==j):=by
 rw[zzh];simp
def aiY{i j:Bool}:decide (V.bl i=V.bl j)=(i==j):=by
 rw[zzh];simp
def Xz{i j:Str}:decide (V.str i=V.str j)=(i==j):=by
 rw[zzh];simp
def Xf{i j:Array UInt8}:decide (V.byt i=V.byt j)=(i.toList==j.toList):=by
 rw[zzh];cases i;cases j;simp
section
variable{X:Cx}{a b c:Expr}{ta tb tc:TE}{pos:Pos}
def lN{σ:St}{H:Hp}{Q:VK}{k z:Bool}(I:Inv X pins σ H s)(q:Q (.bl k) H)(e:k=z):EP X pins σ Q (.bool z) s:=by
 subst e;exact⟨.bl k,H,I,rfl,q⟩
def nA:OpR X (compareOp .Eq) rEq:=by
 intro pins s σ H x y v u Q I rx z h;obtain⟨hs,q⟩:=h
 cases x with
 |non=>
  cases rx
  cases y with
  |non=>cases z;exact PySem.EqNone.eq_none_none (lN I q (by simp))
  |bl j=>cases z;exact PySem.EqNone.eq_none_bool (lN I q (by simp))
  |int j=>obtain⟨t',rfl⟩:=z;exact PySem.EqNone.eq_none_int (lN I q (by simp))
  |str j=>obtain⟨t',rfl⟩:=z;exact PySem.EqNone.eq_none_str (lN I q (by simp))
  |_=>exact absurd (show false=true from hs) zO
 |bl i=>
  cases rx
  cases y with
  |non=>cases z;exact PySem.EqNone.eq_bool_none (lN I q (by simp))
  |bl j=>cases z;exact eq_bool (lN I q aiY)
  |str j=>obtain⟨t',rfl⟩:=z;exact PySem.EqMixed.eq_bool_str (lN I q (by simp))
  |_=>exact absurd (show false=true from hs) zO
 |int i=>
  obtain⟨t,rfl⟩:=rx
  cases y with
  |non=>cases z;exact PySem.EqNone.eq_int_none (lN I q (by simp))
  |int j=>obtain⟨t',rfl⟩:=z;exact eq_int (lN I q ZF)
  |str j=>obtain⟨t',rfl⟩:=z;exact PySem.EqMixed.eq_int_str (lN I q (by simp))
  |_=>exact absurd (show false=true from hs) zO
 |str i=>
  obtain⟨t,rfl⟩:=rx
  cases y with
  |non=>cases z;exact PySem.EqNone.eq_str_none (lN I q (by simp))
  |bl j=>cases z;exact PySem.EqMixed.eq_str_bool (lN I q (by simp))
  |int j=>obtain⟨t',rfl⟩:=z;exact PySem.EqMixed.eq_str_int (lN I q (by simp))
  |str j=>obtain⟨t',rfl⟩:=z;exact eq_str (lN I q Xz)
  |_=>exact absurd (show false=true from hs) zO
 |byt i=>
  obtain⟨t,rfl⟩:=rx
  cases y with
  |byt j=>obtain⟨t',rfl⟩:=z;exact PySem.W.eq_bytes (lN I q Xf)
  |_=>exact absurd (show false=true from hs) zO
 |_=>cases y<;>exact absurd (show false=true from hs) zO
def Yo:OpR X (compareOp .NotEq) rNe:=by
 intro pins s σ H x y v u Q I rx z h;obtain⟨hs,q⟩:=h
 cases x with
 |non=>
  cases rx
  cases y with
  |non=>cases z;exact PySem.EqNone.ne_none_none (lN I q (by simp))
  |bl j=>cases z;exact PySem.EqNone.ne_none_bool (lN I q (by simp))
  |int j=>obtain⟨t',rfl⟩:=z;exact PySem.EqNone.ne_none_int (lN I q (by simp))
  |str j=>obtain⟨t',rfl⟩:=z;exact PySem.EqNone.ne_none_str (lN I q (by simp))
  |_=>exact absurd (show false=true from hs) zO
 |bl i=>
  cases rx
  cases y with
  |non=>cases z;exact PySem.EqNone.ne_bool_none (lN I q (by simp))
  |bl j=>cases z;exact ne_bool (lN I q (congrArg not aiY))
  |str j=>obtain⟨t',rfl⟩:=z;exact PySem.EqMixed.ne_bool_str (lN I q (by simp))
  |_=>exact absurd (show false=true from hs) zO
 |int i=>
  obtain⟨t,rfl⟩:=rx
  cases y with
  |non=>cases z;exact PySem.EqNone.ne_int_none (lN I q (by simp))
  |int j=>obtain⟨t',rfl⟩:=z;exact ne_int (lN I q (congrArg not ZF))
  |str j=>obtain⟨t',rfl⟩:=z;exact PySem.EqMixed.ne_int_str (lN I q (by simp))
  |_=>exact absurd (show false=true from hs) zO
 |str i=>
  obtain⟨t,rfl⟩:=rx
  cases y with
  |non=>cases z;exact PySem.EqNone.ne_str_none (lN I q (by simp))
  |bl j=>cases z;exact PySem.EqMixed.ne_str_bool (lN I q (by simp))
  |int j=>obtain⟨t',rfl⟩:=z;exact PySem.EqMixed.ne_str_int (lN I q (by simp))
  |str j=>obtain⟨t',rfl⟩:=z;exact ne_str (lN I q (congrArg not Xz))
  |_=>exact absurd (show false=true from hs) zO
 |byt i=>
  obtain⟨t,rfl⟩:=rx
  cases y with
  |byt j=>obtain⟨t',rfl⟩:=z;exact PySem.W.ne_bytes (lN I q (congrArg not Xf))
  |_=>exact absurd (show false=true from hs) zO
 |_=>cases y<;>exact absurd (show false=true from hs) zO
def Dr:OpR X (compareOp .Lt) (rI0 λi j=> .bl (decide (i<j))):=amQ λ_ _ _ _ _ _ _ q=>lt_int q
def alO:OpR X (compareOp .LtE) (rI0 λi j=> .bl (decide (i<=j))):=amQ λ_ _ _ _ _ _ _ q=>le_int q
def Fj:OpR X (compareOp .Gt) (rI0 λi j=> .bl (decide (j<i))):=amQ λ_ _ _ _ _ _ _ q=>gt_int q
def Gd:OpR X (compareOp .Is) (λx y H Q=>y=.non/\Q (.bl (decide (x=.non))) H):=by
 intro pins s σ H x y v u Q I z ry h;obtain⟨rfl,q⟩:=h;cases ry;refine is_none_gen (lN I q ?_)
 cases x<;>first
  |(cases z;rfl)
  |(obtain⟨t,rfl⟩:=z;rfl)
def CJ:OpR X (compareOp .IsNot) (λx y H Q=>y=.non/\Q (.bl (!decide (x=.non))) H):=by
 intro pins s σ H x y v u Q I z ry h;obtain⟨rfl,q⟩:=h;cases ry;refine isnot_none_gen (lN I q ?_)
 cases x<;>first
  |(cases z;rfl)
  |(obtain⟨t,rfl⟩:=z;rfl)
def jx(b:Expr)(h:op≠.In:=by decide)(h2:op≠.NotIn:=by decide):behindInMarks op b=false:=by
 have q:(op==CmpOp.In)=false:=by cases op<;>first|rfl|exact absurd rfl h
 have z:(op==CmpOp.NotIn)=false:=by cases op<;>first|rfl|exact absurd rfl h2
 cases b<;>simp[behindInMarks,q,z]
def uP{r:R2}(ho:OpR X (compareOp op) r)(ha:PE X a ta)(hb:PE X b tb)(hm:behindInMarks op b=false):PE X (.Compare a [op] [b] pos) (tOp r ta tb):=by
 intro pins s σ H Q I h;exact wpAny_Compare1 (anc ha hb I h λv u s2 x y H2 z rx ry q=>ho pins s2 σ H2 x y v u Q z rx ry q) hm
def Tu(t:TE):TT:=λσ H Q=>t σ H λx H'=>∃k,x=.bl k/\Q k H'
def jl{r:R2}(ho:OpR X (compareOp op) r)(ha:PE X a ta)(hb:PE X b tb)(hm:behindInMarks op b=false):PT X (.Compare a [op] [b] pos) (Tu (tOp r ta tb)):=by
 intro pins s σ H Q I h
 refine wpAny_isTrue_Compare1 (thn (ha pins s σ H _ I h) λv s1 ⟨x,H1,I1,r1,q1⟩=>thn (hb pins s1 σ H1 _ I1 q1) λu s2 ⟨y,H2,I2,r2,q2⟩=>
  thn (ho pins s2 σ H2 x y v u _ I2 r1 r2 q2) λc s3 ⟨z,H3,I3,q,k,e,q3⟩=>?_) hm
 subst e;cases q;exact yC ⟨H3,I3,q3⟩
def aiO(r r':R2)(ta tb tc:TE):TE:=λσ H Q=>ta σ H λx H1=>tb σ H1 λy H2=>r x y H2 λz H3=>∃k,z=.bl k/\
 (if k=true then tc σ H3 λw' H4=>r' y w' H4 Q else Q (.bl false) H3)
def aiG{q:CmpOp}{r r':R2}(ho:OpR X (compareOp op) r)(aa:OpR X (compareOp q) r')(ha:PE X a ta)(hb:PE X b tb)(hc:PE X c tc)
  (hm:lastMarks [op,q] [b,c]=false:=by with_unfolding_all rfl):PE X (.Compare a [op,q] [b,c] pos) (aiO r r' ta tb tc):=by
 intro pins s σ H Q I h
 refine Compare_chain (thn (ha pins s σ H _ I h) λv s1 ⟨x,H1,I1,r1,q1⟩=>chain_link (thn (hb pins s1 σ H1 _ I1 q1) λu s2 ⟨y,H2,I2,r2,q2⟩=>
  thn (ho pins s2 σ H2 x y v u _ I2 r1 r2 q2) λd s3 ⟨z,H3,I3,r3,k,e,q3⟩=>?_)) hm
 subst e;cases r3;refine yC ?_
 cases k with
 |false=>exact ite_ff ⟨.bl false,H3,I3,rfl,q3⟩
 |true=>exact ite_tt (chain_last (thn (hc pins s3 σ H3 _ I3 q3) λw' s4 ⟨z',H4,I4,r4,q4⟩=>aa pins s4 σ H4 y z' u w' Q I4 r2 r4 q4))
def Qd:(sizeLine:Nat)<2^63:=by rw[zw];decide
def Ws:OpR X (binaryOp .Add) (λx y H Q=>∃i j,x=.str i/\y=.str j/\i.length+j.length<=sizeLine/\Q (.str (i++j)) H):=by
 intro pins s σ H x y v u Q I z ry h;obtain⟨i,j,rfl,rfl,hz,q⟩:=h;obtain⟨t,rfl⟩:=z;obtain⟨t',rfl⟩:=ry;exact add_str (λt' tk=>⟨.str (i++j),H,I.tok _,⟨_,rfl⟩,q⟩) hz
def vals1{x:V}(r:Vals [x] us):∃u,us=[u]/\RelV x u:=by
 cases r with
 |cons r1 r2=>cases r2;exact⟨_,rfl,r1⟩
def vals2{x y:V}(r:Vals [x,y] us):∃u q,us=[u,q]/\RelV x u/\RelV y q:=by
 cases r with
 |cons r1 r2=>
  cases r2 with
  |cons r3 r4=>cases r4;exact⟨_,_,rfl,r1,r3⟩
def Xe(hc:X.calm=true):nF X (.builtin "max") (λxs H Q=>∃i j,xs=[.int i,.int j]/\Q (.int (if j>i then j else i)) H):=by
 intro pins s σ H xs us Q I r h;obtain⟨i,j,rfl,q⟩:=h;obtain⟨u,w',rfl,⟨t,rfl⟩,⟨t',rfl⟩⟩:=vals2 r;refine max_two_ints (I.ok.hd hc) λh' tk k=>⟨_,H,I.kept k,?_,q⟩;by_cases z:j>i
 ·rw[zi z,zi z];exact⟨_,rfl⟩
 ·rw[zf z,zf z];exact⟨_,rfl⟩
def Yn(hc:X.calm=true):nF X (.builtin "min") (λxs H Q=>∃i j,xs=[.int i,.int j]/\Q (.int (if j<i then j else i)) H):=by
 intro pins s σ H xs us Q I r h;obtain⟨i,j,rfl,q⟩:=h;obtain⟨u,w',rfl,⟨t,rfl⟩,⟨t',rfl⟩⟩:=vals2 r;refine min_two_ints (I.ok.hd hc) λh' tk k=>⟨_,H,I.kept k,?_,q⟩;by_cases z:j<i
 ·rw[zi z,zi z];exact⟨_,rfl⟩
 ·rw[zf z,zf z];exact⟨_,rfl⟩
def YC:nF X (.type "int") (λxs H Q=>(∃i,xs=[.int i]/\Q (.int i) H)\/∃k,xs=[.bl k]/\Q (.int (if k then 1 else 0)) H):=by
 intro pins s σ H xs us Q I r h;rcases h with⟨i,rfl,q⟩|⟨k,rfl,q⟩
 ·obtain⟨u,rfl,t,rfl⟩:=vals1 r
  exact call_int_int ⟨.int i,H,I,⟨_,rfl⟩,q⟩
 ·obtain⟨u,rfl,z⟩:=vals1 r
  cases z;exact call_int_bool ⟨.int (if k then 1 else 0),H,I.tok _,⟨_,rfl⟩,q⟩
end
structure akh(h:Heap)(x dx C:Addr)(mA:Str->Option Value):Prop where
 obj:h.get? x=some (PySem.W.instObj C dx)
 ns:h.Ns1 dx mA
 ne:dx≠x
def aac{dx:Addr}{mA:Str->Option Value}(n:h.Ns1 dx mA):∃od,h.get? dx=some od/\∀name,PySem.W.lookIn name od=some (mA name):=by
 obtain⟨o,es,ep,ho,hd,hk,_,hm⟩:=n;refine⟨o,ho,λname=>?_⟩;have e:=hm name;unfold nsFind findBy at e;rw[<-Array.find?_toList]at e;unfold PySem.W.lookIn;rw[hd];dsimp only;split
 ·rename_i y q
  rw[q]at e;exact congrArg some e
 ·rename_i q
  rw[q]at e
  have a:es.toList.any (·.refKey)=false:=by
   rw[List.any_eq_false];intro y hy;obtain⟨z,t,aa⟩:=hk y (Array.mem_toList_iff.mp hy);simp[DictEntry.refKey,aa]
  have a':¬es.toList.any (·.refKey)=true:=by rw[a];exact zO
  rw[zf a'];exact congrArg some e
def akh.look{x dx:Addr}{mA:Str->Option Value}(I:akh h x dx C mA):∃q,PySem.W.InstAt h x (PySem.W.instObj C dx) C (some q)/\∀name,PySem.W.lookIn name q=some (mA name):=
 let⟨q,ho,hl⟩:=aac I.ns
 ⟨q,⟨I.obj,rfl,rfl,ho⟩,hl⟩
section
variable{prog:Program}{w:World}{A:Around}{E:Value->Shared->Prop}{s:Shared}{K:Fg_}{x dx C f:Addr}{mA:Str->Option Value}{name:Str}{v:Value}
def get_map{q:Bool}{Q:Value->Shared->Prop}(X:K.In s.heap)(I:akh s.heap x dx C mA)(hg:PySem.W.plainGet K C name=true)(hh:PySem.W.hasDictIn K C=true)
  (ha:PySem.W.findIn K (.ref C) name=some none) (hv:mA name=some v) (z:PySem.W.handedIn v=true) (h:Q v {s with toks:=s.toks+1}):
  wpAny (model prog w) A (getAttr (.ref x) name q) Q E s:=by
 obtain⟨od,J,hl⟩:=I.look;exact PySem.W.get_value X J (zz1 hg).1 (PySem.W.findObj_own hh ha rfl (by rw[hl,hv])) z h
def aik{pl:Sem Bool}{Q:Value×List Value->Shared->Prop}(X:K.In s.heap)(I:akh s.heap x dx C mA)(q:PySem.W.plainGet K C name=true)
  (hf:PySem.W.findIn K (.ref C) name=some (some (.ref f))) (ht:PySem.W.isFn K (.ref f)=true) (hv:mA name=none) (h:Q (.ref f,[.ref x]) s):
  wpAny (model prog w) A (getMethod (.ref x) name pl) Q E s:=by
 obtain⟨od,J,z⟩:=I.look;exact PySem.W.method_fn X J (zz1 q).1 (zz1 q).2 hf (beq_iff_eq.mp ht) (by show(PySem.W.lookIn name od).map (·.isSome)=some false;rw[z,hv];rfl) h
def akk{ns:List Str}{Q:Unit->Shared->Prop}(X:K.In s.heap)(I:akh s.heap x dx C mA)
  (hs:PySem.W.findIn K (.ref C) "__setattr__" =some (some (.builtin "object.__setattr__"))) (hp:PySem.W.plainOver K C=true) (ht:PySem.W.takerIn K C name=some none) (hh:PySem.W.hasDictIn K C=true)
  (hw:PySem.Within mA ns) (hsz:ns.length<=sizeLine)
  (h:∀h',akh h' x dx C (λy=>if y=name then some v else mA y)->Heap.SameBut dx s.heap h'->Q () {s with heap:=h',toks:=s.toks+2}):
  wpAny (model prog w) A (setAttr (.ref x) name v) Q E s:=by
 obtain⟨od,J,hl⟩:=I.look;refine PySem.W.set_plain X J hs (PySem.W.osa_open (s:={s with toks:=s.toks+1}) (r:=none) X J hp ht λb=>?_);obtain⟨cd,hc,ab⟩:=PySem.W.any_some hh;have hx:s.heap.get? x=some ⟨.ref C,some dx,.plain, #[]⟩:=I.obj;refine ze (zA (ze (ze (wpAny_loadPart hx (ze (PySem.W.Looks.here (s:={s with toks:=s.toks+1}) (PySem.W.looks_clsIn X hc) ?_))))));rw[ab];refine zA (a:=some dx) (ze (zA (ze ?_)));refine wpAny_nsSet1 (s:={s with toks:=s.toks+1}) I.ns λh' q z=>?_;obtain⟨oD,ae,af,ac,aa,ad⟩:=q.count (PySem.Within.cons name v hw);refine ze (wpAny_lookBehind ac (by rw[aa];exact pastItsLine_dict (zS ad (by rw[zG];lia))) ?_);exact zA (h _ ⟨(z.2 _ (Ne.symm I.ne)).trans I.obj,q,I.ne⟩ z)
def aij{R:Result->Shared->Prop}{vs:List Value}{q:List (Str×Value)}(X:K.In s.heap)(hm:PySem.W.makesIn K C=true)
  (hi:PySem.W.findIn K (.ref C) "__init__" =some (some (.ref f))) (z:PySem.W.typeIn K (.ref f)=some (.type "function"))
  (h:codeAny (model prog w) (A.under (.builtin "type.__call__" ⟨.ref C::vs,q⟩)) (.call (.ref f) ⟨.ref (s.heap.objs.size+1)::vs,q⟩) (PySem.W.InitBack (s.heap.objs.size+1) R)
   {s with heap:=(s.heap.push PySem.W.emptyDict).push (PySem.W.instObj C s.heap.objs.size)}):
  codeAny (model prog w) A (.call (.ref C) ⟨vs,q⟩) R s:=by
 obtain⟨hh,g,d,t,os⟩:=s;exact PySem.W.make_core (yyj X hm) (PySem.W.looks_findIn X hi) (λself=>PySem.W.bind_fn X self z) (.inl rfl) h
def Yg{R:Result->Shared->Prop}(X:K.In s.heap)(hm:PySem.W.makesIn K C=true)
  (hi:PySem.W.findIn K (.ref C) "__init__" =some (some (.builtin "object.__init__")))
  (q:∀self,PySem.W.Looks (model prog w) s.heap (bindSpecial (.builtin "object.__init__") self) (.builtin "object.__init__",[self]))
  (h:codeAny (model prog w) (A.under (.builtin "type.__call__" ⟨[.ref C],[]⟩)) (.call (.builtin "object.__init__") ⟨[.ref (s.heap.objs.size+1)],[]⟩) (PySem.W.InitBack (s.heap.objs.size+1) R)
   {s with heap:=(s.heap.push PySem.W.emptyDict).push (PySem.W.instObj C s.heap.objs.size)}):
  codeAny (model prog w) A (.call (.ref C) ⟨[],[]⟩) R s:=by
 obtain⟨z,g,d,t,os⟩:=s;exact PySem.W.make_core (yyj X hm) (PySem.W.looks_findIn X hi) q (.inr ⟨rfl,rfl⟩) h
end
noncomputable def Fe(f:Str)(v:V):List (Str×V)->List (Str×V)
 |[]=>[(f,v)]
 |(g,x)::r=>if g=f then(g,v)::r else(g,x)::Fe f v r
theorem Ks(f g:Str)(v:V):∀fs:List (Str×V),(Fe f v fs).lookup g=if g=f then some v else fs.lookup g
 |[]=>by
  show List.lookup g [(f,v)]=_;by_cases h:g=f
  ·have q:(g==f)=true:=beq_iff_eq.mpr h
   simp only[List.lookup,q,zi h]
  ·have q:(g==f)=false:=beq_eq_false_iff_ne.mpr h
   simp only[List.lookup,q,zf h]
 |(k,x)::r=>by
  have ih:=Ks f g v r;rw[show Fe f v ((k,x)::r)=(if k=f then(k,v)::r else(k,x)::Fe f v r)from rfl];by_cases z:k=f
  ·rw[zi z]
   by_cases h:g=k
   ·have q:(g==k)=true:=beq_iff_eq.mpr h
    simp only[List.lookup,q,zi (h.trans z)]
   ·have q:(g==k)=false:=beq_eq_false_iff_ne.mpr h
    simp only[List.lookup,q,zf (λe:g=f=>h (e.trans z.symm))]
  ·rw[zf z]
   by_cases h:g=k
   ·have q:(g==k)=true:=beq_iff_eq.mpr h
    simp only[List.lookup,q,zf (λe:g=f=>z (h.symm.trans e))]
   ·have q:(g==k)=false:=beq_eq_false_iff_ne.mpr h
    simp only[List.lookup,q];exact ih
theorem JX(f:Str)(v:V):∀fs:List (Str×V),f∈(Fe f v fs).map (·.1)/\∀g,g∈fs.map (·.1)->g∈(Fe f v fs).map (·.1)
 |[]=>⟨by simp[Fe],λg h=>by simp at h⟩
 |(k,x)::r=>by
  obtain⟨z,i2⟩:=JX f v r;rw[show Fe f v ((k,x)::r)=(if k=f then(k,v)::r else(k,x)::Fe f v r)from rfl];by_cases q:k=f
  ·rw[zi q]
   subst q;exact⟨by simp,λg h=>by simpa using h⟩
  ·rw[zf q]
   refine⟨?_,λg h=>?_⟩
   ·rw[zl]
    exact zn _ z
   ·rw[zl]at h⊢
    rcases zx.mp h with e|e
    ·exact zx.mpr (.inl e)
    ·exact zn _ (i2 g e)
theorem JP(f:Str)(v:V):∀fs:List (Str×V),(Fe f v fs).length<=fs.length+1
 |[]=>by simp[Fe]
 |(k,x)::r=>by
  have z:=JP f v r;rw[show Fe f v ((k,x)::r)=(if k=f then(k,v)::r else(k,x)::Fe f v r)from rfl];by_cases q:k=f
  ·rw[zi q,zG,zG];lia
  ·rw[zf q,zG,zG];lia
def KH.some_of{v:V}{o:Option Value}(r:KH (some v) o):∃u,o=some u/\RelV v u:=by
 cases o with
 |none=>exact(show False from r).elim
 |some u=>exact⟨u,rfl,r⟩
def KH.none_of{o:Option Value}(r:KH none o):o=none:=by
 cases o with
 |none=>rfl
 |some u=>exact(show False from r).elim
def YJ{v:V}(r:RelV v u):PySem.W.handedIn u=true:=by
 cases v with
 |non=>cases (show u=Value.none from r);rfl
 |bl b=>cases (show u=Value.bool b from r);rfl
 |int i=>obtain⟨t,e⟩:=(show∃t,u=Value.int i t from r);cases e;rfl
 |str x=>obtain⟨t,e⟩:=(show∃t,u=Value.str x t from r);cases e;rfl
 |byt b=>obtain⟨t,e⟩:=(show∃t,u=Value.bytes b t from r);cases e;rfl
 |flt b=>obtain⟨t,e⟩:=(show∃t,u=Value.float b t from r);cases e;rfl
 |ref a=>cases (show u=Value.ref a from r);rfl
 |ty n=>cases (show u=Value.type n from r);rfl
section
variable{P:Program}{w:World}{H H':Hp}{h h':Heap}{a C dx:Addr}{fs fs':List (Str×V)}
def Oa(hok:HOk P w H h)(e:H a=some (.ins C dx fs)):∃mA,akh h a dx C mA/\(∀f,KH (fs.lookup f) (mA f))/\PySem.Within mA (fs.map (·.1))/\fs.length<=1000/\H dx=some (.own a):=by
 obtain⟨d,z,ne,ob,mA,n,r,q⟩:=(show mO P w H h a (.ins C dx fs)from hok a _ e);exact⟨mA,⟨ob,n,ne⟩,r,q,z,d⟩
end
structure Cls(K:Fg_)(C:Addr):Prop where
 pg:PySem.W.plainGet K C Str.empty=true
 hd:PySem.W.hasDictIn K C=true
 po:PySem.W.plainOver K C=true
 sa:PySem.W.findIn K (.ref C) "__setattr__" =some (some (.builtin "object.__setattr__"))
def Cls.get(c:Cls K C)(f:Str):PySem.W.plainGet K C f=true:=c.pg
def jt(K:Fg_)(C:Addr)(f:Str):Prop:=PySem.W.findIn K (.ref C) f=some none
def jt.taker{f:Str}(n:jt K C f):PySem.W.takerIn K C f=some none:=by
 unfold PySem.W.takerIn;rw[show PySem.W.findIn K (.ref C) f=some none from n];rfl
structure Con(K:Fg_)(C:Addr)(f:Str)(v:V)(u:Value):Prop where
 at_:PySem.W.findIn K (.ref C) f=some (some u)
 rel:RelV v u
 get:PySem.W.specialIn K u "__get__" =some none
 cp:PySem.W.copiedNames.contains f=false
structure Meth(K:Fg_)(C:Addr)(m:Str)(f:Addr):Prop where
 at_:PySem.W.findIn K (.ref C) m=some (some (.ref f))
 fn:PySem.W.isFn K (.ref f)=true
 kp:PySem.W.keepIn K (.ref f)=true
section
variable{X:Cx}{pins:List (Addr×Obj)}{σ:St}{H:Hp}{s:Shared}{a C dx:Addr}{fs:List (Str×V)}{f:Str}{v:V}{A:Around}{E:Value->Shared->Prop}
def VF{b:Bool}{Q:Value->Shared->Prop}(I:Inv X pins σ H s)(e:H a=some (.ins C dx fs))(c:Cls X.K C)(n:jt X.K C f)(l:fs.lookup f=some v)
  (h:∀u s',Inv X pins σ H s'->RelV v u->Q u s'):wpAny (model X.prog X.w) A (getAttr (.ref a) f b) Q E s:=by
 obtain⟨mA,O,r,_,_,_⟩:=Oa I.hok e;obtain⟨u,z,q⟩:=KH.some_of (v:=v) (o:=mA f) (by rw[<-l];exact r f);exact get_map I.kIn O (c.get f) c.hd n z (YJ q) (h u _ (I.tok _) q)
def LQ{m:Str}{g:Addr}{pl:Sem Bool}{Q:Value×List Value->Shared->Prop}(I:Inv X pins σ H s)(e:H a=some (.ins C dx fs))(c:Cls X.K C)(k:Meth X.K C m g)(l:fs.lookup m=none)
  (h:Q (.ref g,[.ref a]) s):wpAny (model X.prog X.w) A (getMethod (.ref a) m pl) Q E s:=by
 obtain⟨mA,O,r,_,_,_⟩:=Oa I.hok e;have hn:mA m=none:=KH.none_of (by rw[<-l];exact r m);exact aik I.kIn O (c.get m) k.at_ k.fn hn h
def Wi{y:V}{Q:Unit->Shared->Prop}(I:Inv X pins σ H s)(e:H a=some (.ins C dx fs))(c:Cls X.K C)(n:jt X.K C f)(hl:fs.length<1000)(ry:RelV y u)
  (h:∀s',Inv X pins σ (upd H a (.ins C dx (Fe f y fs))) s'->Q () s'):wpAny (model X.prog X.w) A (setAttr (.ref a) f u) Q E s:=by
 obtain⟨mA,O,r,wi,_,ho⟩:=Oa I.hok e;have hz:(fs.map (·.1)).length<=sizeLine:=by rw[za,zw];lia
 refine akk I.kIn O c.sa c.po n.taker c.hd wi hz λh' O' sb=>h _ ?_;have hd:∃o,h'.get? dx=some o:=let⟨o,_,_,e',_⟩:=O'.ns;⟨o,e'⟩
 refine I.write (x:=a) (e:=dx) (by rw[e];exact True.intro) (.inr ho) (λb q hb z=>(sb.2 b hb).trans z) hd ?_;refine⟨by rw[jn O.ne];exact ho,?_,O.ne,O'.obj,_,O'.ns,λg=>?_,λg hg=>?_⟩
 ·have:=JP f y fs;lia
 ·show KH ((Fe f y fs).lookup g) (if g=f then some u else mA g)
  rw[Ks];by_cases q:g=f
  ·rw[zi q,zi q];exact ry
  ·rw[zf q,zf q];exact r g
 ·by_cases q:g=f
  ·rw[q];exact(JX f y fs).1
  ·refine(JX f y fs).2 g (wi g λz=>hg ?_)
   show(if g=f then some u else mA g)=none;rw[zf q];exact z
def Inv.made(I:Inv X pins σ H s):Inv X pins σ (upd (upd H s.heap.objs.size (.own (s.heap.objs.size+1))) (s.heap.objs.size+1) (.ins C s.heap.objs.size []))
  {s with heap:=(s.heap.push PySem.W.emptyDict).push (PySem.W.instObj C s.heap.objs.size)}:=by
 have z:(s.heap.push PySem.W.emptyDict).get? s.heap.objs.size=some PySem.W.emptyDict:=zB s.heap rfl
 have e2:((s.heap.push PySem.W.emptyDict).push (PySem.W.instObj C s.heap.objs.size)).get? (s.heap.objs.size+1)=some (PySem.W.instObj C s.heap.objs.size):=by
  have:=zB (s.heap.push PySem.W.emptyDict) (o:=PySem.W.instObj C s.heap.objs.size) rfl
  rwa [zzE]at this
 have e3:(s.heap.push PySem.W.emptyDict).Ns s.heap.objs.size (λ_=>none):=⟨PySem.W.emptyDict, #[],_,z,rfl,(λe he=>absurd he (by simp)),λ_=>rfl⟩;have I1:=I.laid (a:=s.heap.objs.size) (o:=.own (s.heap.objs.size+1)) (h':=s.heap.push PySem.W.emptyDict) (t':=s.toks) (λb u q=>zd _ q) (zm _) ⟨_,z⟩;refine I1.laid (a:=s.heap.objs.size+1) (o:=.ins C s.heap.objs.size []) (t':=s.toks) (λb u q=>zd _ q) (yym (zzE _ _)) ?_;have ne:s.heap.objs.size≠s.heap.objs.size+1:=zE (zzR _);refine⟨by rw[jn ne,jd],zM _,ne,e2,λ_=>none,(Heap.Ns1.of_empty e3).at λo q=>zd _ q,λ_=>True.intro,λy hy=>absurd rfl hy⟩
def akG{prog:Program}{w:World}{env:Env}{pos:Pos}{s:Shared}{Q:Value->Shared->Prop}(z:attributeBase e f env (eval e env)=eval e env)
  (h:wpAny (model prog w) A (eval e env) (λo q=>wpAny (model prog w) A (getAttr o f true) Q E q) E s):wpAny (model prog w) A (eval (.Attribute e f pos) env) Q E s:=
 Attribute_any_ h (by rw[arm_eval_Attribute,z])
end
def ala(K:Fg_)(ta:TE)(f:Str):TE:=λσ H Q=>ta σ H λx H1=>∃a C dx fs v,x=.ref a/\H1 a=some (.ins C dx fs)/\Cls K C/\jt K C f/\fs.lookup f=some v/\Q v H1
def alg(K:Fg_)(ta tv:TE)(f:Str):TS:=λD σ H=>tv σ H λy H1=>ta σ H1 λx H2=>∃a C dx fs,x=.ref a/\H2 a=some (.ins C dx fs)/\Cls K C/\jt K C f/\fs.length<1000/\
 D.nx σ (upd H2 a (.ins C dx (Fe f y fs)))
section
variable{X:Cx}{o e value:Expr}{f:Str}{pos pos' tpos:Pos}{ta tv:TE}
def alc(he:PE X e ta)(hb:attributeBase e f X.env (eval e X.env)=eval e X.env):PE X (.Attribute e f pos) (ala X.K ta f):=by
 intro pins s σ H Q I h;refine akG hb (thn (he pins s σ H _ I h) λu s1 ⟨x,H1,I1,rx,a,C,dx,fs,v,ex,ea,c,n,l,q⟩=>?_);subst ex;obtain rfl:u=Value.ref a:=rx;exact VF I1 ea c n l λu' s2 z ru=>⟨v,H1,z,ru,q⟩
def amw(ha:PE X o ta)(z:PE X value tv)(hs:swapsWith value (some (.Attribute o f pos')) pos.line X.env=pure false):PS X (.Assign [.Attribute o f pos'] value pos) (alg X.K ta tv f):=by
 intro pins s σ H D I h;refine plainObj_wpAny_Assign_Attribute (thn (z pins s σ H _ I h) λu s1 ⟨y,H1,I1,ry,q⟩=>thn (ha pins s1 σ H1 _ I1 q) λov s2 ⟨x,H2,I2,rx,a,C,dx,fs,ex,ea,c,n,l,q2⟩=>?_) hs;subst ex;obtain rfl:ov=Value.ref a:=rx;exact Wi I2 ea c n l ry λs3 I3=>⟨σ,_,I3,q2⟩
end
section
variable{X:Cx}{pins:List (Addr×Obj)}{σ:St}{H:Hp}{s:Shared}{A:Around}{E:Value->Shared->Prop}{Q:Value->Shared->Prop}{c:Value}{b:Bool}
inductive Kv(K:Fg_)(H:Hp):V->Value->Prop where
 |non:Kv K H .non (.type "NoneType")
 |bl (x:Bool):Kv K H (.bl x) (.type "bool")
 |int (i:Int):Kv K H (.int i) (.type "int")
 |str (x:Str):Kv K H (.str x) (.type "str")
 |flt (x:UInt64):Kv K H (.flt x) (.type "float")
 |lst {a:Addr} {xs:List V} (e:H a=some (.lst xs)):Kv K H (.ref a) (.type "list")
 |frz {a:Addr} {o:Obj} {xs:List V} (e:H a=some (.frz o (.lst xs))):Kv K H (.ref a) (.type "list")
 |tup {a:Addr} {xs:List V} (e:H a=some (.tup xs)):Kv K H (.ref a) (.type "tuple")
 |dK {a:Addr} {kvs:List (Key×V)} (e:H a=some (.dK kvs)):Kv K H (.ref a) (.type "dict")
 |dT {a:Addr} {kvs:List (List Key×V)} (e:H a=some (.dT kvs)):Kv K H (.ref a) (.type "dict")
 | ins {a C dx:Addr} {fs:List (Str×V)} (e:H a=some (.ins C dx fs)) (cl:Cls K C) (ha:PySem.W.findIn K (.ref C) "__class__" =some (some (.builtin "object.__class__")))
   (hn:PySem.W.specialIn K (.builtin "object.__class__") "__get__" =some (some (.builtin "getset_descriptor.__get__"))) (htk:PySem.W.takesIn K (.builtin "object.__class__")=some true)
   (hm:PySem.W.mroIn K C (.type "object")=some true):Kv K H (.ref a) (.ref C)
def Ql{x:V}{t:Value}(I:Inv X pins σ H s)(rx:RelV x u)(ty:Kv X.K H x t)(e:PySem.W.kitOne X.K t c=some b)(h:∀tk,Q (.bool b) {s with toks:=tk}):
  wpAny (model X.prog X.w) A (call (.builtin "isinstance") [u,c]) Q E s:=by
 cases ty with
 |non=>cases (show u=Value.none from rx);exact yr PySem.W.kitx_none I.kIn True.intro e (λz=>nomatch z) h
 |bl y=>cases (show u=Value.bool y from rx);exact yr PySem.W.kitx_bool I.kIn True.intro e (λz=>nomatch z) h
 |int i=>obtain⟨t,q⟩:=(show∃t,u=Value.int i t from rx);cases q;exact yr PySem.W.kitx_int I.kIn True.intro e (λz=>nomatch z) h
 |str y=>obtain⟨t,q⟩:=(show∃t,u=Value.str y t from rx);cases q;exact yr PySem.W.kitx_str I.kIn True.intro e (λz=>nomatch z) h
 |flt y=>obtain⟨t,q⟩:=(show∃t,u=Value.float y t from rx);cases q;exact yr PySem.W.kitx_float I.kIn True.intro e (λz=>nomatch z) h
 | @lst a xs ea=>
  cases (show u=Value.ref a from rx);obtain⟨_,_,n,_,h1⟩:=(show mO X.prog X.w H s.heap a (.lst xs)from I.hok a _ ea);exact yr PySem.W.kitx_list I.kIn ⟨_,h1,rfl⟩ e (λz=>nomatch z) h
 | @frz a ob xs ea=>
  cases (show u=Value.ref a from rx);obtain⟨_,_,_,n,_,h1⟩:=(show mO X.prog X.w H s.heap a (.frz ob (.lst xs))from I.hok a _ ea);exact yr PySem.W.kitx_list I.kIn ⟨_,h1,rfl⟩ e (λz=>nomatch z) h
 | @tup a xs ea=>
  cases (show u=Value.ref a from rx);obtain⟨_,_,_,p⟩:=(show mO X.prog X.w H s.heap a (.tup xs)from I.hok a _ ea);obtain⟨o,h1,h2,_⟩:=p;exact yr PySem.W.kitx_tuple I.kIn ⟨o,h1,h2⟩ e (λz=>nomatch z) h
 | @dK a kvs ea=>
  cases (show u=Value.ref a from rx);obtain⟨_,_,vs,_,p⟩:=(show mO X.prog X.w H s.heap a (.dK kvs)from I.hok a _ ea);obtain⟨o,es,ep,h1,h2,_⟩:=p;exact yr PySem.W.kitx_dict I.kIn ⟨o,h1,h2.1⟩ e (λz=>nomatch z) h
 | @dT a kvs ea=>
  cases (show u=Value.ref a from rx);obtain⟨_,_,xs,_,o,es,ep,h1,h2,_⟩:=(show mO X.prog X.w H s.heap a (.dT kvs)from I.hok a _ ea);exact yr PySem.W.kitx_dict I.kIn ⟨o,h1,h2.1⟩ e (λz=>nomatch z) h
 | @ins a C dx fs ea cl ha hn htk hm=>
  cases (show u=Value.ref a from rx);obtain⟨mA,O,_⟩:=Oa I.hok ea;obtain⟨od,J,_⟩:=O.look;exact yr (PySem.W.kitx_own (cl.get _) cl.hd ha hn htk hm) I.kIn J e (λz=>nomatch z) h
end
structure qY(k:Nat)(A:Around):Prop where
 hd:A.handled=none
 dp:A.depth+3*k+5<recursionLimit
 un:A.units+16*k+200<cLine
def qY.mono{j k:Nat}(r:qY k A)(h:j<=k):qY j A:=⟨r.hd,by have:=r.dp;lia,by have:=r.un;lia⟩
theorem qY.deeper{k:Nat}{A:Around}(r:qY (k+1) A)(env:Env):qY k (A.deeper env):=
 ⟨r.hd,by have:=r.dp;show A.depth+1+3*k+5<_;lia,by have:=r.un;show A.units+3+16*k+200<_;lia⟩
theorem qY.in1{k:Nat}{A:Around}(r:qY (k+1) A):qY k A.in1:=
 ⟨r.hd,by have:=r.dp;show A.depth+3*k+5<_;lia,by have:=r.un;show A.units+1+16*k+200<_;lia⟩
def WW{q:List (Str×Value)}:(A.under (.builtin "type.__call__" ⟨.ref C::us,q⟩)).depth=A.depth+1:=by
 first|rfl|simp[Around.under,Code.weight,Code.isCreation,Code.isGuard,Code.isCaller,Code.frames,Code.isFrame,guardIds]
def Wc{q:List (Str×Value)}:(A.under (.builtin "type.__call__" ⟨.ref C::us,q⟩)).units=A.units+1:=by
 first|rfl|simp[Around.under,Code.cUnits,Code.frames,Code.isFrame]
def qY.make{k:Nat}(r:qY (k+1) A)(C:Addr)(us:List Value)(q:List (Str×Value)):qY k (A.under (.builtin "type.__call__" ⟨.ref C::us,q⟩)):=
 ⟨r.hd,by have:=r.dp;rw[WW];lia,by have:=r.un;rw[Wc];lia⟩
theorem qY.depth{k:Nat}{A:Around}(r:qY k A):A.depth<recursionLimit:=by have:=r.dp;lia
theorem qY.units{k:Nat}{A:Around}(r:qY k A):A.units+64<cLine:=by have:=r.un;lia
def qY.units0{k:Nat}(r:qY k A):A.units<cLine:=by have:=r.un;lia
def Vw:TA:=λ_ H Q=>Q [] H
def ql(ta:TE)(tr:TA):TA:=λσ H Q=>ta σ H λx H1=>tr σ H1 λxs H2=>Q (x::xs) H2
section
variable{X:Cx}{e:Expr}{es:List Expr}{te:TE}{t:TA}{pos:Pos}
def jc:PA X [] Vw:=λ_ _ _ _ H Q I h=>Calls.spliced_nil ⟨[],H,I,.nil,h⟩
def iY(ha:PE X e te)(hr:PA X es t)(hs:starEach (e::es) X.env=(false,eval e X.env)::starEach es X.env:=by rfl):PA X (e::es) (ql te t):=by
 intro pos pins s σ H Q I h;rw[hs];show wpAny _ _ (spliced ((false,eval e X.env)::backTo pos (starEach es X.env))) _ _ s;refine Calls.spliced_cons (thn (ha pins s σ H _ I h) λu s1 ⟨x,H1,I1,q,z⟩=>?_);exact thn (hr pos pins s1 σ H1 _ I1 z) λus s2 ⟨xs,H2,I2,r2,q2⟩=>⟨x::xs,H2,I2,.cons q r2,q2⟩
def anv(t:TA):TE:=λσ H Q=>t σ H λxs H1=>xs.length<=sizeLine/\∀p,H1 p=none->Q (.ref p) (upd H1 p (.tup xs))
def alV(t:TA):TE:=λσ H Q=>t σ H λxs H1=>xs.length<=sizeLine/\∀p,H1 p=none->Q (.ref p) (upd H1 p (.lst xs))
def nM{x1}(h:PA X es t):PE X (.Tuple es x1 pos) (anv t):=by
 intro pins s σ H Q I hq;refine wpAny_Tuple_spliced (thn (h pos pins s σ H _ I hq) λus s1 ⟨xs,H1,I1,r,z,q⟩=>⟨by rw[<-r.length];exact z,?_⟩);have hf:H1 s1.heap.objs.size=none:=I1.hok.fresh (zm _);refine⟨.ref s1.heap.objs.size,upd H1 s1.heap.objs.size (.tup xs),I1.laid (t':=s1.toks) (λb u e=>zd _ e) (zm _) ?_,rfl,q _ hf⟩;exact⟨z,us,r,⟨_,zB _ rfl,rfl,_,rfl⟩⟩
def lE(h:PA X es t):PE X (.List es pos) (alV t):=by
 intro pins s σ H Q I hq;refine wpAny_List_spliced (thn (h pos pins s σ H _ I hq) λus s1 ⟨xs,H1,I1,r,z,q⟩=>⟨by rw[<-r.length];exact z,?_⟩);have hf:H1 s1.heap.objs.size=none:=I1.hok.fresh (zm _);refine⟨.ref s1.heap.objs.size,upd H1 s1.heap.objs.size (.lst xs),I1.laid (t':=s1.toks) (λb u e=>zd _ e) (zm _) ?_,rfl,q _ hf⟩;exact⟨z,us,0,r,zB _ rfl⟩
end
abbrev Sp:=List V->Hp->VK->XK->Prop
abbrev CXT:=List Env->Hp->Shared->XK->Value->Shared->Prop
structure aas(P:Program)(w:World)(K:Fg_)(mg:Str->Option Value)(base:Heap)(A:Around)(outer:List Env)(s:Shared)(H:Hp):Prop where
 frames:A.frames=some outer
 mod:Mod K mg base
 bs:∀b o,base.get? b=some o->s.heap.get? b=some o/\H b=none
 bsz:base.objs.size<=s.heap.objs.size
 funs:s.heap.FunFrames base outer
 frf:∀b∈frs outer,H b=none
 hok:HOk P w H s.heap
 bare:AllBare s.gens
def CE(outer:List Env)(P:Program)(w:World)(H:Hp)(s:Shared)(Q:VK)(u:Value)(s':Shared):Prop:=
 ∃v H',s'.os=s.os/\AllBare s'.gens/\Un (frs outer) [] H H' s.heap s'.heap/\HOk P w H' s'.heap/\RelV v u/\Q v H'
def CR(CX:CXT)(outer:List Env)(P:Program)(w:World)(H:Hp)(s:Shared)(Q:VK)(E:XK)(r:Result)(s':Shared):Prop:=
 match r with
 |.ok (.ret u)=>CE outer P w H s Q u s'
 |.ok _=>False
 |.error e=>CX outer H s E e s'
structure kI(P:Program)(w:World)(K:Fg_)(mg:Str->Option Value)(base:Heap)(CX:CXT)(k:Nat)(f:Addr)(fd:FuncData)(ps:List Str)(sp:Sp):Prop where
 len:∀vs H Q E,sp vs H Q E->vs.length=ps.length
 run:∀(A:Around)(outer:List Env)(s:Shared)(H:Hp)(args:Args)(us:List Value)(vs:List V)(Q:VK)(E:XK),qY k A->aas P w K mg base A outer s H->BindsTo s fd args (ps.zip us)->Vals vs us->sp vs H Q E->
  codeAny (model P w) A (.call (.ref f) args) (CR CX outer P w H s Q E) s
def aas.make{H:Hp}(e:aas P w K mg base A outer s H)(C:Addr)(us:List Value)(q:List (Str×Value)):
  aas P w K mg base (A.under (.builtin "type.__call__" ⟨.ref C::us,q⟩)) outer s H:=⟨by first|exact e.frames|(simpa [Around.under,Code.envs,Code.isFrame,pushEnvs] using e.frames),e.mod,e.bs,e.bsz,e.funs,e.frf,e.hok,e.bare⟩
theorem aas.in1{P:Program}{w:World}{K:Fg_}{mg:Str->Option Value}{base:Heap}{A:Around}{outer:List Env}{s:Shared}{H:Hp}(e:aas P w K mg base A outer s H):
  aas P w K mg base A.in1 outer s H:=⟨e.frames,e.mod,e.bs,e.bsz,e.funs,e.frf,e.hok,e.bare⟩
section
variable{X:Cx}{pins:List (Addr×Obj)}{σ:St}{H:Hp}{s s':Shared}
def Inv.env0(I:Inv X pins σ H s):aas X.prog X.w X.K X.mg X.base X.A X.stack s H:=
 ⟨I.ok.frames,I.ok.mod,I.bs,zS I.ok.bsz I.sz,I.stack,I.stkFree,I.hok,I.bare⟩
def Inv.after{Q:VK}(I:Inv X pins σ H s)(h:CE X.stack X.prog X.w H s Q u s'):EP X pins σ Q u s':=by
 obtain⟨v,H',os,bare,un,hok,r,q⟩:=h;obtain⟨hh,g,d,t,aa⟩:=s';obtain rfl:aa=s.os:=os;exact⟨v,H',I.call (h':=hh) (g':=g) (d':=d) (t':=t) (ch:=[]) un hok bare (λb z=>absurd z (by simp)),r,q⟩
end
def aiE(sp:Sp)(dvs:List V)(E:XK)(t:TA):TE:=λσ H Q=>t σ H λvs H1=>sp (vs++dvs) H1 Q E
def alM(C:Addr)(sp:Sp)(dvs:List V)(E:XK)(t:TA):TE:=λσ H Q=>t σ H λvs H1=>∀x dx,H1 x=none->H1 dx=none->dx≠x->
 sp (.ref x::(vs++dvs)) (upd (upd H1 dx (.own x)) x (.ins C dx [])) (λv H2=>v=.non/\Q (.ref x) H2) E
def Binds(K:Fg_)(fd:FuncData)(ps:List Str)(ds:List Value):Prop:=
 ∀(s:Shared)(us:List Value),K.In s.heap->(us++ds).length=ps.length->BindsTo s fd ⟨us,[]⟩ (ps.zip (us++ds))
def Binds.all{fd:FuncData}{ps:List Str}(h:∀us:List Value,us.length=ps.length->bindArgs fd ⟨us,[]⟩=pure (ps.zip us)):Binds K fd ps []:=λs us _ q=>by
 rw[yk]at q⊢;exact .of_eq (h us q)
def BW(CX:CXT)(X:Cx)(E:XK):Prop:=∀(pins:List (Addr×Obj))(σ:St)(H:Hp)(s:Shared)(e:Value)(s':Shared),Inv X pins σ H s->CX X.stack H s E e s'->X.xe e s'
section
variable{X:Cx}{CX:CXT}{k:Nat}{f C:Addr}{fd:FuncData}{ps:List Str}{sp:Sp}{dvs:List V}{ds:List Value}{E:XK}{x m:Str}{p pos apos:Pos}{e o:Expr}{es:List Expr}{ta:TE}{t:TA}
def Ua{pins:List (Addr×Obj)}{σ:St}{H:Hp}{s:Shared}{Q:VK}{us:List Value}{vs:List V}(F:kI X.prog X.w X.K X.mg X.base CX k f fd ps sp)(hr:qY k X.A)(hb:Binds X.K fd ps ds)(hd:Vals dvs ds)(hx:BW CX X E)
  (I:Inv X pins σ H s) (r:Vals vs us) (h:sp (vs++dvs) H Q E):wpAny (model X.prog X.w) X.A (call (.ref f) us) (EP X pins σ Q) X.xe s:=by
 have z:Vals (vs++dvs) (us++ds):=r.append hd;have hl:(us++ds).length=ps.length:=by rw[<-z.length];exact F.len _ _ _ _ h
 refine yyo (codeAny_mono (F.run X.A X.stack s H ⟨us,[]⟩ (us++ds) (vs++dvs) Q E hr I.env0 (hb s us I.kIn hl) z h) λr s' q=>?_)
 cases r with
 |error e=>exact hx pins σ H s e s' I q
 |ok fl=>
  cases fl with
  |ret u=>exact I.after q
  |next=>exact False.elim q
  |brk=>exact False.elim q
  |cont=>exact False.elim q
def akz(F:kI X.prog X.w X.K X.mg X.base CX k f fd ps sp)(hr:qY k X.A)(hg:Gl X x)(hm:X.mg x=some (.ref f))(hk:PySem.W.keepIn X.K (.ref f)=true)(hb:Binds X.K fd ps ds)(hd:Vals dvs ds)(hx:BW CX X E)
  (ha:PA X (e::es) t) (z:(x==("__debug__" :Str))=false:=by decide) (he:starEach (e::es) X.env=(false,eval e X.env)::starEach es X.env:=by rfl) (hpl:(backTo pos (starEach es X.env)).any (·.1)=false:=by rfl):
  PE X (.Call (.Name x p) (e::es) [] pos) (aiE sp dvs E t):=by
 intro pins s σ H Q I h;refine yq (Iv I hg hm ?_ z);refine zzA (h₀:=X.base) I.ok.mod.kin hk (thn (ha pos pins s σ H _ I h) λus s1 ⟨vs,H1,I1,r,q⟩=>⟨I1.kIn,?_⟩) he hpl;exact Ua F hr hb hd hx I1 r q
structure Mk(K:Fg_)(C f:Addr):Prop where
 makes:PySem.W.makesIn K C=true
 init:PySem.W.findIn K (.ref C) "__init__" =some (some (.ref f))
 fn:PySem.W.isFn K (.ref f)=true
 kp:PySem.W.keepIn K (.ref C)=true
def ahU{pins:List (Addr×Obj)}{σ:St}{H:Hp}{s:Shared}{Q:VK}{us:List Value}{vs:List V}(M:Mk X.K C f)(F:kI X.prog X.w X.K X.mg X.base CX k f fd ps sp)(hr:qY (k+1) X.A)(hb:Binds X.K fd ps ds)(hd:Vals dvs ds)
  (hx:BW CX X E) (I:Inv X pins σ H s) (r:Vals vs us)
  (h:∀x dx,H x=none->H dx=none->dx≠x->sp (.ref x::(vs++dvs)) (upd (upd H dx (.own x)) x (.ins C dx [])) (λv H2=>v=.non/\Q (.ref x) H2) E):
  wpAny (model X.prog X.w) X.A (call (.ref C) us) (EP X pins σ Q) X.xe s:=by
 have hq:=h (s.heap.objs.size+1) s.heap.objs.size (I.hok.fresh (yt _)) (I.hok.fresh (zm _)) (zE (zzR _));have z:=Inv.made (C:=C) I;have r2:Vals (V.ref (s.heap.objs.size+1)::(vs++dvs)) (Value.ref (s.heap.objs.size+1)::(us++ds)):=.cons rfl (r.append hd)
 have hl:(Value.ref (s.heap.objs.size+1)::us++ds).length=ps.length:=by
  have e:=r2.length;rw[F.len _ _ _ _ hq]at e;exact e.symm
 refine yyo (aij (f:=f) I.kIn M.makes M.init (beq_iff_eq.mp M.fn) (codeAny_mono (F.run _ X.stack _ _ ⟨Value.ref (s.heap.objs.size+1)::us,[]⟩ (Value.ref (s.heap.objs.size+1)::(us++ds)) _ _ E (hr.make C us [])
  (z.env0.make C us []) (hb _ (Value.ref (s.heap.objs.size+1)::us) z.kIn hl) r2 hq) λr s' q=>?_))
 cases r with
 |error e=>exact hx pins σ _ _ e s' z q
 |ok fl=>
  cases fl with
  |ret u=>
   obtain⟨v,H',I3,rv,ev,q3⟩:=z.after q;subst ev;exact⟨rv,⟨V.ref (s.heap.objs.size+1),H',I3,rfl,q3⟩⟩
  |next=>exact False.elim q
  |brk=>exact False.elim q
  |cont=>exact False.elim q
def mF(M:Mk X.K C f)(F:kI X.prog X.w X.K X.mg X.base CX k f fd ps sp)(hr:qY (k+1) X.A)(hg:Gl X x)(hm:X.mg x=some (.ref C))(hb:Binds X.K fd ps ds)(hd:Vals dvs ds)(hx:BW CX X E)
  (ha:PA X (e::es) t) (z:(x==("__debug__" :Str))=false:=by decide) (he:starEach (e::es) X.env=(false,eval e X.env)::starEach es X.env:=by rfl) (hpl:(backTo pos (starEach es X.env)).any (·.1)=false:=by rfl):
  PE X (.Call (.Name x p) (e::es) [] pos) (alM C sp dvs E t):=by
 intro pins s σ H Q I h;refine yq (Iv I hg hm ?_ z);refine zzA (h₀:=X.base) I.ok.mod.kin M.kp (thn (ha pos pins s σ H _ I h) λus s1 ⟨vs,H1,I1,r,q⟩=>⟨I1.kIn,?_⟩) he hpl;exact ahU M F hr hb hd hx I1 r q
end
def PK(X:Cx)(kws:List Keyword)(t:TA):Prop:=
 ∀(pos:Pos)(pins:List (Addr×Obj))(s:Shared)(σ:St)(H:Hp)(Q:List V->Hp->Prop),Inv X pins σ H s->t σ H Q->wpAny (model X.prog X.w) X.A (evalAll ((backToKw pos (keywordEach kws X.env)).map (·.2))) (AP X pins σ Q) X.xe s
section
variable{X:Cx}{CX:CXT}{k:Nat}{f C:Addr}{fd:FuncData}{ps ks:List Str}{sp:Sp}{E:XK}{x m:Str}{p pos apos kpos:Pos}{e o:Expr}{es:List Expr}{kws:List Keyword}{te ta:TE}{t tk:TA}{nm:Option Str}
def aja:PK X [] Vw:=λ_ _ _ _ H Q I h=>wpAny_evalAll_nil ⟨[],H,I,.nil,h⟩
def YG(ha:PE X e te)(hr:PK X kws t):PK X (⟨nm,e,kpos⟩::kws) (ql te t):=by
 intro pos pins s σ H Q I h;show wpAny _ _ (evalAll ((do let v<-eval e X.env;standAt pos;pure v)::(backToKw pos (keywordEach kws X.env)).map (·.2))) _ _ s;refine wpAny_evalAll_cons (ze (thn (ha pins s σ H _ I h) λu s1 ⟨x,H1,I1,q,z⟩=>ze (yyh (zA ?_))));exact thn (hr pos pins s1 σ H1 _ I1 z) λus s2 ⟨xs,H2,I2,r2,q2⟩=>⟨x::xs,H2,I2,.cons q r2,q2⟩
structure anC(K:Fg_)(fd:FuncData)(ps ks:List Str)(g:List Value->List Value->List Value)(gV:List V->List V->List V):Prop where
 to:∀(s:Shared)(us ws:List Value),K.In s.heap->(g us ws).length=ps.length->BindsTo s fd ⟨us,ks.zip ws⟩ (ps.zip (g us ws))
 rel:∀{vs:List V}{us:List Value}{zs:List V}{ws:List Value},Vals vs us->Vals zs ws->Vals (gV vs zs) (g us ws)
variable{g:List Value->List Value->List Value}{gV:List V->List V->List V}
end
structure jj(N P:List Str)(sc:Scope):Prop where
 kind:sc.kind=.function
 co:sc.isCoroutine=false
 gen:sc.isGenerator=false
 nd:N.Nodup
 pre:N.take P.length=P
 par:∀x∈P,sc.names.lookup x=some .local\/sc.names.lookup x=some .cell
 nofree:∀y∈sc.names,y.2≠.free
theorem Ox{q:Str->Option NameKind}{x:Str}:∀{binds:List (Str×Value)}{m:Str->Option Value},(∀v,(x,v)∉binds)->bindL q binds m x=m x
 |[],_,_=>rfl
 |(n,v)::r,m,h=>by
  unfold bindL;rw[Ox λw z=>h w (zn _ z)];split
  ·have:x≠n:=by rintro rfl;exact h v zg
   simp[this]
  ·rfl
theorem QM{q:Str->Option NameKind}{x:Str}:∀{binds:List (Str×Value)}{m:Str->Option Value},(∀v,(x,v)∉binds)->bindC q binds m x=m x
 |[],_,_=>rfl
 |(n,v)::r,m,h=>by
  unfold bindC;rw[QM λw z=>h w (zn _ z)];split
  ·rfl
  ·have:x≠n:=by rintro rfl;exact h v zg
   simp[this]
theorem QT{q:Str->Option NameKind}{x:Str}{v:Value}:∀{P:List Str}{vs:List Value}{i:Nat}{m:Str->Option Value},P.Nodup->P[i]? =some x->vs[i]? =some v->q x=some .local->
  bindL q (P.zip vs) m x=some v
 |[],_,_,_,_,h,_,_=>by simp at h
 |_::_,[],_,_,_,_,h,_=>by simp at h
 |p::P,w::vs,0,m,nd,h1,h2,hk=>by
  simp at h1 h2;subst h1;subst h2;show bindL q ((p,w)::P.zip vs) m p=_;unfold bindL;rw[Ox λv z=>(zN.mp nd).1 (yyq z).1,zi hk];simp
 |p::P,w::vs,i+1,m,nd,h1,h2,hk=>by
  show bindL q ((p,w)::P.zip vs) m x=_;unfold bindL;exact QT (i:=i) (zN.mp nd).2 (by simpa using h1) (by simpa using h2) hk
theorem QQ{q:Str->Option NameKind}{x:Str}{v:Value}:∀{P:List Str}{vs:List Value}{i:Nat}{m:Str->Option Value},P.Nodup->P[i]? =some x->vs[i]? =some v->q x≠some .local->
  bindC q (P.zip vs) m x=some v
 |[],_,_,_,_,h,_,_=>by simp at h
 |_::_,[],_,_,_,_,h,_=>by simp at h
 |p::P,w::vs,0,m,nd,h1,h2,hk=>by
  simp at h1 h2;subst h1;subst h2;show bindC q ((p,w)::P.zip vs) m p=_;unfold bindC;rw[QM λv z=>(zN.mp nd).1 (yyq z).1,zf hk];simp
 |p::P,w::vs,i+1,m,nd,h1,h2,hk=>by
  show bindC q ((p,w)::P.zip vs) m x=_;unfold bindC;exact QQ (i:=i) (zN.mp nd).2 (by simpa using h1) (by simpa using h2) hk
noncomputable def start(N:List Str)(vs:List V):St:=vs.map some++List.replicate (N.length - vs.length) none
noncomputable def aat(CX:CXT)(P:Program)(w:World)(K:Fg_)(mg:Str->Option Value)(base:Heap)(N:List Str)(qual:Str)(scope:Scope)(f:Addr)(cd:Value)(A:Around)(outer:List Env)(s:Shared)(H:Hp)(E:XK):Cx where
 prog:=P
 w:=w
 K:=K
 mg:=mg
 base:=base
 A:=A.deeper (envOfC qual scope s.heap.objs.size f cd)
 N:=N
 s₀:=s
 H₀:=H
 env:=envOfC qual scope s.heap.objs.size f cd
 outer:=outer
 stack:=envOfC qual scope s.heap.objs.size f cd::outer
 ex:=[]
 calm:=true
 fn:=λ_=>true
 pn:=[]
 xe:=λe s'=>wpAny (model P w) (A.deeper (envOfC qual scope s.heap.objs.size f cd)) (leaving (envOfC qual scope s.heap.objs.size f cd) e) (λ_ s''=>CX outer H s E e s'') (λe' s''=>CX outer H s E e' s'') s'
def UT{z:Scope}{n:Nat}(h:z.names.lookup x=some .cell):∃c,(cellsFrom n z.names []).lookup x=some c:=by
 have q:=PySem.W.cellsFrom_some z.names n [] (.inl h);exact yK.mp q
def YL{CX:CXT}{P:Program}{w:World}{K:Fg_}{mg:Str->Option Value}{base:Heap}{N ps:List Str}{aa:Str}{scope:Scope}{f:Addr}{cd:Value}{A:Around}{outer:List Env}{s s1:Shared}{H:Hp}{E:XK}{us:List Value}{vs:List V}
  (S:jj N ps scope) (hd:A.handled=none) (e0:aas P w K mg base A outer s H) (hl:vs.length=ps.length) (r:Vals vs us)
  (x:InCallC s s.heap.objs.size (bindL (envOfC aa scope s.heap.objs.size f cd).kindOf (ps.zip us) λ_=>none) (cellsFrom (s.heap.objs.size+1) scope.names []) (bindC (envOfC aa scope s.heap.objs.size f cd).kindOf (ps.zip us) λ_=>none) s1):
  Inv (aat CX P w K mg base N aa scope f cd A outer s H E) [] (start N vs) H s1:=by
 have ad:ps.length<=N.length:=by have:=congrArg List.length S.pre;rw[zT]at this;lia
 obtain⟨h1,tk,rfl,hk⟩:=x.done;have ab:∀b:Addr,b∉(aat CX P w K mg base N aa scope f cd A outer s H E).ex:=λb z=>absurd (show b∈([]:List Addr)from z) (by simp)
 refine ⟨⟨e0.mod,S.kind,rfl,rfl,zm _,λy z c h1 h2=>?_,λy hy=>?_,λy c _ h=>?_,λ_=>hd,Around.frames_deeper e0.frames,.inr ⟨rfl,rfl⟩,λb z=>absurd z (ab b),e0.bs,e0.bsz,λb _ _=>ab b,λb z=>absurd z (ab b),e0.funs,e0.frf⟩,
  rfl,e0.bare,Un.kept hk,⟨_,x.toInCall.ns,λi y v h1 h2 h3=>?_⟩,λy c h=>⟨_,x.cell y c h⟩,e0.hok.fresh (zm _),λy c h=>?_,λp hp=>absurd (show p∈([]:List (Addr×Obj))from hp) (by simp),e0.hok.kept hk,?_⟩
 ·exact name_of_addr x.apart (y8 h1) (y8 h2)
 ·have hy:scope.names.lookup y=some .cell\/scope.names.lookup y=some .free:=hy
  rcases hy with hy|hy
  ·exact UT hy
  ·exact absurd rfl (S.nofree _ (y8 hy))
 ·exact zzC (x.above y c (y8 h))
 ·have hi:i<vs.length:=by
   unfold start at h2;by_cases hi:i<vs.length
   ·exact hi
   ·rw[z4 (by simpa using hi)]at h2
    rw[List.getElem?_replicate]at h2;split at h2<;>cases h2
  have ha:vs[i]? =some v:=by
   unfold start at h2;rw[ya (by simpa using hi),zo]at h2
   cases e:vs[i]? with
   |none=>rw[e]at h2;cases h2
   |some a=>rw[e]at h2;cases h2;rfl
  obtain⟨u,hu,rv⟩:=r.get ha
  have hp:ps[i]? =some y:=by
   rw[<-S.pre,List.getElem?_take_of_lt (by lia)];exact h1
  have ac:ps.Nodup:=by rw[<-S.pre];exact S.nd.sublist (yyc _ _)
  refine⟨u,rv,?_⟩;rcases S.par y (zh hp)with k|k
  ·exact .inl ⟨k,QT ac hp hu k⟩
  ·obtain⟨c,e⟩:=UT (n:=s.heap.objs.size+1) k
   refine .inr ⟨.inl k,c,e,?_⟩;have q:=x.cell y c e;rw[QQ ac hp hu (by show scope.names.lookup y≠_;rw[k];decide)]at q;exact q
 ·exact e0.hok.fresh (zzC (x.above y c (y8 h)))
 ·unfold start
  show _=N.length;rw[zC,za,zzN];lia
def ame{CX:CXT}{P:Program}{w:World}{K:Fg_}{mg:Str->Option Value}{base:Heap}{k:Nat}{f:Addr}{name z:Str}{ab:Arguments}{ac:List Stmt}{scope:Scope}{dV kV af pm aa ct oc:Value}{an od:Option Addr}
  {aj:Array (Option Value)} {N ps:List Str} {sp:Sp} (lk:K.lookup f=some ⟨oc,od,.func (PySem.W.fnOf name z ab ac scope dV kV af pm an aa ct),aj⟩) (ak:PySem.W.codeIn K aa z=true) (S:jj N ps scope)
  (len:∀vs H Q E,sp vs H Q E->vs.length=ps.length)
  (ad:∀(A:Around)(outer:List Env)(s:Shared)(H:Hp)(vs:List V)(Q:VK)(E:XK),qY k (A.deeper (envOfC z scope s.heap.objs.size f aa))->sp vs H Q E->
   ∃t,PSs (aat CX P w K mg base N z scope f aa A outer s H E) ac t/\t {nx:=λ_ H'=>Q .non H',rt:=Q} (start N vs) H):
  kI P w K mg base CX (k+1) f (PySem.W.fnOf name z ab ac scope dV kV af pm an aa ct) ps sp:=by
 refine⟨len,λA outer s H args us vs Q E hr e0 hb r ag=>?_⟩;have hl:=len _ _ _ _ ag;have KX:K.In s.heap:=e0.mod.kin.keeps λb o e=>(e0.bs b o e).1;have ai:s.heap.NoLimit:=e0.mod.nolimit.keeps λb o e=>(e0.bs b o e).1
 have ae:∀y∈ps.zip us,scope.names.lookup y.1=some .local\/(scope.names.lookup y.1=some .cell/\((cellsFrom (s.heap.objs.size+1) scope.names []).lookup y.1).isSome=true):=fun⟨n,v⟩ hy=>by
  rcases S.par n (yyq hy).1 with q|q
  ·exact .inl q
  ·exact .inr ⟨q,PySem.W.cellsFrom_some _ _ _ (.inl q)⟩
 refine codeAny_call_function hr.depth (KX _ _ lk) rfl S.co S.gen rfl (PySem.W.codeRec_of KX ak) (hb _ _ _ _ ?_);refine wpAny_newFunctionEnv_cells S.kind ae λenv he s1 x=>?_;subst he;refine⟨ai.keeps x.toInCall.keep,codeAny_func ?_⟩;obtain⟨t,ht,hq⟩:=ad A outer s H vs Q E (hr.deeper _) ag;have I:Inv (aat CX P w K mg base N z scope f aa A outer s H E) [] (start N vs) H s1:=YL S hr.hd e0 hl r x;refine yi (ht [] s1 (start N vs) H _ I hq) (λfl s' hs=>?_) λe s' hs=>hs
 have ah:∀{σ':St}{H':Hp}{v:V}{u:Value},Inv (aat CX P w K mg base N z scope f aa A outer s H E) [] σ' H' s'->RelV v u->Q v H'->CE outer P w H s Q u s':=
  fun{σ' H' v u} J rv q=>⟨v,H',J.os,J.bare,J.base,J.hok,rv,q⟩
 cases fl with
 |ret u=>
  obtain⟨v,σ',H',J,rv,q⟩:=hs;exact ah J rv q
 |next=>
  obtain⟨σ',H',J,q⟩:=hs;exact ah (v:=V.non) (u:=Value.none) J rfl q
 |brk=>
  obtain⟨_,_,_,q⟩:=hs;exact False.elim q
 |cont=>
  obtain⟨_,_,_,q⟩:=hs;exact False.elim q
section
variable{X:Cx}{x:Str}{p pos:Pos}{e:Expr}{es:List Expr}{t:TA}{id T:String}{r:List V->Hp->VK->Prop}
def tCB(r:List V->Hp->VK->Prop)(t:TA):TE:=λσ H Q=>t σ H λvs H1=>r vs H1 Q
def jy(hc:nF X (.builtin id) r)(hg:Gl X x)(hm:X.mg x=none)(z:bootBuiltins x=some (.builtin id))(ha:PA X (e::es) t)(hn:x≠ "__name__" :=by decide) (hdb:(x==("__debug__" :Str))=false:=by decide)
  (he:starEach (e::es) X.env=(false,eval e X.env)::starEach es X.env:=by rfl) (hpl:(backTo pos (starEach es X.env)).any (·.1)=false:=by rfl):PE X (.Call (.Name x p) (e::es) [] pos) (tCB r t):=by
 intro pins s σ H Q I h;refine yq (BL I hg hm z ?_ hn hdb);exact PyProof.Rows.callWith_builtin1 (thn (ha pos pins s σ H _ I h) λus s1 ⟨vs,H1,I1,q,q1⟩=>hc pins s1 σ H1 vs us Q I1 q q1) he hpl
def mZ(hc:nF X (.type T) r)(hg:Gl X x)(hm:X.mg x=none)(z:bootBuiltins x=some (.type T))(ha:PA X (e::es) t)(hn:x≠ "__name__" :=by decide) (hdb:(x==("__debug__" :Str))=false:=by decide)
  (he:starEach (e::es) X.env=(false,eval e X.env)::starEach es X.env:=by rfl) (hpl:(backTo pos (starEach es X.env)).any (·.1)=false:=by rfl):PE X (.Call (.Name x p) (e::es) [] pos) (tCB r t):=by
 intro pins s σ H Q I h;refine yq (BL I hg hm z ?_ hn hdb);exact PyProof.Rows.callWith_type1 (thn (ha pos pins s σ H _ I h) λus s1 ⟨vs,H1,I1,q,q1⟩=>hc pins s1 σ H1 vs us Q I1 q q1) he hpl
end
end L2
namespace HT
open PySem PyProof.Rows
def ahX(A:Around)(s:Shared)(a:Int)(t:Tok)(c:Int)(u:Tok):∃e,SeqAt.EqAt A s (.int a t) (.int c u) e/\(e=true↔a=c):=
 ⟨(a==c),SeqAt.EqAt.int_int a t c u,by simp⟩
section
open PySem.SeqAt
open PySem.AutoSeq1 (wpAny_loadPart')
open PySem.MeetsSeq PySem.MeetsSeq2 PySem.MeetsSeq3
end
section
variable{prog:Program}{w:World}{A:Around}{E:Value->Shared->Prop}{s:Shared}
noncomputable def sIx(n d:Nat):Option Int->Nat
 |none=>d
 |some v=>if v<0 then(v+(n:Int)).toNat else min v.toNat n
def sIx_none(n d:Nat):sIx n d none=d:=rfl
def sIx_nat(n d k:Nat):sIx n d (some (k:Int))=min k n:=by
 show(if(k:Int)<0 then((k:Int)+(n:Int)).toNat else min (k:Int).toNat n)=min k n;rw[zf (by lia),yyd]
def ali(n d:Nat)(hd:d<=n)(o:Option Int):sIx n d o<=n:=by
 cases o with
 |none=>exact hd
 |some v=>
  show(if v<0 then(v+(n:Int)).toNat else min v.toNat n)<=n;by_cases q:v<0
  ·rw[zi q];lia
  ·rw[zf q];exact Nat.min_le_right _ _
def Xu(v:Int)(n d:Nat):(if v<0 then max (v+(n:Int)) 0 else min v (n:Int))=((sIx n d (some v):Nat):Int):=by
 show(if v<0 then max (v+(n:Int)) 0 else min v (n:Int))=(((if v<0 then(v+(n:Int)).toNat else min v.toNat n):Nat):Int);by_cases q:v<0
 ·simp only[zi q];lia
 ·simp only[zf q];lia
def Wx(lo hi:Option Int)(n:Nat):Builtin.Slice.sliceAdjust lo hi 1 (n:Int)=(((sIx n 0 lo:Nat):Int),((sIx n n hi:Nat):Int)):=by
 have h1:¬((1:Int)<0):=by lia
 unfold Builtin.Slice.sliceAdjust;simp only[h1,if_false];refine Prod.ext ?_ ?_
 ·cases lo with
  |none=>rfl
  |some v=>exact Xu v n 0
 ·cases hi with
  |none=>rfl
  |some v=>exact Xu v n n
def VH(i j:Nat):Builtin.Slice.slicePlaces (i:Int) (j:Int) 1=j - i:=by
 unfold Builtin.Slice.slicePlaces;have h1:(1:Int)>0:=by lia
 simp only[h1,if_true,Int.ediv_one];split<;>lia
def Mq{v:Value}{o:Option Int}{Q:Option Int->Shared->Prop}(p:IsPart v o)(h:Q o s):wpAny (model prog w) A (Builtin.Slice.slicePartIndex v) Q E s:=by
 cases p with
 |none=>exact slicePart_none h
 |int i t=>exact slicePart_int h
def GZ{sl:Addr}{vl vu:Value}{lo hi:Option Int}{n:Nat}{Q:Int×Int×Nat->Shared->Prop}(hs:s.heap.IsSliceOf sl vl vu .none)(pl:IsPart vl lo)(pu:IsPart vu hi)
  (h:Q (((sIx n 0 lo:Nat):Int),1,sIx n n hi - sIx n 0 lo) s):wpAny (model prog w) A (Builtin.Slice.sliceApplied (.ref sl) (pure (n:Int))) Q E s:=by
 obtain⟨os,q,aa,z⟩:=id hs;unfold Builtin.Slice.sliceApplied Builtin.Slice.sliceFields;refine ze (ze (wpAny_field q z (x:=vl) rfl (ze (wpAny_field q z (x:=vu) rfl (ze (wpAny_field q z (x:=.none) rfl (zA ?_)))))));refine ze (slicePart_none ?_);show wpAny _ _ (if((1:Int)==0)=true then _ else _) _ _ s;rw[zf (by decide)];refine ze (Mq pl (ze (Mq pu (ze (zA ?_)))));show wpAny _ _ (match Builtin.Slice.sliceAdjust lo hi 1 (n:Int)with|(lo,hi)=>pure (lo,(1:Int),Builtin.Slice.slicePlaces lo hi 1)) _ _ s;rw[Wx lo hi n];show wpAny _ _ (pure (((sIx n 0 lo:Nat):Int),(1:Int),Builtin.Slice.slicePlaces ((sIx n 0 lo:Nat):Int) ((sIx n n hi:Nat):Int) 1)) _ _ s;rw[VH];exact zA h
def aiD(xs:Array Value)(i k:Nat):((List.range k).filterMap fun(m:Nat)=>xs[((i:Int)+(m:Int)*1).toNat]?).toArray=((xs.toList.drop i).take k).toArray:=by
 have e:(fun(m:Nat)=>xs[((i:Int)+(m:Int)*1).toNat]?)=λm=>xs[i+m]? :=by
  funext m;have:((i:Int)+(m:Int)*1).toNat=i+m:=by lia
  rw[this]
 rw[e];have:=pick_run xs i k;rw[List.filterMap_map]at this;have q:((λx=>xs[x]?)∘λx=>i+x)=λm=>xs[i+m]? :=rfl;rw[q]at this;rw[this]
def getItem_tuple_cut{t sl:Addr}{items:Array Value}{vl vu:Value}{lo hi:Option Int}{Q:Value->Shared->Prop}(ht:IsTup s.heap t items)(hs:s.heap.IsSliceOf sl vl vu .none)(pl:IsPart vl lo)(pu:IsPart vu hi)
  (hw:¬(sIx items.size 0 lo=0/\sIx items.size items.size hi=items.size))
  (h:Q (.ref s.heap.objs.size) {s with heap:=s.heap.push {cls:=.type "tuple",data:=.seq ((items.toList.drop (sIx items.size 0 lo)).take (sIx items.size items.size hi - sIx items.size 0 lo)).toArray}})
  (hsz:items.size<=sizeLine):wpAny (model prog w) A (getItem (.ref t) (.ref sl)) Q E s:=by
 have z:sizeOk (.seq ((items.toList.drop (sIx items.size 0 lo)).take (sIx items.size items.size hi - sIx items.size 0 lo)).toArray):=by
  show((items.toList.drop (sIx items.size 0 lo)).take (sIx items.size items.size hi - sIx items.size 0 lo)).toArray.size<=sizeLine;rw[zt,zT,yI,z8];lia
 have hj:sIx items.size items.size hi<=items.size:=ali _ _ (zm _) hi;obtain⟨os,ac,ab,ae⟩:=id hs;have aa:s.TypeIs (.ref sl) "slice" :=⟨os,ac,ab⟩;unfold getItem
 try with_reducible refine yb ?_
 first|refine ze (zA ?_)|skip
 refine ze (wpAny_sequenceKey ht.typeIs (by decide) ?_)
 refine ze (wpAny_callSpecial?_slot (name:=Str.ofString "__getitem__") ht.typeIs PyProof.Rows.slot_tuple_getitem
  (zzd PyProof.Rows.slot_tuple_getitem ht.typeIs entry_tuple_getitem ?_ (args_tuple_getitem _ _)))
 show wpAny _ _ (Builtin.Tuple.tupleItemsOf (.ref t)>>=_) _ _ s;refine ze (tupleItemsOf_ ht ?_);refine ze (yyp aa ?_);rw[zi (by decide)];refine ze (GZ hs pl pu ?_)
 have ad:¬((((sIx items.size 0 lo:Nat):Int)==0 && (1:Int)==1 && (sIx items.size items.size hi - sIx items.size 0 lo)==items.size)=true):=by
  intro q;rw[zza,zza]at q;have q1:((sIx items.size 0 lo:Nat):Int)=0:=eq_of_beq q.1.1;have q2:sIx items.size items.size hi - sIx items.size 0 lo=items.size:=eq_of_beq q.2;exact hw ⟨by lia,by lia⟩
 show wpAny _ _ (if(((sIx items.size 0 lo:Nat):Int)==0 && (1:Int)==1 && (sIx items.size items.size hi - sIx items.size 0 lo)==items.size)=true then _ else _) _ _ s;rw[zf ad,aiD]
 first
  |exact ze (m:=Builtin.Tuple.tupleExact _) (y4 (zA ⟨_,rfl,zA h⟩) z)
  |exact ze (m:=Builtin.Tuple.tupleExact _) (y4 (ze (zA (zA ⟨_,rfl,zA h⟩))) z)
  |exact ze (ze (m:=Builtin.Tuple.tupleExact _) (y4 (zA (zA ⟨_,rfl,zA h⟩)) z))
  |exact ze (ze (m:=Builtin.Tuple.tupleExact _) (y4 (zA ⟨_,rfl,zA h⟩) z))
end
end HT
namespace L2
open PySem PySem.Spec PyProof.Rows
variable{us:List Value}{x:V}{α:Type}
abbrev TO:=St->Hp->(Option Int->Hp->Prop)->Prop
def PO(X:Cx)(e:Option Expr)(t:TO):Prop:=
 ∀(pins:List (Addr×Obj)) (s:Shared) (σ:St) (H:Hp) (Q:Option Int->Hp->Prop),Inv X pins σ H s->t σ H Q->
  wpAny (model X.prog X.w) X.A (evalPart e X.env) (λu s'=>∃o H',Inv X pins σ H' s'/\IsPart u o/\Q o H') X.xe s
def Xn:TO:=λ_ H Q=>Q none H
def ale(t:TE):TO:=λσ H Q=>t σ H λx H1=>∃i,x=.int i/\Q (some i) H1
def intsAre_of{ns:List Int}:∀{us:List Value},Vals (ns.map V.int) us->IntsAre us ns:=by
 induction ns with
 |nil=>intro us r;rw[zzs]at r;cases r;exact .nil
 |cons n ns ih=>
  intro us r;rw[zl]at r
  cases r with
  |cons r1 r2=>
   obtain⟨t,e⟩:=r1;subst e;exact .cons n t (ih r2)
section
variable{X:Cx}{e:Expr}{te:TE}{lo hi:Option Expr}{tl th:TO}{pos p2:Pos}
def Jf:PO X none Xn:=by
 intro pins s σ H Q I h;rw[evalPart_none];exact zA ⟨none,H,I,.none,h⟩
def Dd(h:PE X e te):PO X (some e) (ale te):=by
 intro pins s σ H Q I hw;rw[evalPart_some];refine thn (h pins s σ H _ I hw) λu s1 ⟨x,H1,I1,z,q1⟩=>?_;obtain⟨i,rfl,q⟩:=q1;obtain⟨t,rfl⟩:=z;exact⟨some i,H1,I1,.int i t,q⟩
def SlR(X:Cx)(r:V->Option Int->Option Int->Hp->VK->Prop):Prop:=
 ∀(pins:List (Addr×Obj)) (s:Shared) (σ:St) (H:Hp) (x:V) (v vl vu:Value) (lo hi:Option Int) (sl:Addr) (Q:VK),Inv X pins σ H s->RelV x v->s.heap.IsSliceOf sl vl vu .none->IsPart vl lo->IsPart vu hi->r x lo hi H Q->
  ∃T id,typeLookup (.type T) "__getitem__" =pure (some (.builtin id))/\s.TypeIs v T/\wpAny (model X.prog X.w) X.A (getItem v (.ref sl)) (EP X pins σ Q) X.xe s
def tSl(r:V->Option Int->Option Int->Hp->VK->Prop)(te:TE)(tl th:TO):TE:=λσ H Q=>te σ H λx H1=>tl σ H1 λl H2=>th σ H2 λu H3=>r x l u H3 Q
def Br{r:V->Option Int->Option Int->Hp->VK->Prop}(hr:SlR X r)(he:PE X e te)(hl:PO X lo tl)(hu:PO X hi th):PE X (.Subscript e (.Slice lo hi none p2) pos) (tSl r te tl th):=by
 intro pins s σ H Q I h;refine Subscript_ (thn (he pins s σ H _ I h) λv s1 ⟨x,H1,I1,r1,q1⟩=>?_);refine wpAny_Slice (thn (hl pins s1 σ H1 _ I1 q1) λvl s2 ⟨l,H2,I2,pl,q2⟩=>thn (hu pins s2 σ H2 _ I2 q2) λvu z ⟨u,H3,I3,pu,q3⟩=>?_);rw[evalPart_none];refine zA ?_;have I4:Inv X pins σ H3 {z with heap:=z.heap.push {cls:=.type "slice",data:=.fields #[vl,vu,.none]}}:=I3.kept (t':=z.toks) λb ob q=>zd _ q;obtain⟨T,id,hT,ht,hg⟩:=hr pins {z with heap:=z.heap.push {cls:=.type "slice",data:=.fields #[vl,vu,.none]}} σ H3 x v vl vu l u z.heap.objs.size Q I4 r1 (Heap.IsSliceOf.new ..) pl pu q3;show wpAny (model X.prog X.w) X.A (subscriptTail e (.Slice lo hi none p2) v (.ref z.heap.objs.size)) (EP X pins σ Q) X.xe {z with heap:=z.heap.push {cls:=.type "slice",data:=.fields #[vl,vu,.none]}};exact tail_any (ops:=[.ref z.heap.objs.size,v]) ht hT hg (by with_unfolding_all rfl)
noncomputable def Ow(xs:List V)(lo hi:Option Int):List V:=(xs.drop (HT.sIx xs.length 0 lo)).take (HT.sIx xs.length xs.length hi - HT.sIx xs.length 0 lo)
def Ia(xs:List V)(lo hi:Option Int):(Ow xs lo hi).length<=xs.length:=by
 unfold Ow;rw[zT,yI];lia
def amP(K:Fg_):V->Option Int->Option Int->Hp->VK->Prop:=λx lo hi H Q=>∃a xs,x=.ref a/\SqT K H a xs/\
 ¬(HT.sIx xs.length 0 lo=0/\HT.sIx xs.length xs.length hi=xs.length)/\∀p,H p=none->Q (.ref p) (upd H p (.tup (Ow xs lo hi)))
def aml:SlR X (amP X.K):=by
 intro pins s σ H x v vl vu lo hi sl Q I rx hs pl pu h;obtain⟨a,xs,rfl,hx,hw,q⟩:=h;cases rx;obtain⟨its,r,ht,hz⟩:=I.tuple hx;have z:its.toArray.size=xs.length:=by rw[zt];exact r.length.symm
 refine⟨"tuple",_,PyProof.Rows.slot_tuple_getitem.lookup,ht.typeIs,?_⟩;refine HT.getItem_tuple_cut ht hs pl pu (by rw[z];exact hw) ?_ (by rw[z];exact hz);rw[z];refine⟨.ref s.heap.objs.size,_,I.laid (t':=s.toks) (o:=.tup (Ow xs lo hi)) (λb ob q=>zd _ q) (zm _) ?_,rfl,q _ (I.hok.fresh (zm _))⟩;exact⟨zS (Ia xs lo hi) hz,_,(r.drop (HT.sIx xs.length 0 lo)).take (HT.sIx xs.length xs.length hi - HT.sIx xs.length 0 lo),IsTup.new _ _⟩
end
noncomputable def ixN(n:Nat)(i:Int):Option Nat:=if 0<=i then(if i<n then some i.toNat else none)else if -(n:Int)<=i then some (i+n).toNat else none
noncomputable def atI(xs:List α)(i:Int):Option α:=(ixN xs.length i).bind λj=>xs[j]?
def ajN{n:Nat}{i:Int}{j:Nat}(h:ixN n i=some j):seqIndex? i n=some j/\j<n/\ -(n:Int)<=i/\i<n:=by
 unfold ixN at h;by_cases q:0<=i
 ·rw[zi q]at h
  by_cases h1:i<n
  ·rw[zi h1]at h
   have e:i.toNat=j:=zy h;exact⟨by rw[seqIndex_of q h1,e],by lia,by lia,h1⟩
  ·rw[zf h1]at h;cases h
 ·rw[zf q]at h
  by_cases h1: -(n:Int)<=i
  ·rw[zi h1]at h
   have e:(i+n).toNat=j:=zy h;exact⟨by rw[seqIndex_neg (by lia) h1,e],by lia,h1,by lia⟩
  ·rw[zf h1]at h;cases h
def SX{xs:List α}{i:Int}{v:α}(h:atI xs i=some v):∃j,seqIndex? i xs.length=some j/\xs[j]? =some v/\j<xs.length/\ -(xs.length:Int)<=i/\i<xs.length:=by
 unfold atI at h
 cases e:ixN xs.length i with
 |none=>rw[e]at h;cases h
 |some j=>
  rw[e]at h;obtain⟨h1,h2,z,q⟩:=ajN e;exact⟨j,h1,h,h2,z,q⟩
def Jp{xs:List α}{j:Nat}{v:α}(h:xs[j]? =some v):atI xs (j:Int)=some v:=by
 have q:j<xs.length:=(zk.mp h).1
 have e:ixN xs.length (j:Int)=some j:=by
  unfold ixN;rw[zi (by lia),zi (by lia)];simp
 unfold atI;rw[e];exact h
def ajv(b:Expr):Prop:=∀o i,subscripted b false o i=operate [o,i] (getItem o i)
def IxR(X:Cx)(r:R2):Prop:=
 ∀(value slice:Expr) (pins:List (Addr×Obj)) (s:Shared) (σ:St) (H:Hp) (x y:V) (v u:Value) (Q:VK),Inv X pins σ H s->RelV x v->RelV y u->r x y H Q->
  subscripted slice false v u=operate [v,u] (getItem v u)->wpAny (model X.prog X.w) X.A (subscriptTail value slice v u) (EP X pins σ Q) X.xe s
def MtR(X:Cx)(id:String)(r:V->List V->Hp->VK->Prop):Prop:=
 ∀(pins:List (Addr×Obj)) (s:Shared) (σ:St) (H:Hp) (x:V) (xs:List V) (v:Value) (us:List Value) (Q:VK),Inv X pins σ H s->RelV x v->Vals xs us->r x xs H Q->
  wpAny (model X.prog X.w) X.A (call (.builtin id) (v::us)) (EP X pins σ Q) X.xe s
section
variable{X:Cx}{a b:Expr}{ta tb:TE}{pos:Pos}
def jL{r:R2}(hr:IxR X r)(ha:PE X a ta)(hb:PE X b tb)(z:ajv b):PE X (.Subscript a b pos) (tOp r ta tb):=by
 intro pins s σ H Q I h;exact Subscript_ (anc ha hb I h λv u s2 x y H2 I2 rx ry q=>hr a b pins s2 σ H2 x y v u Q I2 rx ry q (z _ _))
def akP(K:Fg_):R2:=λx y H Q=>∃p xs i v,x=.ref p/\y=.int i/\SqL K H p xs/\atI xs i=some v/\Q v H
def ajk(K:Fg_):R2:=λx y H Q=>∃p xs i v,x=.ref p/\y=.int i/\SqT K H p xs/\atI xs i=some v/\Q v H
def anw:R2:=λx y H Q=>∃z i c,x=.str z/\y=.int i/\z.length<=sizeLine/\atI z.cps.toList i=some c/\Q (.str ⟨#[c]⟩) H
def ajO:IxR X (akP X.K):=by
 intro value ab pins s σ H x y v u Q I rx ry h hs;obtain⟨p,xs,i,z,rfl,rfl,hq,he,q⟩:=h;cases rx;obtain⟨t,rfl⟩:=ry;obtain⟨its,r,pl,hz⟩:=I.list hq;obtain⟨j,h1,h2,h3,h4,h5⟩:=SX he;obtain⟨w,ew,ac⟩:=r.get h2;have hl:=r.length;have hn:=Qd;have aa:EP X pins σ Q w s:=⟨z,H,I,ac,q⟩;by_cases h0:0<=i
 ·have hj:i.toNat=j:=by
   rw[seqIndex_of h0 h5]at h1;exact zy h1
  exact item_listR pl.isList h0 (by lia) (by rw[hj];simpa using ew) aa hs
 ·have hj:(i+(its.toArray.size:Int)).toNat=j:=by
   rw[seqIndex_neg (by lia) h4]at h1;rw[zt,<-hl];exact zy h1
  exact subscriptTail_builtinR (x:=w) pl.isList.typeIs slot_list_getitem.lookup
   (wpAny_getItem_list_neg (Q:=λr s'=>r=w/\EP X pins σ Q r s') pl.isList (by lia) (by rw[zt]<;>lia) (by lia) (by rw[hj];simpa using ew) ⟨rfl,aa⟩) hs
def amn:IxR X (ajk X.K):=by
 intro value aa pins s σ H x y v u Q I rx ry h hs;obtain⟨p,xs,i,z,rfl,rfl,hq,he,q⟩:=h;cases rx;obtain⟨t,rfl⟩:=ry;obtain⟨its,r,pl,hz⟩:=I.tuple hq;obtain⟨j,h1,h2,h3,h4,h5⟩:=SX he;obtain⟨w,ew,ab⟩:=r.get h2;have hl:=r.length;have hn:=Qd;have ac:EP X pins σ Q w s:=⟨z,H,I,ab,q⟩
 exact subscriptTail_builtinR (x:=w) pl.typeIs slot_tuple_getitem.lookup
  (getItem_tuple (j:=j) (Q:=λr s'=>r=w/\EP X pins σ Q r s') pl (by lia) (by lia) (by rw[zt,<-hl];exact h1) (by simpa using ew) ⟨rfl,ac⟩) hs
def alv:IxR X anw:=by
 intro value aa pins s σ H x y v u Q I rx ry h hs;obtain⟨z,i,c,rfl,rfl,hz,he,q⟩:=h;obtain⟨t,rfl⟩:=rx;obtain⟨t',rfl⟩:=ry;obtain⟨j,h1,h2,h3,h4,h5⟩:=SX he;have hl:z.cps.toList.length=z.length:=by simp[Str.length]
 rw[hl]at h1 h4 h5;have hn:=Qd
 exact tail_any (typeIs_str s z t) slot_str_getitem.lookup (getItem_str (c:=c) (by
  have e1:decide (i< -(2^63:Int))=false:=zJ (by lia);have e2:decide (i>=2^63)=false:=zJ (by lia);rw[e1,e2,Bool.or_false]) (by rw[h1];simpa using h2) ⟨.str ⟨#[c]⟩,H,I.tok _,⟨_,rfl⟩,q⟩) hs
theorem Inv.lst{pins:List (Addr×Obj)}{σ:St}{H:Hp}{s:Shared}{p:Addr}{xs:List V}(I:Inv X pins σ H s)(h:H p=some (.lst xs)):
  ∃(its:List Value)(n:Nat),Vals xs its/\s.heap.get? p=some {cls:=.type "list",data:=.seq its.toArray n}/\xs.length<=sizeLine:=by
 obtain⟨z,its,n,r,e⟩:=I.hok p _ h;exact⟨its,n,r,e,z⟩
def Pb(lo hi:Option Int)(n:Nat):(sliceBounds lo hi none n).1=((HT.sIx n 0 lo:Nat):Int)/\(sliceBounds lo hi none n).2.1=((HT.sIx n n hi:Nat):Int)/\(sliceBounds lo hi none n).2.2=1:=by
 refine⟨?_,?_,rfl⟩
 ·cases lo with
  |none=>simp[sliceBounds,HT.sIx]
  |some i=>
   simp only[sliceBounds,HT.sIx,Option.getD_none,show(1:Int)>0 by decide,if_true];by_cases h:i<0
   ·simp only[h,if_true]<;>lia
   ·simp only[h,if_false]<;>lia
 ·cases hi with
  |none=>simp[sliceBounds,HT.sIx]
  |some i=>
   simp only[sliceBounds,HT.sIx,Option.getD_none,show(1:Int)>0 by decide,if_true];by_cases h:i<0
   ·simp only[h,if_true]<;>lia
   ·simp only[h,if_false]<;>lia
def Oh(its:List Value)(lo hi:Option Int):slicePick its.toArray lo hi none=((its.drop (HT.sIx its.length 0 lo)).take (HT.sIx its.length its.length hi - HT.sIx its.length 0 lo)).toArray:=by
 obtain⟨h1,h2,q⟩:=Pb lo hi its.toArray.size;unfold slicePick;rw[h1,h2,q];simp only[sliceRange_one,pick_run,zt]<;>rfl
def amY(K:Fg_):V->Option Int->Option Int->Hp->VK->Prop:=λx lo hi H Q=>∃a xs,x=.ref a/\SqL K H a xs/\∀p,H p=none->Q (.ref p) (upd H p (.lst (Ow xs lo hi)))
def akv:SlR X (amY X.K):=by
 intro pins s σ H x v vl vu lo hi sl Q I rx hs pl pu h;obtain⟨a,xs,rfl,hx,q⟩:=h;cases rx;obtain⟨its,r,ht,hz⟩:=I.list hx;have z:=r.length;refine⟨"list",_,slot_list_getitem.lookup,ht.isList.typeIs,?_⟩;refine wpAny_getItem_list_slice ht.isList hs pl pu .none (by simp) ?_ (by rw[zt]<;>lia);rw[Oh,<-z];refine⟨.ref s.heap.objs.size,_,I.laid (t':=s.toks) (o:=.lst (Ow xs lo hi)) (λb ob q=>zd _ q) (zm _) ?_,rfl,q _ (I.hok.fresh (zm _))⟩;exact⟨zS (Ia xs lo hi) hz,_,0,(r.drop (HT.sIx xs.length 0 lo)).take (HT.sIx xs.length xs.length hi - HT.sIx xs.length 0 lo),zB _ rfl⟩
def Pn:nF X (.builtin "len") (λxs H Q=>∃p ys,xs=[.ref p]/\(SqL X.K H p ys\/SqT X.K H p ys)/\Q (.int ys.length) H):=by
 intro pins s σ H xs us Q I r h;obtain⟨p,ys,rfl,hq,q⟩:=h;obtain⟨u,rfl,rx⟩:=vals1 r;cases rx;have hn:=Qd;rcases hq with hq|hq
 ·obtain⟨its,r',pl,hz⟩:=I.list hq
  have z:=r'.length;exact Calls.call_len_list pl.isList (by simp only[zt]<;>lia) ⟨.int ys.length,H,I.tok _,⟨s.toks+1,by rw[zt,z]⟩,q⟩
 ·obtain⟨its,r',pl,hz⟩:=I.tuple hq
  have z:=r'.length;exact len_tuple pl (by simp only[zt]<;>lia) ⟨.int ys.length,H,I.tok _,⟨s.toks+1,by rw[zt,z]⟩,q⟩
def FW:nF X (.builtin "len") (λxs H Q=>∃z,xs=[.str z]/\z.length<=sizeLine/\Q (.int z.length) H):=by
 intro pins s σ H xs us Q I r h;obtain⟨z,rfl,hz,q⟩:=h;obtain⟨u,rfl,t,rfl⟩:=vals1 r;have hn:=Qd;exact len_str (by lia) ⟨.int z.length,H,I.tok _,⟨_,rfl⟩,q⟩
def QK:nF X (.type "list") (λxs H Q=>∃p ys,xs=[.ref p]/\(SqL X.K H p ys\/SqT X.K H p ys)/\∀l,H l=none->Q (.ref l) (upd H l (.lst ys))):=by
 intro pins s σ H xs us Q I r h;obtain⟨p,ys,rfl,hq,q⟩:=h;obtain⟨u,rfl,rx⟩:=vals1 r;cases rx
 have ab:∀(its:List Value),Vals ys its->ys.length<=sizeLine->∀(h':Heap)(z:Nat),(∀b o',s.heap.get? b=some o'->h'.get? b=some o')->
   h'.get? s.heap.objs.size=some {cls:=.type "list",dict:=none,data:=.seq its.toArray z,slots:= #[]}->EP X pins σ Q (.ref s.heap.objs.size) {s with heap:=h'}:=λits r' hz h' z kp e=>
  ⟨.ref s.heap.objs.size,_,I.laid (t':=s.toks) kp (zm _) (show mO X.prog X.w _ h' _ (.lst ys)from⟨hz,its,z,r',e⟩),rfl,q _ (I.hok.fresh (zm _))⟩
 rcases hq with hq|hq
 ·obtain⟨its,r',pl,hz⟩:=I.list hq
  have aa:=r'.length;obtain⟨o,ho,hc,n,hd⟩:=pl.isList;exact call_list_seq p (.inl rfl) ho hc hd (λh' z kp e=>ab its r' hz h' z kp e) (by simp only[zt]<;>lia)
 ·obtain⟨its,r',pl,hz⟩:=I.tuple hq
  have aa:=r'.length;obtain⟨o,ho,hc,n,hd⟩:=pl;exact call_list_seq p (.inr rfl) ho hc hd (λh' z kp e=>ab its r' hz h' z kp e) (by simp only[zt]<;>lia)
def tyV(K:Fg_)(T:String)(x:V)(H:Hp):Prop:=match x with
 |.str _=>T= "str"
 |.int _=>T= "int"
 | .ref p=>(T= "list" /\∃xs,SqL K H p xs)\/(T= "tuple" /\∃o,K.lookup p=some o/\o.cls=.type "tuple" /\o.dict=none)\/
   (T= "dict" /\((∃kvs,H p=some (.dK kvs))\/∃kvs,H p=some (.dT kvs)))\/(T= "set" /\∃S n,H p=some (.set S n))
 |_=>False
def ajb{pins:List (Addr×Obj)}{σ:St}{H:Hp}{s:Shared}{T:String}{v:Value}(I:Inv X pins σ H s)(r:RelV x v)(ty:tyV X.K T x H):
  s.TypeIs v T/\∀a,v=.ref a->∃ob,s.heap.get? a=some ob/\ob.dict=none:=by
 cases x with
 |str z=>
  obtain⟨t,rfl⟩:=r;cases (show T= "str" from ty);exact⟨typeIs_str s z t,λ_ e=>nomatch e⟩
 |int i=>
  obtain⟨t,rfl⟩:=r;cases (show T= "int" from ty);exact⟨typeIs_int s i t,λ_ e=>nomatch e⟩
 |ref p=>
  cases r;rcases ty with⟨rfl,xs,hq⟩|⟨rfl,o,q,hc,hd⟩|⟨rfl,q⟩|⟨rfl,S,n,q⟩
  ·obtain⟨its,_,pl,_⟩:=I.list hq
   refine⟨pl.isList.typeIs,λa e=>?_⟩;cases e;obtain⟨o,n,e,c,hd,_⟩:=pl;exact⟨o,e,hd⟩
  ·refine⟨⟨o,I.kIn p o q,hc⟩,λa e=>?_⟩
   cases e;exact⟨o,I.kIn _ o q,hd⟩
  ·have z:∃o,s.heap.get? p=some o/\o.ExactDict:=by
    rcases q with⟨kvs,q⟩|⟨kvs,q⟩
    ·obtain⟨_,_,_,_,o,_,_,e,ex,_⟩:=I.hok p _ q
     exact⟨o,e,ex⟩
    ·obtain⟨_,_,_,_,o,_,_,e,ex,_⟩:=I.hok p _ q
     exact⟨o,e,ex⟩
   obtain⟨o,e,ex⟩:=z;refine⟨⟨o,e,ex.1⟩,λa e2=>?_⟩;cases e2;exact⟨o,e,ex.2.1⟩
  ·obtain⟨o,_,_,_,e,ex,_⟩:=I.hok p _ q
   refine⟨⟨o,e,ex.1⟩,λa e2=>?_⟩;cases e2;exact⟨o,e,ex.2.1⟩
 |_=>exact False.elim ty
def amZ(K:Fg_)(T:String)(r:V->List V->Hp->VK->Prop)(to:TE):TE:=λσ H Q=>to σ H λx H1=>tyV K T x H1/\r x [] H1 Q
def tBM(K:Fg_)(T:String)(r:V->List V->Hp->VK->Prop)(to:TE)(t:TA):TE:=λσ H Q=>to σ H λx H1=>tyV K T x H1/\t σ H1 λxs H2=>r x xs H2 Q
variable{o e:Expr}{es:List Expr}{to:TE}{t:TA}{name:Str}{apos cpos:Pos}{T id:String}{r:V->List V->Hp->VK->Prop}
def alf(pa:PlainAttrs T)(slot:Slot T name id)(z:typeOf (.builtin id)=pure (.type "method_descriptor")) (hm:MtR X id r) (ho:PE X o to)
  (q:attributeBase o name X.env (eval o X.env)=eval o X.env:=by rfl) (hline:(apos.endLine==cpos.line)=true:=by rfl):PE X (.Call (.Attribute o name apos) [] [] cpos) (amZ X.K T r to):=by
 intro pins s σ H Q I h;refine wpAny_Call_method0_late q hline (thn (ho pins s σ H _ I h) λv s1 ⟨x,H1,I1,r1,ty,q1⟩=>?_);obtain⟨h1,h2⟩:=ajb I1 r1 ty;exact⟨T,id,pa,slot,z,h1,h2,Calls.callWith_builtin rfl (PySem.evalArgs_none (hm pins s1 σ H1 x [] v [] Q I1 r1 .nil q1))⟩
def amG(pa:PlainAttrs T)(slot:Slot T name id)(z:typeOf (.builtin id)=pure (.type "method_descriptor")) (hm:MtR X id r) (ho:PE X o to) (ha:PA X (e::es) t)
  (q:attributeBase o name X.env (eval o X.env)=eval o X.env:=by rfl)
  (hfew:((backTo cpos (starEach (e::es) X.env)).all (λx=>!x.1) && (backToKw cpos (keywordEach [] X.env)).all (λx=>x.1.isSome)
   && decide ((e::es).length+([]:List Keyword).length+(if([]:List Keyword).isEmpty then 0 else 1)<30))=true:=by rfl)
  (hline:(apos.endLine==cpos.line)=true:=by rfl) (hs:starEach (e::es) X.env=(false,eval e X.env)::starEach es X.env:=by rfl) (hplain:(backTo cpos (starEach es X.env)).any (·.1)=false:=by rfl):
  PE X (.Call (.Attribute o name apos) (e::es) [] cpos) (tBM X.K T r to t):=by
 intro pins s σ H Q I h;refine wpAny_Call_method_late q hfew hline rfl (thn (ho pins s σ H _ I h) λv s1 ⟨x,H1,I1,r1,ty,q1⟩=>?_);obtain⟨h1,h2⟩:=ajb I1 r1 ty;refine⟨T,id,pa,slot,z,h1,h2,?_⟩;have hA:=ha cpos pins s1 σ H1 _ I1 q1;rw[hs]at hA⊢;refine Calls.callWith_builtin (by show(false||(backTo cpos (starEach es X.env)).any (·.1))=false;rw[hplain]<;>rfl) (Calls.evalArgs_plain ?_);exact thn hA λus s2 ⟨vs,H2,I2,r2,q2⟩=>hm pins s2 σ H2 x vs v us Q I2 r1 r2 q2
end
def MtM(X:Cx)(id:String)(r:V->List V->Hp->VK->Prop):Prop:=
 ∀(pins:List (Addr×Obj)) (s:Shared) (σ:St) (H:Hp) (x:V) (xs:List V) (v:Value) (us:List Value) (Q:VK),Inv X pins σ H s->RelV x v->Vals xs us->r x xs H Q->
  wpAny (model X.prog X.w) X.A (call (.builtin id) (v::us)) (EP X pins σ Q) X.xe s
def Vals.one(h:Vals [x] us):∃u,us=[u]/\RelV x u:=by
 cases h with|cons r q=>cases q;exact⟨_,rfl,r⟩
def Vals.two{y:V}(h:Vals [x,y] us):∃u v,us=[u,v]/\RelV x u/\RelV y v:=by
 cases h with|cons r q=>cases q with|cons r2 q2=>cases q2;exact⟨_,_,rfl,r,r2⟩
def Vals.zero:∀{us:List Value},Vals [] us->us=[]
 |_,.nil=>rfl
theorem Vals.dropLast{xs:List V}{us:List Value}(h:Vals xs us):Vals xs.dropLast us.dropLast:=by
 induction h with
 |nil=>exact .nil
 |cons r t ih=>
  cases t with
  |nil=>exact .nil
  |cons q t'=>exact .cons r ih
theorem Vals.rep{xs:List V}{us:List Value}(h:Vals xs us):∀k:Nat,Vals (List.replicate k xs).flatten (List.replicate k us).flatten
 |0=> .nil
 |k+1=>by
  rw[yD,yD,zzF,zzF];exact Vals.append h (Vals.rep h k)
def VB(l:List α):l.eraseIdx (l.length - 1)=l.dropLast:=by
 induction l with
 |nil=>rfl
 |cons a r ih=>
  cases r with
  |nil=>rfl
  |cons b r=>
   have e:(a::b::r).length - 1=((b::r).length - 1)+1:=by
    have h1:(a::b::r).length=r.length+2:=rfl;have h2:(b::r).length=r.length+1:=rfl;lia
   rw[e,List.eraseIdx_cons_succ,ih]
   all_goals rfl
theorem foldl_rep(its:List Value):∀(k:Nat)(acc:List Value),
  List.foldl (λx1 q=>x1++q) acc.toArray (List.replicate k its.toArray)=(acc++(List.replicate k its).flatten).toArray
 |0,acc=>by simp
 |k+1,acc=>by
  have e:acc.toArray++its.toArray=(acc++its).toArray:=by simp
  have z:(acc++its)++(List.replicate k its).flatten=acc++(List.replicate (k+1) its).flatten:=by
   rw[yD,zzF,yL]
  rw[<-z,<-foldl_rep its k (acc++its),<-e,yD,yO]
section
variable{X:Cx}{pins:List (Addr×Obj)}{σ:St}{H:Hp}{s:Shared}{l b:Addr}{xs ys zs:List V}
def Inv.lset{its its':List Value}{n:Nat}{f:Array Value->Array Value}{t':Nat}(I:Inv X pins σ H s)(z:H l=some (.lst xs))
  (e:s.heap.get? l=some {cls:=.type "list",data:=.seq its.toArray n}) (hf:f its.toArray=its'.toArray) (hv:Vals ys its') (hz:ys.length<=sizeLine):
  Inv X pins σ (upd H l (.lst ys)) {s with heap:=s.heap.update l (Obj.mapSeq f),toks:=t'}:=by
 have q:=PySem.IsL.update e f;rw[hf]at q;refine I.write (x:=l) (e:=l) (by rw[z];exact trivial) (.inl rfl) (λb' u hb hu=>(yQ s.heap (Obj.mapSeq f) (Ne.symm hb)).trans hu) ⟨_,q⟩ ?_;exact⟨hz,its',_,hv,q⟩
def Inv.lnew{its:List Value}{t':Nat}(I:Inv X pins σ H s)(hv:Vals ys its)(z:ys.length<=sizeLine):
  Inv X pins σ (upd H s.heap.objs.size (.lst ys)) {s with heap:=s.heap.push {cls:=.type "list",data:=.seq its.toArray},toks:=t'}:=
 I.laid (λ_ _ q=>zd _ q) (zm _) ⟨z,its,0,hv,zB _ rfl⟩
theorem Inv.fresh(I:Inv X pins σ H s):H s.heap.objs.size=none:=I.hok.fresh (zm _)
def Inv.lstM(I:Inv X pins σ H s)(q:H l=some (.lst xs)):xs.length<=sizeLine/\∃(its:List Value)(n:Nat),Vals xs its/\xs.length=its.length/\s.heap.get? l=some {cls:=.type "list",data:=.seq its.toArray n}:=by
 obtain⟨z,its,n,r,e⟩:=I.hok l _ q;exact⟨z,its,n,r,r.length,e⟩
def Uo{n:Nat}(h:n<=sizeLine):Builtin.List.listTooLong n=false:=by
 unfold Builtin.List.listTooLong;exact zJ (by lia)
end
section
variable{X:Cx}
def JC:V->List V->Hp->VK->Prop:=λx vs H Q=>∃l xs y,x=.ref l/\vs=[y]/\H l=some (.lst xs)/\xs.length<sizeLine/\Q .non (upd H l (.lst (xs++[y])))
def mJ:MtM X "list.append" JC:=by
 intro pins s σ H x vs v us Q I rx rv h;obtain⟨l,xs,y,rfl,rfl,hH,hz,q⟩:=h;cases rx;obtain⟨u,rfl,ru⟩:=rv.one;obtain⟨z,its,n,r,hl,e⟩:=I.lstM hH;refine zzT F.slot_list_append ⟨_,e,rfl⟩ F.entry_list_append (F.args_list_append_2 _ _) (PySem.list_append l its.toArray n u (by rw[zt];lia)) ⟨e,?_⟩;refine⟨.non,_,I.lset (its':=its++[u]) hH e (by simp) (r.append (.cons ru .nil)) ?_,rfl,q⟩;rw[zC,yn];lia
def ajZ:V->List V->Hp->VK->Prop:=λx vs H Q=>∃l b xs zs,x=.ref l/\vs=[.ref b]/\H l=some (.lst xs)/\H b=some (.lst zs)/\xs.length+zs.length<=sizeLine/\Q .non (upd H l (.lst (xs++zs)))
def ZK:MtM X "list.extend" ajZ:=by
 intro pins s σ H x vs v us Q I rx rv h;obtain⟨l,b,xs,zs,rfl,rfl,hH,hB,hz,q⟩:=h;cases rx;obtain⟨u,rfl,ru⟩:=rv.one;cases ru;obtain⟨z,its,n,r,hl,e⟩:=I.lstM hH;obtain⟨z2,aa,n2,r2,ac,e2⟩:=I.lstM hB;have hsz:its.toArray.size+aa.toArray.size<=sizeLine:=by rw[zt,zt];lia
 have ab:¬(!its.toArray.isEmpty && Builtin.List.listTooLong (its.toArray.size+aa.toArray.size))=true:=by
  rw[Uo hsz,Bool.and_false];exact zO
 refine zzT F.slot_list_extend ⟨_,e,rfl⟩ F.entry_list_extend (F.args_list_extend_2 _ _)
  (AutoSeq1.list_extend_list_list_0 l its.toArray n b aa.toArray n2 ab (by rw[zt];lia) (by lia)) ⟨e,e2,?_⟩
 refine⟨.non,_,I.lset (its':=its++aa) hH e (by simp) (r.append r2) ?_,rfl,q⟩;rw[zC];lia
def anO:V->List V->Hp->VK->Prop:=λx vs H Q=>∃l xs y,x=.ref l/\vs=[]/\H l=some (.lst xs)/\xs[xs.length - 1]? =some y/\Q y (upd H l (.lst xs.dropLast))
def amr:MtM X "list.pop" anO:=by
 intro pins s σ H x vs v us Q I rx rv h;obtain⟨l,xs,y,rfl,rfl,hH,hy,q⟩:=h;cases rx;have aa:=rv.zero;subst aa;obtain⟨z,its,n,r,hl,e⟩:=I.lstM hH;obtain⟨u,hu,ru⟩:=r.get hy
 have hy':its.toArray[its.toArray.size - 1]? =some u:=by
  show its.toArray[its.length - 1]? =some u;rw[<-yG,<-hl];exact hu
 refine zzT F.slot_list_pop ⟨_,e,rfl⟩ F.entry_list_pop (F.args_list_pop_1 _) (MeetsSeq.list_pop_last l its.toArray n u hy' (by rw[zt];lia)) ⟨e,?_⟩;refine⟨y,_,I.lset (its':=its.dropLast) hH e ?_ r.dropLast ?_,ru,q⟩
 ·show its.toArray.eraseIdxIfInBounds (its.toArray.size - 1)=its.dropLast.toArray
  rw[zt,List.eraseIdxIfInBounds_toArray,VB]
 ·rw[List.length_dropLast]
  lia
def amF:R2:=λx y H Q=>∃l b xs zs,x=.ref l/\y=.ref b/\H l=some (.lst xs)/\H b=some (.lst zs)/\xs.length+zs.length<=sizeLine/\∀p,H p=none->Q (.ref p) (upd H p (.lst (xs++zs)))
def Xv:OpR X (binaryOp .Add) amF:=by
 intro pins s σ H x y v u Q I rx ry h;obtain⟨l,b,xs,zs,rfl,rfl,hH,hB,hz,q⟩:=h;cases rx;cases ry;obtain⟨z,its,n,r,hl,e⟩:=I.lstM hH;obtain⟨z2,aa,n2,r2,ab,e2⟩:=I.lstM hB;refine PySem.P.add_list e e2 ?_ (by rw[zt,zt];lia);have ea:its.toArray++aa.toArray=(its++aa).toArray:=by simp
 rw[ea];exact⟨.ref _,_,I.lnew (t':=s.toks) (r.append r2) (by rw[zC];lia),rfl,q _ I.fresh⟩
def amK:R2:=λx y H Q=>∃l k xs,x=.ref l/\y=.int k/\H l=some (.lst xs)/\ -(2^63)<=k/\k<2^63/\xs.length*k.toNat<=sizeLine/\
 ∀p,H p=none->Q (.ref p) (upd H p (.lst (List.replicate k.toNat xs).flatten))
def len_rep(xs:List α)(k:Nat):(List.replicate k xs).flatten.length=k*xs.length:=by
 induction k with
 |zero=>simp
 |succ k ih=>rw[yD,zzF,zC,ih,Nat.succ_mul,Nat.add_comm]
def alN:OpR X (binaryOp .Mult) amK:=by
 intro pins s σ H x y v u Q I rx ry h;obtain⟨l,k,xs,rfl,rfl,hH,h1,h2,hz,q⟩:=h;cases rx;obtain⟨t,rfl⟩:=ry;obtain⟨z,its,n,r,hl,e⟩:=I.lstM hH;have ac:its.toArray.size*k.toNat<=sizeLine:=by rw[zt,<-hl];exact hz
 have ae:¬its.toArray.size*k.toNat>(2^63 - 1)/8:=by
  have:(sizeLine:Nat)<=(2^63 - 1)/8:=by decide
  lia
 have ad:¬(!Builtin.List.listFitsIndex k)=true:=by
  rw[fitsIndex_both h1 h2];exact zO
 have aa:¬Builtin.List.listTooLong (its.toArray.size*k.toNat)=true:=by
  rw[Uo ac];exact zO
 have ab:List.foldl (λx1 x2=>x1++x2) #[] (List.replicate (if its.toArray.isEmpty=true then 0 else k.toNat) its.toArray)=(List.replicate k.toNat its).flatten.toArray:=by
  have f0:∀m:Nat,List.foldl (λx1 x2=>x1++x2) #[] (List.replicate m its.toArray)=(List.replicate m its).flatten.toArray:=λm=>by
   have:=foldl_rep its m [];rw[zzi]at this;exact this
  rw[f0]
  cases its with
  |nil=>simp
  |cons a r'=>rw[zf (by simp)]
 refine wpAny_binaryOp_repeat_ref (T:= "list") (U:= "int") (by decide) ⟨_,e,rfl⟩ (λs'=>typeIs_int s' k t) noFill_list_mul F.fills_int_mul F.slot_int_rmul repeat_list F.slot_int_index.lookup
  (zzT F.slot_int_rmul (typeIs_int s k t) F.entry_int_rmul (F.args_int_rmul_2 _ _) (int___rmul___int_list k t l its.toArray n)
   ⟨e,rfl,⟨_,e,rfl⟩,zzT F.slot_list_mul ⟨_,e,rfl⟩ F.entry_list_mul (F.args_list_mul_2 _ _) (AutoListH.list___mul___list_int_3 l its.toArray n k t ad ae aa) ⟨e,?_⟩⟩)
 rw[ab];exact⟨.ref _,_,I.lnew (t':=s.toks) (r.rep k.toNat) (by rw[len_rep,Nat.mul_comm];exact hz),rfl,q _ I.fresh⟩
end
section
variable{prog:Program}{w:World}{A:Around}{E:Value->Shared->Prop}{s:Shared}
set_option maxRecDepth 100000 in
end
end L2
namespace Att
open PySem PySem.W PySem.Calls PyProof.Rows
def Jt{P:Params}{h:Heap}:∀(ns:List Int)(vs:List Value),WellAll P h vs (ns.map WData.int)->IntsAre vs ns:=by
 intro ns
 induction ns with
 |nil=>
  intro vs w;rw[zzs]at w;cases w;exact .nil
 |cons n ns ih=>
  intro vs w;rw[zl]at w
  cases w with
  |cons a b=>
   cases a;exact .cons _ _ (ih _ b)
def Zx{l:OpenLaw}{n:Nat}(hn:l.most=some n){P:Params}{h:Heap}{args:List WData}{z:List Value}
  (aa:l.row.toRowW.claim.pre args=true) (ac:WellAll P h z args):
  ∃a vs ns,z=[Value.ref a]/\args=[WData.list (ns.map WData.int)]/\h.get? a=some {cls:=.type "list",data:=.seq vs.toArray}/\IntsAre vs ns/\ns.length<=n:=by
 have ad:WShape.hasAll [] args [.list .int]=true:=(pre_splitW aa).1;have hc:l.pre.holds [] {args:=args}=true:=(pre_splitW aa).2;obtain⟨d,r,rfl,h1,h2⟩:=hasAllW_cons ad;obtain rfl:=hasAllW_nil h2;obtain⟨xs,rfl,h3⟩:=hasW_list h1;obtain⟨ns,rfl⟩:=items_int h3
 have ab:ns.length<=n:=by
  unfold OpenLaw.pre at hc
  have h4:(WTm.not (.lt (.lit (.int (n:Int))) (.len (.arg 0)))).holds [] {args:=[.list (ns.map .int)]}=true:=by
   have h4:=(holds_andW hc).1;rw[hn]at h4;exact h4
  have h5:=condW_of h4 (w_not (w_lt w_lit (w_len_list (w_arg rfl))));rw[za]at h5;refine Nat.le_of_not_lt λq=>?_;have q':(n:Int)<((ns.length:Nat):Int):=by lia
  first
   |(rw[zH q']at h5;exact absurd h5 (by decide))
   |(simp at h5;lia)
 cases ac with
 |cons w1 w2=>
  cases w2
  cases w1 with
  |list ho hall=>exact⟨_,_,ns,rfl,rfl,ho,Jt ns _ hall,ab⟩
def XF(l:OpenLaw)(args:List WData):l.row.toRowW.claim.post args (.bool true) args=true:=
 postW_of (r:=l.row.toRowW) (X:=(true==true))
  (show WShape.has [] (.bool true) .bool=true by first|rfl|decide|simp[WShape.has,WShape.arms,WShape.armsAll])
  (show(WTm.eq .res (.lit (.bool true))).value [] {args:=args,res:=some (.bool true),after:=args}=some (.bool (true==true))from w_eq_bool (w_res rfl) w_lit) rfl
def attach_call{l:OpenLaw}{n:Nat}{q:Program}{aa:List Str}{XP:(Str->Option Value)->Heap->Prop}{YP:World->Heap->Prop}{d:DefRec}
  (hn:l.most=some n) (aj:d.params.defaults=[])
  (ae:∀(w:World)(s₀ z:Shared)(mg mb:Str->Option Value)(fa:Addr)(o:Obj)(pm cd ac:Value)(a:Addr)(vs:List Value)(ns:List Int),
   Ground q aa [] XP w s₀ mg mb z.heap->YP w z.heap->
   z.heap.get? fa=some o->o.data=.func (docDef d.name d.params d.body d.scope pm cd ac)->z.heap.CodeRec cd d.name->mg d.name=some (.ref fa)->
   z.heap.get? a=some {cls:=.type "list",data:=.seq vs.toArray}->IntsAre vs ns->ns.length<=n->z.gens= #[]->
   codeAny (model l.prog w) callerA (.call (.ref fa) ⟨[.ref a],[]⟩) (λr s'=>r=.ok (.ret (.bool true))/\OldK z.heap s'.heap/\s'.os=z.os/\AllBare s'.gens) z):
  WalkO q aa XP YP l.row.toRowW d [] (λf vs=>PySem.call f vs):=by
 intro w s₀ z mg mb G Y fa o pm cd ac dV kV ho hd ah hD ak hg args al as af am an ai ao;obtain rfl:dV=.none:=Dflts.none hD aj;obtain rfl:kV=.none:=Dflts.noKw hD;obtain⟨a,vs,ns,rfl,rfl,ad,ab,ag⟩:=Zx hn af ai;refine enter_call (codeAny_mono (ae w s₀ z mg mb fa o pm cd ac a vs ns G Y ho (fd_plain hd) ah ak ad ab ag hg) λr s' hq=>?_);obtain⟨rfl,h2,h3,h4⟩:=hq;exact⟨.inl ⟨.bool true,.bool true,[],rfl,λ_=>rfl,.bool true,XF l _,λ_=>⟨List.Pairwise.nil,λ_ hm=>(nomatch hm)⟩⟩,h2,h3,h4⟩
end Att
namespace L2
open PySem PySem.Spec PyProof.Rows
variable{A:Around}{C a b f l t:Addr}{H H':Hp}{K:Fg_}{N:List Str}{P:Program}{Q:Value->Shared->Prop}{T:String}{X:Cx}{cl:List (Str×Addr)}{dvs:List V}{elts es:List Expr}{env:Env}{fd:FuncData}{fp:List Addr}{h:Heap}{i j lo:Int}{items:Array Value}{kvs:List (κ×V)}{m t':Nat}{o:HO}{p:Array Nat}{pins:List (Addr×Obj)}{pl:Sem Bool}{pos:Pos}{q x z:Str}{r:V->List V->Hp->VK->Prop}{s:Shared}{sp:Sp}{st:Stmt}{tab:List (Addr×Sp)}{u:Value}{w:World}{y:V}{α:Type}{σ:St}
theorem xU:∀{vs:List Value}{ns:List Int},IntsAre vs ns->Vals (ns.map V.int) vs
 |_,_,.nil=> .nil
 |_,_,.cons n t h=> .cons ⟨t,rfl⟩ (xU h)
def Only(H:Hp):Prop:=∀b,H b=none\/∃o xs,H b=some (.frz o (.lst xs))
def aax{P:Program}{w:World}{K:Fg_}{mg mb:Str->Option Value}{CX:CXT}{k:Nat}{fa a:Addr}{fd:FuncData}{x:Str}{sp:Sp}{s₁:Shared}{vs:List Value}{ns:List Int}
  (KX:K.In s₁.heap) (ad:s₁.heap.Ns mainGlobals mg) (hb:s₁.heap.Ns builtinsNs mb) (aj:∀x:Str,x≠ "__name__" ->mb x=bootBuiltins x) (ah:s₁.heap.NoLimit) (hg:s₁.gens= #[])
  (ha:s₁.heap.get? a=some {cls:=.type "list",data:=.seq vs.toArray}) (hi:IntsAre vs ns) (hl:ns.length<=sizeLine) (hr:qY k callerA)
  (F:∀base:Heap,K.In base->base.Ns mainGlobals mg->kI P w K mg base CX k fa fd [x] sp) (hbind:∀(s:Shared)(u:Value),BindsTo s fd ⟨[u],[]⟩ [(x,u)])
  (hsp:∀H:Hp,Only H->SqL K H a (ns.map V.int)->sp [.ref a] H (λv _=>v=.bl true) λ_ _ _=>False)
  (hCX:∀H e s',CX [] H s₁ (λ_ _ _=>False) e s'->False):
  codeAny (model P w) callerA (.call (.ref fa) ⟨[.ref a],[]⟩) (λr s'=>r=.ok (.ret (.bool true))/\OldK s₁.heap s'.heap/\s'.os=s₁.os/\AllBare s'.gens) s₁:=by
 have rv:=xU hi;have ae:=hi.length
 have ac:∀H:Hp,Only H->SqL K H a (ns.map V.int)->HOk P w H s₁.heap->(∀b,H b≠none->b=a)->(H a≠none->K.lookup a=none)->
   codeAny (model P w) callerA (.call (.ref fa) ⟨[.ref a],[]⟩) (λr s'=>r=.ok (.ret (.bool true))/\OldK s₁.heap s'.heap/\s'.os=s₁.os/\AllBare s'.gens) s₁:=by
  intro H hO hS hok hA hK;have aa:∀{b:Addr}{o:Obj},s₁.heap.get? b=some o->H b=none->(aaG s₁.heap H).get? b=some o:=λe n=>aif e n
  have ai:∀{b:Addr}{o:Obj}{es:Array DictEntry}{ep:Nat},s₁.heap.get? b=some o->o.data=.dict es ep->H b=none:=fun{b o es ep} e d=>by
   cases q:H b with
   |none=>rfl
   |some u=>
    have e':b=a:=hA b (by rw[q];simp);subst e';rw[ha]at e;cases e;have d':Data.seq vs.toArray _=Data.dict es ep:=d;cases d'
  have ab:∀{b:Addr}{m:Str->Option Value},s₁.heap.Ns b m->(aaG s₁.heap H).Ns b m:=fun{b m}⟨o,es,ep,e,d,r⟩=>⟨o,es,ep,aa e (ai e d),d,r⟩
  have ag:K.In (aaG s₁.heap H):=λb o e=>aa (KX b o e) (by
   cases q:H b with
   |none=>rfl
   |some u=>
    have e':b=a:=hA b (by rw[q];simp);subst e';rw[hK (by rw[q];simp)]at e;cases e)
  have hM:Mod K mg (aaG s₁.heap H):=⟨ag,ab ad,⟨mb,ab hb,aj⟩,let⟨mc,h1,h2⟩:=ah;⟨mc,ab h1,h2⟩⟩;have e0:aas P w K mg (aaG s₁.heap H) callerA [] s₁ H:=⟨rfl,hM,λb o e=>akq e,yym (aam _ _),trivial,λb hb=>absurd (show b∈([]:List Addr)from hb) (by simp),hok,.of_eq hg⟩;refine codeAny_mono ((F _ ag (ab ad)).run callerA [] s₁ H ⟨[.ref a],[]⟩ [.ref a] [.ref a] _ _ hr e0 (hbind s₁ (.ref a)) (.cons rfl .nil) (hsp H hO hS)) λr s' h=>?_
  cases r with
  |error e=>exact(hCX H e s' h).elim
  |ok fl=>
   cases fl with
   |next=>exact False.elim h
   |brk=>exact False.elim h
   |cont=>exact False.elim h
   |ret u=>
    obtain⟨v,H',os,bare,un,af,r',q⟩:=h;have q':v=.bl true:=q;subst q';obtain rfl:u=Value.bool true:=r';refine⟨rfl,OldK.of_keep λb o e=>?_,os,bare⟩
    cases q:H b with
    |none=>exact un.keep b o e q (by intro z;exact absurd (show b∈([]:List Addr)from z) (by simp)) (by simp)
    |some u=>
     rcases hO b with z|⟨ob,xs,z⟩
     ·rw[q]at z;cases z
     ·have z2:=un.frzs b ob _ z
      obtain⟨e1,_⟩:=hok b _ z;obtain⟨e2,_⟩:=af b _ z2;rw[e]at e1;cases e1;exact e2
 cases hk:K.lookup a with
 |some o=>
  have e:=KX a o hk;rw[ha]at e;cases e;refine ac (λ_=>none) (λ_=> .inl rfl) (.inr ⟨_,vs.toArray,_,hk,rfl,rfl,rfl,by rw[zt,ae];exact hl,by simpa using rv⟩) (λb u z=>by have z':(none:Option HO)=some u:=z;cases z') (λb z=>absurd rfl z) λz=>absurd rfl z
 |none=>
  refine ac (λb=>if b=a then some (.frz {cls:=.type "list",data:=.seq vs.toArray} (.lst (ns.map V.int)))else none) (λb=>?_) (.inl (.inr ⟨{cls:=.type "list",data:=.seq vs.toArray},zi rfl⟩)) (λb u z=>?_) (λb z=>?_) λ_=>hk
  ·by_cases hb:b=a
   ·exact .inr ⟨_,_,zi hb⟩
   ·exact .inl (zf hb)
  ·by_cases hb:b=a
   ·have z':=(zi hb).symm.trans z
    cases z';subst hb;exact⟨ha,by rw[za];exact hl,vs,_,rv,ha⟩
   ·have z':=(zf hb).symm.trans z
    cases z'
  ·by_cases hb:b=a
   ·exact hb
   ·exact absurd (zf hb) z
def walk_of{l:PySem.W.OpenLaw}{n k:Nat}{q:Program}{ab:List Str}{XP:(Str->Option Value)->Heap->Prop}{YP:World->Heap->Prop}{d:DefRec}{K:Params->Fg_}{CX:World->CXT}{sp:World->Sp}{x:Str}
  (hn:l.most=some n) (ad:n<=sizeLine) (ae:d.params.defaults=[]) (hr:qY k callerA)
  (hY:∀(w:World)(h:Heap),YP w h->(K w.params).In h)
  (F:∀(w:World)(mg:Str->Option Value)(fa:Addr)(h:Heap),(K w.params).In h->h.Ns mainGlobals mg->mg d.name=some (.ref fa)->
   ∃fd:FuncData,(∀(s:Shared)(u:Value),BindsTo s fd ⟨[u],[]⟩ [(x,u)])/\
    ∀base:Heap,(K w.params).In base->base.Ns mainGlobals mg->kI l.prog w (K w.params) mg base (CX w) k fa fd [x] (sp w))
  (ag:∀(w:World)(H:Hp)(a:Addr)(ns:List Int),ns.length<=n->Only H->SqL (K w.params) H a (ns.map V.int)->sp w [.ref a] H (λv _=>v=.bl true) λ_ _ _=>False)
  (ah:∀(w:World)(H:Hp)(s:Shared)(e:Value)(s':Shared),CX w [] H s (λ_ _ _=>False) e s'->False):
  PySem.W.WalkO q ab XP YP l.row.toRowW d [] (λf vs=>PySem.call f vs):=by
 refine Att.attach_call hn ae λw s₀ s₁ mg mb fa o pm cd aj a vs ns G Y ho hd ai af ac aa z hg=>?_;have KX:=hY w _ Y;obtain⟨fd,hb,hF⟩:=F w mg fa _ KX G.T.g af;exact aax KX G.T.g G.T.b G.T.builtins G.T.nolimit hg ac aa (zS z ad) hr hF hb (λH hO hS=>ag w H a ns z hO hS) λH e s'=>ah w H s₁ e s'
noncomputable def inClass(s:Stmt)(j:Nat):Stmt:=match s with
 |.ClassDef _ _ _ body _ _ _ _ _ _ _=>body.getD j (.Pass ⟨0,0,0,0⟩)
 |_=> .Pass ⟨0,0,0,0⟩
noncomputable def oH(s:Stmt):Arguments:=match s with
 |.FunctionDef _ a _ _ _ _ _ _ _ _=>a
 |_=>{posonlyargs:=[],args:=[],vararg:=none,kwonlyargs:=[],kw_defaults:=[],kwarg:=none,defaults:=[]}
noncomputable def mW(s:Stmt):List Stmt:=match s with
 |.FunctionDef _ _ b _ _ _ _ _ _ _=>b
 |_=>[]
noncomputable def jg(s:Stmt):Scope:=match s with
 |.FunctionDef _ _ _ _ _ _ sc _ _ _=>sc
 |_=>{kind:=.function,names:=[],isGenerator:=false,isCoroutine:=false}
abbrev CX0:CXT:=λ_ _ _ _ _ _=>False
abbrev E0:XK:=λ_ _ _=>False
def jR:BW CX0 X E0:=λ_ _ _ _ _ _ _ h=>h.elim
structure Fun(K:Fg_)(x qual:Str)(st:Stmt)(f:Addr)(fd:FuncData):Prop where
 ex:∃(oc:Value)(od:Option Addr)(kV doc pm:Value)(an:Option Addr)(cdv ct:Value)(osl:Array (Option Value)),
  fd=PySem.W.fnOf x qual (oH st) (mW st) (jg st) .none kV doc pm an cdv ct/\K.lookup f=some ⟨oc,od,.func fd,osl⟩/\PySem.W.codeIn K cdv qual=true
 kp:PySem.W.keepIn K (.ref f)=true
section
variable{P:Program}{w:World}{K:Fg_}{mg:Str->Option Value}{base:Heap}
def Fun.ok{ps:List Str}{k:Nat}(F:Fun K x z st f fd)(S:jj N ps (jg st))(len:∀vs H Q E,sp vs H Q E->vs.length=ps.length)
  (ab:∀(aa:Value)(A:Around)(outer:List Env)(s:Shared)(H:Hp)(vs:List V)(Q:VK)(E:XK),qY k (A.deeper (envOfC z (jg st) s.heap.objs.size f aa))->sp vs H Q E->
   ∃t,PSs (aat CX0 P w K mg base N z (jg st) f aa A outer s H E).nox (mW st) t/\t {nx:=λ_ H'=>Q .non H',rt:=Q} (start N vs) H):kI P w K mg base CX0 (k+1) f fd ps sp:=by
 obtain⟨oc,od,kV,af,pm,an,aa,ct,ae,rfl,lk,ac⟩:=F.ex;refine ame lk ac S len λA outer s H vs Q E hr ad=>?_;obtain⟨t,h,q⟩:=ab aa A outer s H vs Q E hr ad;exact⟨t,h.nox,q⟩
def Fun.binds{ps:List Str}(F:Fun K x q st f fd)
  (h:∀(kV aa pm:Value)(an:Option Addr)(z ct:Value)(us:List Value),us.length=ps.length->bindArgs (PySem.W.fnOf x q (oH st) (mW st) (jg st) .none kV aa pm an z ct) ⟨us,[]⟩=pure (ps.zip us)):Binds K fd ps []:=by
 obtain⟨oc,od,kV,aa,pm,an,z,ct,ab,rfl,lk,ac⟩:=F.ex;exact .all (h kV aa pm an z ct)
def ZS{oc:Value}{od an:Option Addr}{ab:Array (Option Value)}{kV aa pm z ct:Value}(l:K.lookup f=some ⟨oc,od,.func (PySem.W.fnOf x q (oH st) (mW st) (jg st) .none kV aa pm an z ct),ab⟩)
  (c:PySem.W.codeIn K z q=true) (k:PySem.W.keepIn K (.ref f)=true):Fun K x q st f (PySem.W.fnOf x q (oH st) (mW st) (jg st) .none kV aa pm an z ct):=⟨⟨oc,od,kV,aa,pm,an,z,ct,ab,rfl,l,c⟩,k⟩
end
def oK{k:Nat}(q:qY k A):A.units+1<cLine:=yv (Nat.add_le_add_left (by decide:1<=64) _) q.units
def Qe{n:Nat}(h:n<=1000):n<sizeLine:=yv h (by decide)
section
variable{X:Cx}
def pv(i:Nat){pos:Pos}(q:X.N[i]? =some x:=by rfl)(hv:Vis X.env.scope x:=by walk_at "o") (hd:(x==("__debug__" :Str))=false:=by decide)
  (hcd:(x==("__classdict__" :Str))=false:=by decide):PE X (.Name x pos) (Ro i):=alF q hv hd hcd
end
def Same(H H':Hp):Prop:=∀b o,H b=some o->H' b=some o
def same_refl(H:Hp):Same H H:=λ_ _ h=>h
def Same.trans{H1 H2:Hp}(a:Same H H1)(b:Same H1 H2):Same H H2:=λc o h=>b c o (a c o h)
def Same.free(e:Same H H')(h:H' l=Option.none):H l=Option.none:=by
 cases q:H l with
 |none=>rfl
 |some o=>
  rw[e l o q]at h;cases h
def Same.seq{xs:List V}(e:Same H H')(h:SqL K H a xs):SqL K H' a xs:=by
 rcases h with(h|⟨o,h⟩)|h
 ·exact .inl (.inl (e _ _ h))
 ·exact .inl (.inr ⟨o,e _ _ h⟩)
 ·exact .inr h
def AllIn:List (Str×Addr)->List (Str×Addr)->Prop
 |[],_=>True
 |(x,c)::r,cells=>cells.lookup x=some c/\AllIn r cells
theorem AllIn.look{aa:List (Str×Addr)}:∀{cl:List (Str×Addr)},AllIn cl aa->∀{x:Str}{c:Addr},cl.lookup x=some c->aa.lookup x=some c
 |[],_,x,c,e=>by simp at e
 |(y,d)::r,h,x,c,e=>by
  rw[yyk]at e
  cases q:x==y with
  |true=>
   rw[q]at e;have z:d=c:=zy e;have z2:x=y:=beq_iff_eq.mp q;subst z z2;exact h.1
  |false=>
   rw[q]at e;exact AllIn.look h.2 e
noncomputable def HD(cells:List (Str×Addr)):List (Str×NameKind)->List (Str×Addr)->List (Str×Addr)
 |[],cs=>cs
 |(n,k)::r,cs=>HD cells r (match k with
  |.free=>match cells.lookup n with
   |some c=>(n,c)::cs
   |Option.none=>cs
  |_=>cs)
abbrev Gf(scope:Scope)(env:Env):List (Str×Addr):=HD env.cells scope.names []
theorem HN(z:List (Str×Addr)):∀(names:List (Str×NameKind))(cs:List (Str×Addr)),AllIn cs z->AllIn (HD z names cs) z
 |[],_,h=>h
 |(n,k)::r,cs,h=>by
  unfold HD;refine HN z r _ ?_
  cases k with
  |free=>
   cases q:z.lookup n with
   |none=>exact h
   |some c=>exact⟨q,h⟩
  |_=>exact h
def vd(scope:Scope)(env:Env):AllIn (Gf scope env) env.cells:=HN _ _ _ trivial
def CapOk(X:Cx)(sc:Scope)(cl:List (Str×Addr)):List Str->List (Option Nat)->Prop
 |[],[]=>True
 |_::N,Option.none::r=>CapOk X sc cl N r
 |x::N,some j::r=>X.N[j]? =some x/\(X.env.kindOf x=some .cell\/X.env.kindOf x=some .free)/\(sc.names.lookup x=some .cell\/sc.names.lookup x=some .free)/\(∃c,cl.lookup x=some c)/\CapOk X sc cl N r
 |_,_=>False
noncomputable def rD(σ:St)(cap:List (Option Nat)):St:=cap.map λo=>match o with
 |Option.none=>Option.none
 |some j=>match σ[j]? with
  |some v=>v
  |Option.none=>Option.none
def CapOk.nil{q:Scope}:CapOk X q cl [] []:=trivial
def CapOk.own{q:Scope}{r:List (Option Nat)}(h:CapOk X q cl N r):CapOk X q cl (x::N) (Option.none::r):=h
def CapOk.take{q:Scope}{cl:List (Str×Addr)}{N:List Str}{j:Nat}{r:List (Option Nat)}(h1:X.N[j]? =some x)(h2:X.env.kindOf x=some .cell\/X.env.kindOf x=some .free)
  (h3:q.names.lookup x=some .cell\/q.names.lookup x=some .free) (z:(cl.lookup x).isSome=true) (h:CapOk X q cl N r):CapOk X q cl (x::N) (some j::r):=⟨h1,h2,h3,yK.mp z,h⟩
theorem CapOk.len{X:Cx}{q:Scope}{cl:List (Str×Addr)}:∀{N:List Str}{cap:List (Option Nat)},CapOk X q cl N cap->cap.length=N.length
 |[],[],_=>rfl
 |_::N,Option.none::r,h=>congrArg (·+1) (CapOk.len (N:=N) (cap:=r) h)
 |_::N,some _::r,h=>congrArg (·+1) (CapOk.len (N:=N) (cap:=r) h.2.2.2.2)
 |[],_::_,h=>h.elim
 |_::_,[],h=>h.elim
theorem CapOk.get{X:Cx}{sc:Scope}{cl:List (Str×Addr)}{σ:St}:∀{N:List Str}{cap:List (Option Nat)}{i:Nat}{x:Str}{v:V},CapOk X sc cl N cap->N[i]? =some x->(rD σ cap)[i]? =some (some v)->
  ∃j:Nat,X.N[j]? =some x/\σ[j]? =some (some v)/\(X.env.kindOf x=some .cell\/X.env.kindOf x=some .free)/\(sc.names.lookup x=some .cell\/sc.names.lookup x=some .free)/\∃c,cl.lookup x=some c
 |[],[],i,x,v,_,e,_=>by simp at e
 |y::N,Option.none::r,0,x,v,h,e1,e2=>by
  have z:(some (Option.none:Option V))=some (some v):=e2;cases z
 |y::N,Option.none::r,i+1,x,v,h,e1,e2=>CapOk.get (N:=N) (cap:=r) (i:=i) h (by simpa using e1) (by simpa [rD] using e2)
 |y::N,some j::r,0,x,v,h,e1,e2=>by
  have z:y=x:=by simpa using e1
  subst z;obtain⟨h1,h2,h3,h4,_⟩:=h;refine⟨j,h1,?_,h2,h3,h4⟩;have z2:some (match σ[j]? with|some v=>v|Option.none=>Option.none)=some (some v):=e2
  cases q:σ[j]? with
  |none=>rw[q]at z2;cases z2
  |some o=>rw[q]at z2;exact z2
 |y::N,some j::r,i+1,x,v,h,e1,e2=>CapOk.get (N:=N) (cap:=r) (i:=i) h.2.2.2.2 (by simpa using e1) (by simpa [rD] using e2)
 |[],_::_,_,_,_,h,_,_=>h.elim
 |_::_,[],_,_,_,h,_,_=>h.elim
noncomputable def cxC(X:Cx)(N':List Str)(scope:Scope)(s:Shared)(H:Hp)(fp:List Addr)(xe:Value->Shared->Prop):Cx:=
 {X with N:=N',s₀:=s,H₀:=H,env:=compEnvC scope (Gf scope X.env) s.heap.objs.size X.env,outer:=X.stack,ex:=fp,fn:=λ_=>false,pn:=[],xe:=xe}
def PTs(X:Cx)(ifs:List Expr)(t:TT):Prop:=
 ∀(pins:List (Addr×Obj)) (s:Shared) (σ:St) (H:Hp) (Q:Bool->Hp->Prop),Inv X pins σ H s->t σ H Q->
  wpAny (model X.prog X.w) X.A (forIn ifs true λc r=>if r=true then do let ok<-isTrue c X.env (eval c X.env);pure (ForInStep.yield ok)else pure (ForInStep.yield r)) (TP X pins σ Q) X.xe s
def Lw:TT:=λ_ H Q=>Q true H
def kh:PTs X [] Lw:=λ_ _ _ H _ I h=>wpAny_tests_nil ⟨H,I,h⟩
def ul{c:Expr}{t:TT}(h:PT X c t):PTs X [c] t:=λpins s σ H Q I q=>wpAny_tests_one (h pins s σ H Q I q)
def akO(cap:List (Option Nat))(wi:TI)(g:TG)(tt:TT)(te:TE):TE:=λσ H Q=>wi σ H λJ H1=>∀D,H1 D=Option.none->
 ∃W:Nat->Nat->List V->St->Hp->Prop,(∃m,W 0 m [] (rD σ cap) (upd H1 D (.lst [])))/\∀i m acc σ1 H2,W i m acc σ1 H2->H2 D=some (.lst acc)->
  (J.stop i H2/\Q (.ref D) H2)\/(J.go i H2/\∀x H3,J.yld i H2 x H3->g x σ1 H3 λσ4 H4=>tt σ4 H4 λb H5=>
   if b=true then te σ4 H5 λv H6=>∃acc',H6 D=some (.lst acc')/\acc'.length<sizeLine/\∃m',m'<m/\W (i+1) m' (acc'++[v]) σ4 (upd H6 D (.lst (acc'++[v])))
   else∃m',m'<m/\∃acc',H5 D=some (.lst acc')/\W (i+1) m' acc' σ4 H5)
section
variable{X:Cx}{elt tg iter:Expr}{ifs:List Expr}{scope:Scope}{pos:Pos}{cap:List (Option Nat)}{N':List Str}{wi:TI}{g:TG}{tt:TT}{te:TE}
structure Zi(X:Cx)(iter:Expr)(scope:Scope)(N':List Str)(cap:List (Option Nat)):Prop where
 clos:closureFor scope X.env=pure (Gf scope X.env)
 cap:CapOk X (relabel scope X.env) (Gf scope X.env) N' cap
 kind:scope.kind=.function
 nocell:∀y∈scope.names,y.2≠.cell
 names:∀y∈scope.names,y.2=.local->scope.names.lookup y.1=some .local
 has:(scope.names.all λy=>y.2 !=.free||((Gf scope X.env).lookup y.1).isSome)=true
 fold:∀x,foldedSetIterable iter X.env x=pure x
theorem YZ{f:Str×NameKind->Str×NameKind}(h1:∀y,(f y).1=y.1)(h2:∀y,y.2≠NameKind.cell->((f y).2=NameKind.cell\/(f y).2=NameKind.free)->y.2=NameKind.free){cl:List (Str×Addr)}:
  ∀{names:List (Str×NameKind)}{x:Str},(∀y∈names,y.2≠NameKind.cell)->(names.all λy=>y.2 !=NameKind.free||(cl.lookup y.1).isSome)=true->((names.map f).lookup x=some NameKind.cell\/(names.map f).lookup x=some NameKind.free)->∃c,cl.lookup x=some c
 |[],x,_,_,h=>by rcases h with h|h<;>simp at h
 |y::r,x,hc,ha,h=>by
  rw[List.all_cons,zza]at ha;rw[zl]at h;have e0:f y=(y.1,(f y).2):=by rw[<-h1 y]
  rw[e0,yyk]at h
  cases q:x==y.1 with
  |true=>
   rw[q]at h;have e:x=y.1:=beq_iff_eq.mp q
   have hf:y.2=NameKind.free:=h2 y (hc y zg) (by
    rcases h with h|h
    ·exact .inl (zy h)
    ·exact .inr (zy h))
   have h3:(cl.lookup y.1).isSome=true:=by
    have:=ha.1;rw[hf]at this
    simpa using this
   rw[e];exact yK.mp h3
  |false=>
   rw[q]at h;exact YZ h1 h2 (λz hz=>hc z (zn _ hz)) ha.2 h
def alp{env:Env}{x:Str}(hc:∀y∈scope.names,y.2≠NameKind.cell)(ha:(scope.names.all λy=>y.2 !=NameKind.free||(cl.lookup y.1).isSome)=true)
  (h:(relabel scope env).names.lookup x=some NameKind.cell\/(relabel scope env).names.lookup x=some NameKind.free):∃c,cl.lookup x=some c:=by
 refine YZ (f:=fun(n,k)=>if(k==NameKind.free && env.scope.kind==.function && env.kindOf n==some .cell)then(n,NameKind.cell)else(n,k)) (λy=>?_) (λy hy q=>?_) hc ha h
 ·obtain⟨n,k⟩:=y
  dsimp only;split<;>rfl
 ·obtain⟨n,k⟩:=y
  dsimp only at q⊢hy;by_cases z:(k==NameKind.free && env.scope.kind==.function && env.kindOf n==some .cell)=true
  ·simp only[zza]at z
   exact beq_iff_eq.mp z.1.1
  ·rw[zf z]at q
   rcases q with q|q
   ·exact absurd q hy
   ·exact q
def RG{P:Program}{w:World}{A:Around}{R:Result->Shared->Prop}{s:Shared}{it acc:Value}{env:Env}(I:Nat->Shared->Prop)
  (q:∀n s,I n s->wpAny (model P w) A (pyNext it) (λr s₁=>match r with
   |none=>R (.ok .next) s₁
   | some v=>wpAny (model P w) A (letOwnedTupleGo tg it v) (λ_ z=>wpAny (model P w) A (assign tg env v) (λ_ s₂=>
     wpAny (model P w) A (forIn ifs true λc r=>if r=true then do let ok<-isTrue c env (eval c env);pure (ForInStep.yield ok)else pure (ForInStep.yield r)) (λok s₃=>
      if ok=true then wpAny (model P w) A (eval elt env) (λx s₄=>
       wpAny (model P w) A (call (.builtin "list.append") [acc,x]) (λ_ s₅=>∃m,m<n/\I m s₅) (notedBy (model P w) A env λe s'=>R (.error e) s') s₄) (notedBy (model P w) A env λe s'=>R (.error e) s') s₃
      else∃m,m<n/\I m s₃) (notedBy (model P w) A env λe s'=>R (.error e) s') s₂) (notedBy (model P w) A env λe s'=>R (.error e) s') z) (notedBy (model P w) A env λe s'=>R (.error e) s') s₁)
    (notedBy (model P w) A env λe s'=>R (.error e) s') s)
  (n:Nat) (h:I n s):
  codeAny (model P w) A (.compLoop (.ListComp elt [⟨tg,iter,ifs,0⟩] scope pos) 0 it acc env) R s:=by
 refine codeAny_loop rfl I (λn s hI=>?_) n h;show wpAny _ A ((compTurn (.ListComp elt [⟨tg,iter,ifs,0⟩] scope pos) 0 it acc env).onRaise (λx=>do noteFrame x env;theTreesLotGoes x)) _ _ s;refine wpAny_noted ?_;rw[compTurn_list];refine ze (yyh (ze (yi (q n s hI) (λr s₁ h₁=>?_) λ_ _ h'=>h')))
 cases r with
 |none=>exact zA h₁
 |some v=>
  refine ze (yi h₁ (λ_ z h₁=>?_) λ_ _ h'=>h');refine ze (yi h₁ (λ_ s₂ h₂=>ze (yi h₂ (λok s₃ h₃=>?_) λ_ _ h'=>h')) λ_ _ h'=>h')
  cases ok with
  |false=>exact zA ⟨rfl,h₃⟩
  |true=>
   exact ze (ze (yi h₃ (λx s₄ h₄=>ze (yi h₄ (λ_ s₅ h₅=>zA (zA ⟨rfl,h₅⟩)) λ_ _ h'=>h')) λ_ _ h'=>h'))
def Qi{pins:List (Addr×Obj)}{σ:St}{H2:Hp}{s2:Shared}{Q:VK}{it:Addr}{fp:List Addr}{tn:Nat->Heap->Prop}{J:It}{R:Value->Addr->Result->Shared->Prop}{E:Value->Shared->Prop}
  (hc:X.calm=true) (C:Zi X iter scope N' cap)
  (hg:∀s H fp xe,PG (cxC X N' scope s H fp xe) tg g) (ht:∀s H fp xe,PTs (cxC X N' scope s H fp xe) ifs tt) (he:∀s H fp xe,PE (cxC X N' scope s H fp xe) elt te)
  (I2:Inv X pins σ H2 s2) (T:Turn X.prog X.w X.K tg J fp it tn) (ag:tn 0 s2.heap) (f2:∀b∈fp,SQ X pins H2 b)
  (hR:∀D Cl H' s',Inv X pins σ H' s'->(∃m,s'.heap.Ns Cl m)->H' Cl=Option.none->Cl≠X.env.locals->X.s₀.heap.objs.size<=Cl->(∀x c,X.env.cells.lookup x=some c->c≠Cl)->(∀p∈X.pn++pins,p.1≠Cl)->Q (.ref D) H'->R (.ref D) Cl (.ok .next) s')
  (hw:∀D,H2 D=Option.none->∃W:Nat->Nat->List V->St->Hp->Prop,(∃m,W 0 m [] (rD σ cap) (upd H2 D (.lst [])))/\∀i m acc σ1 H2,W i m acc σ1 H2->H2 D=some (.lst acc)->
   (J.stop i H2/\Q (.ref D) H2)\/(J.go i H2/\∀x H3,J.yld i H2 x H3->g x σ1 H3 λσ4 H4=>tt σ4 H4 λb H5=>
    if b=true then te σ4 H5 λv H6=>∃aa,H6 D=some (.lst aa)/\aa.length<sizeLine/\∃m',m'<m/\W (i+1) m' (aa++[v]) σ4 (upd H6 D (.lst (aa++[v])))
    else∃m',m'<m/\∃aa,H5 D=some (.lst aa)/\W (i+1) m' aa σ4 H5)):
  wpAny (model X.prog X.w) X.A (newList []) (λacc s₃=>wpAny (model X.prog X.w) X.A (newFunctionEnv scope X.env.globals (Gf scope X.env) [] X.env.qual none .none (some X.env)) (λak s₄=>
   codeAny (model X.prog X.w) X.A (.compStart (.ListComp elt [⟨tg,iter,ifs,0⟩] scope pos) 0 (.ref it) acc {ak with scope:=relabel scope X.env}) (R acc ak.locals) s₄) E s₃) E s2:=by
 refine y4 (wpAny_newFunctionEnv C.nocell (by intro y hy;simp at hy) (λh₁ ah ai=>?_) C.kind);obtain⟨W,⟨m0,w0⟩,aj⟩:=hw s2.heap.objs.size I2.fresh;have I3:Inv X pins σ (upd H2 s2.heap.objs.size (.lst [])) {s2 with heap:=s2.heap.push {cls:=.type "list",data:=.seq ([]:List Value).toArray}}:=I2.lnew (t':=s2.toks) .nil (zM _);generalize an:({s2 with heap:=s2.heap.push {cls:=.type "list",data:=.seq ([]:List Value).toArray}}:Shared)=s3 at I3 ah ai⊢;generalize hD:s2.heap.objs.size=D at I3 w0 aj⊢;have bi:H2 D=Option.none:=by rw[<-hD];exact I2.fresh
 have ap:s3.os=s2.os:=by rw[<-an]
 have aw:Un (frs X.stack) fp H2 (upd H2 D (.lst [])) s2.heap s3.heap:=by
  rw[<-an,<-hD];exact Un.laid (λb u q=>zd _ q) (zm _) I2.fresh
 have ab:∀b o,s3.heap.get? b=some o->h₁.get? b=some o:=λb o e=>(ai.2 b (zE (zv e))).trans (zd _ e);have af:∀b o,s2.heap.get? b=some o->s3.heap.get? b=some o:=λb o e=>by rw[<-an];exact zd _ e
 have hR':∀(r:Result)(s':Shared),R (.ref D) s3.heap.objs.size r s'->R (.ref D) s3.heap.objs.size r s':=λ_ _ h=>h
 have f3:∀b∈fp,SQ X pins (upd H2 D (.lst [])) b:=λb hb=>by
  obtain⟨q0,q1⟩:=f2 b hb;refine⟨?_,q1⟩;obtain⟨o,e,_⟩:=T.obj _ _ ag b hb;rw[jn (by rw[<-hD];exact zE (zv e))];exact q0
 let XC:Cx:=cxC X N' scope s3 (upd H2 D (.lst [])) fp (notedBy (model X.prog X.w) X.A (compEnvC scope (Gf scope X.env) s3.heap.objs.size X.env) λe s'=>R (.ref D) s3.heap.objs.size (.error e) s')
 have ok:XC.Ok:=by
  refine⟨I3.ok.mod,C.kind,I3.ok.glob,I3.ok.blt,zm _,λx y c e1 e2=>I3.ok.inj x y c ((vd scope X.env).look e1) ((vd scope X.env).look e2),λx hx=>alp C.nocell C.has hx,λx c hf=>(nomatch hf),λ_=>I3.ok.hd hc,I3.ok.frames,.inl rfl,λb hb=>?_,I3.bs,zS I3.ok.bsz I3.sz,λb o e hb=>?_,λb hb hf=>?_,I3.stack,I3.stkFree⟩
  ·obtain⟨q0,q1,q2,q3,q4,q5⟩:=f3 b hb
   refine⟨?_,λx c e=>q4 x c ((vd scope X.env).look e)⟩;obtain⟨o,e,_⟩:=T.obj _ _ ag b hb;exact zE (zv (af _ _ e))
  ·obtain⟨q0,q1,q2,q3,q4,q5⟩:=f3 b hb
   rcases q3 with q3|q3
   ·exact I3.ok.noex b o e q3
   ·exact absurd (zL (zv e) (zS I3.ok.bsz q3)) (yu _)
  ·obtain⟨q0,q1,q2,q3,q4,q5⟩:=f3 b hb
   rcases zx.mp (I3.stkSub b hf)with z|z
   ·exact q1 z
   ·exact q2 z
 have I4:Inv XC [] (rD σ cap) (upd H2 D (.lst [])) {s3 with heap:=h₁,toks:=s3.toks+([]:List (Str×Value)).length}:=by
  refine⟨ok,rfl,I3.bare,Un.kept ab,⟨_,ah,λi x v e1 e2 e3=>?_⟩,λx c e=>?_,I3.hok.fresh (zm _),λx c e=>I3.freeC x c ((vd scope X.env).look e),λp hp=>absurd (show p∈([]:List (Addr×Obj))from hp) (by simp),I3.hok.kept ab,by rw[show(rD σ cap).length=cap.length from by simp[rD]];exact C.cap.len⟩
  ·obtain⟨j,g1,g2,g3,g4,c,g5⟩:=C.cap.get e1 e2
   obtain⟨m,_,hl⟩:=I3.loc
   obtain ⟨u,r,l⟩:=hl j x v g1 g2 (by
    rcases g3 with z|z
    ·exact .inr (.inl z)
    ·exact .inr (.inr z))
   refine⟨u,r,.inr ⟨g4,c,g5,?_⟩⟩;rcases l with⟨k,_⟩|⟨_,c',e,z⟩
   ·rcases g3 with q|q
    ·rw[k]at q;cases q
    ·rw[k]at q;cases q
   ·have e':=(vd scope X.env).look g5
    rw[e]at e';cases e';obtain⟨o,ho,hd⟩:=z;exact⟨o,ab _ _ ho,hd⟩
  ·obtain⟨v,o,ho,hd⟩:=I3.cell x c ((vd scope X.env).look e)
   exact⟨v,o,ab _ _ ho,hd⟩
 have ar:tn 0 h₁:=T.keep _ _ _ ag λb _ o e=>ab b o (af b o e)
 have ao:∀{ac:List (Addr×Obj)}{H':Hp},(∀b∈fp,H' b=Option.none)->(∀p∈ac,p.1∉fp)->∀b∈fp,SQ XC ac H' b:=fun{ac H'} hn hp b hb=>by
  obtain⟨q1,q2⟩:=ok.exf b hb;exact⟨hn b hb,q1,ok.exfs b hb,.inl hb,q2,λp bc z=>hp p (by simpa [XC,cxC] using bc) (by rw[z];exact hb)⟩
 have bh:D∉fp:=λhb=>by
  obtain⟨o,e,_⟩:=T.obj _ _ ag D hb;rw[<-hD]at e;exact absurd (zv e) (yu _)
 have out:∀{σ':St}{H':Hp}{s':Shared},Inv XC [] σ' H' s'->Inv X pins σ H' s':=fun{σ' H' s'} J'=>
  I2.call' (ch:=fp) (J'.os.trans ap) (aw.trans J'.base) J'.hok J'.bare λb hb=>by
   obtain⟨q0,q1,q2,q3,q4,q5⟩:=f2 b hb;exact⟨q3,q1,q4,q5⟩
 have al:∀s₄:Shared,s₄={s3 with heap:=h₁,toks:=s3.toks+([]:List (Str×Value)).length}->
   codeAny (model X.prog X.w) X.A (.compLoop (.ListComp elt [⟨tg,iter,ifs,0⟩] scope pos) 0 (.ref it) (.ref D) (compEnvC scope (Gf scope X.env) s3.heap.objs.size X.env)) (R (.ref D) s3.heap.objs.size) s₄:=by
  rintro s₄ rfl
  refine RG (λn s'=>∃i acc σ' H',Inv XC [] σ' H' s'/\tn i s'.heap/\(∀b∈fp,H' b=Option.none)/\H' D=some (.lst acc)/\W i n acc σ' H') ?_ m0
   ⟨0,[],rD σ cap,upd H2 D (.lst []),I4,ar,λb hb=>(f3 b hb).1,jd,w0⟩
  rintro n s5 ⟨i,acc,σ5,H5,I5,aq,as,hA,w5⟩;rcases aj i n acc σ5 H5 w5 hA with⟨stop,q⟩|⟨go,au⟩
  ·refine thn (T.done XC rfl rfl rfl hc i [] s5 σ5 H5 _ I5 (ao as (by simp)) aq stop) λr s6 ⟨hr,I6⟩=>?_
   subst hr;obtain⟨m,hn,_⟩:=I6.loc
   exact hR D s3.heap.objs.size H5 s6 (out I6) ⟨m,hn⟩ I6.free (yz I3.lt) I3.sz (λx c e z=>by
    obtain⟨v,o,ho,_⟩:=I3.cell x c e;rw[z]at ho;exact absurd (zv ho) (yu _)) (λp hp z=>by
    have e:=(I3.pin p hp).1;rw[z]at e;exact absurd (zv e) (yu _)) q
  ·refine thn (T.item XC rfl rfl rfl hc i [] s5 σ5 H5 _ I5 (ao as (by simp)) aq go) λr s6 ⟨u,hr,h6⟩=>?_
   subst hr;refine thn h6 λ_ s7 ⟨x,H7,I7,r7,y7,am,bb⟩=>?_;have I7':=I7.pinned (ao bb (by simp)) (T.obj _ _ am)
   have ae:∀{σ8:St}{H8:Hp}{s8:Shared},Inv XC ([]++Qt fp s7.heap) σ8 H8 s8->(∃aa,H8 D=some (.lst aa)/\∃m',m'<n/\W (i+1) m' aa σ8 H8)->
     ∃m,m<n/\∃i acc σ' H',Inv XC [] σ' H' s8/\tn i s8.heap/\(∀b∈fp,H' b=Option.none)/\H' D=some (.lst acc)/\W i m acc σ' H':=fun{σ8 H8 s8} I8⟨aa,ad,m',hm,w8⟩=>by
    refine⟨m',hm,i+1,aa,σ8,H8,I8.unpinned,T.keep _ _ _ am λb hb o e=>(I8.pin (b,o) (zF _ (zF _ (Bl hb e)))).1,λb hb=>?_,ad,w8⟩;obtain⟨o,e,d⟩:=T.obj _ _ am b hb;exact(I8.pin (b,o) (zF _ (zF _ (Bl hb e)))).2.1
   refine thn (hg s3 _ fp _ _ s7 σ5 H7 x u _ I7' r7 (au x H7 y7)) λ_ s8 ⟨σ8,H8,I8,q8⟩=>?_;refine thn (ht s3 _ fp _ _ s8 σ8 H8 _ I8 q8) λb s9 ⟨H9,I9,q9⟩=>?_
   cases b with
   |false=>
    rw[zf zO]at q9⊢;obtain⟨m',hm,aa,ad,w9⟩:=q9;exact ae I9 ⟨aa,ad,m',hm,w9⟩
   |true=>
    rw[zi rfl]at q9⊢;refine thn (he s3 _ fp _ _ s9 σ8 H9 _ I9 q9) λv bd ⟨y,av,az,ay,aa,ad,hz,m',hm,ba⟩=>?_;refine thn (mJ (X:=XC) _ bd σ8 av (.ref D) [y] (.ref D) [v] (λ_ Hz=>Hz=upd av D (.lst (aa++[y]))) az rfl (.cons ay .nil) ⟨D,aa,y,rfl,rfl,ad,hz,rfl⟩) λ_ bf ⟨_,bg,ax,_,be⟩=>?_;subst be;exact ae ax ⟨aa++[y],jd,m',hm,ba⟩
 exact codeAny_compStart_list (al _ rfl) (T.self _ 0 _ _ _ ar (al _ rfl))
def jW(hc:X.calm=true)(C:Zi X iter scope N' cap)(hi:PI X tg iter wi)
  (hg:∀s H fp xe,PG (cxC X N' scope s H fp xe) tg g) (ht:∀s H fp xe,PTs (cxC X N' scope s H fp xe) ifs tt) (he:∀s H fp xe,PE (cxC X N' scope s H fp xe) elt te):
  PE X (.ListComp elt [⟨tg,iter,ifs,0⟩] scope pos) (akO cap wi g tt te):=by
 intro pins s σ H Q I h;rw[eval_ListComp];refine wpAny_comprehension_free (use:=none) rfl C.fold C.clos C.kind C.names (thn (hi pins s σ H _ I h) λv s1 h1=>thn h1 λab s2 h2=>?_);obtain⟨it,fp,tn,J,H2,e,I2,T,z,f2,hw⟩:=h2;subst e;refine Qi (R:=λacc Cl=>compPost (model X.prog X.w) X.A X.xe none (EP X pins σ Q) acc Cl) hc C hg ht he I2 T z f2 ?_ hw;intro D Cl H' s' I' ⟨m,hn⟩ hf h1 h2 h3 h4 q;exact⟨m,hn,λh' aa=>⟨.ref D,H',I'.turned (t':=s'.toks) (λb o hb e=>(aa.2 b hb).trans e) hf h1 (.inr h2) h3 h4,rfl,q⟩⟩
def nT{i:Nat}{y:Str}{py aa:Pos}(hN:X.N.Nodup)(ac:X.N[i]? =some y)(hy:X.env.scope.names.lookup y=some .local)
  (hc:X.calm=true) (C:Zi X iter scope N' cap) (hi:PI X tg iter wi)
  (hg:∀s H fp xe,PG (cxC X N' scope s H fp xe) tg g) (ht:∀s H fp xe,PTs (cxC X N' scope s H fp xe) ifs tt) (he:∀s H fp xe,PE (cxC X N' scope s H fp xe) elt te)
  (ah:swapsWith (.ListComp elt [⟨tg,iter,ifs,0⟩] scope pos) (some (.Name y py)) aa.line X.env=pure true:=by rfl):
  PS X (.Assign [.Name y py] (.ListComp elt [⟨tg,iter,ifs,0⟩] scope pos) aa) (amz (akO cap wi g tt te) (RX i)):=by
 intro pins s σ H D I h;rw[exec_Assign_Name_used _ _ _ _ ah];refine ze (yyh (ze ?_));show wpAny _ X.A (do let _<-comprehension (.ListComp elt [⟨tg,iter,ifs,0⟩] scope pos) scope X.env _ (newList []) false (eval iter X.env) (some (assign (.Name y py) X.env))) _ _ s
 refine ze (yi (wpAny_comprehension_free (use:=some (assign (.Name y py) X.env)) (Q:=λ_ s'=>SP X pins D .next s') rfl C.fold C.clos C.kind C.names (thn (hi pins s σ H _ I h) λv s1 h1=>thn h1 λai s2 h2=>?_))
  (λ_ s' hq=>zA (zA hq)) λ_ _ e=>e)
 obtain⟨it,fp,tn,J,H2,e,I2,T,ad,f2,hw⟩:=h2;subst e;refine Qi (Q:=λx H1=>RX i x σ H1 D.nx) (R:=λacc Cl=>compPost (model X.prog X.w) X.A X.xe (some (assign (.Name y py) X.env)) (λ_ s'=>SP X pins D .next s') acc Cl) hc C hg ht he I2 T ad f2 ?_ hw;intro Da Cl H' s' I' ⟨m,hn⟩ hf h1 h2 h3 h4 q;show wpAny _ _ (assign (.Name y py) X.env (.ref Da)) _ _ s';refine wpAny_assign_Name (QX I' hN ac (.inl hy) (v:=.ref Da) rfl (λab I'' ⟨a,ag,ha⟩=>?_) (.inr hy))
 have af:Cl≠a:=by
  rcases ha with z|z
  ·rw[z];exact h1
  ·exact Ne.symm (h3 y a z)
 exact⟨m,hn.sameBut ag af,λh' ae=>⟨_,H',I''.turned (t':=ab.toks) (λb o hb e=>(ae.2 b hb).trans e) hf h1 (.inr h2) h3 h4,q⟩⟩
end
section
variable{X:Cx}{a b c:Expr}{ta tb tc:TE}{pos:Pos}
def ako(i j:Int):Prop:=i.natAbs<2^2000/\j.natAbs<2^2000
def ako.ok(h:ako i j):IntMulOk i j:=
 IntMulOk.of_bits (zS (intBits_le h.1) (by decide)) (zS (intBits_le h.2) (by decide))
def GX(_ j:Int):Prop:=0<j/\j.natAbs<2^2000
def nP:OpR X (binaryOp .FloorDiv) (rI GX λi j=> .int (i/j)):=opI λi j _ _ _ _ _ z q=>by
 have h1:(0:Int)<j:=z.1;have h0:j.natAbs≠0:=by lia
 have h2:j.natAbs.log2<2000:=(Nat.log2_lt h0).mpr z.2;exact floordiv_int (by lia) (by rw[Int.fdiv_eq_ediv_of_nonneg i (by lia)];exact q) (.inl (PyProof.noPylong_of_log2 (by lia)))
def Yt(hc:X.calm=true):nF X (.builtin "sum") (λxs H Q=>∃(a:Addr)(ns:List Int),xs=[.ref a]/\SqL X.K H a (ns.map V.int)/\Q (.int ns.sum) H):=by
 intro pins s σ H xs us Q I r h;obtain⟨a,ns,rfl,hq,q⟩:=h;obtain⟨u,rfl,r1⟩:=vals1 r;cases r1;obtain⟨its,rv,pl,hz⟩:=I.list hq;have hi:IntsAre its ns:=intsAre_of rv;obtain⟨xs,e⟩:=hi.allInts.items;have z:=pl.isList;rw[e]at z;refine sum_intListG (I.ok.hd hc) z λh' tk t' hk=>?_;have e1:its=(intItems xs).toList:=by rw[<-e]
 have e2:xs.toList.map (·.1)=ns:=by rw[<-nums_intItems,<-e1,hi.numsOf]
 have es:preSum (numAt xs) xs.size=ns.sum:=by rw[preSum_eq,z3 (by simp),e2]
 rw[es];exact⟨.int ns.sum,H,I.kept hk,⟨_,rfl⟩,q⟩
def Mr{bs:List Bool}(I:Inv X pins σ H s)(hq:SqL X.K H l (bs.map V.bl)):
  ∃its:List Value,its.length=bs.length/\s.heap.IsList l its.toArray/\l≠s.heap.objs.size/\∀(i:Nat)(v:Value),its.toArray[i]? =some v->v=.bool (bs.getD i false):=by
 obtain⟨its,q,pl,hz⟩:=I.list hq;refine⟨its,by rw[<-q.length,za],pl.isList,?_,λi v e=>?_⟩
 ·obtain⟨o,n,e,_⟩:=pl
  exact zE (zv e)
 ·have e':its[i]? =some v:=by simpa using e
  have hi:i<its.length:=(zk.mp e').1;have hb:i<bs.length:=by have:=q.length;rw[za]at this;lia
  obtain⟨u,z,ru⟩:=q.get (i:=i) (x:=.bl bs[i]) (by simp[hb]);rw[e']at z;cases z;have:v=Value.bool bs[i]:=ru;rw[this];simp[List.getD,hb]
def range_any(bs:List Bool):(List.range bs.length).any (λi=>bs.getD i false)=bs.any id:=by
 rw[zzh];simp only[yx,yA,id];constructor
 ·rintro⟨i,hi,e⟩
  refine⟨bs[i],yT hi,?_⟩
  simpa [List.getD,hi] using e
 ·rintro⟨x,q,e⟩
  obtain⟨i,hi,rfl⟩:=List.mem_iff_getElem.mp q;exact⟨i,hi,by simpa [List.getD,hi] using e⟩
def range_all(bs:List Bool):(List.range bs.length).all (λi=>bs.getD i false)=bs.all id:=by
 rw[zzh];simp only[List.all_eq_true,yA,id];constructor
 ·intro h x q
  obtain⟨i,hi,rfl⟩:=List.mem_iff_getElem.mp q
  simpa [List.getD,hi] using h i hi
 ·intro h i hi
  have:=h bs[i] (yT hi)
  simpa [List.getD,hi] using this
def Yl(hc:X.calm=true):nF X (.builtin "any") (λxs H Q=>∃(a:Addr)(bs:List Bool),xs=[.ref a]/\SqL X.K H a (bs.map V.bl)/\Q (.bl (bs.any id)) H):=by
 intro pins s σ H xs us Q I r h;obtain⟨a,bs,rfl,hq,q⟩:=h;obtain⟨u,rfl,r1⟩:=vals1 r;cases r1;obtain⟨its,aa,hl,ac,ab⟩:=Mr I hq;refine call_any_walk (yN hl ?_);refine⟨s.heap.objs.size,_,_,_,_,_,λi=>bs.getD i false,rfl,Walks.list (A:=X.A.in1) (I.ok.hd hc) s.heap.objs.size a ac its.toArray,⟨⟨_,zB _ rfl,rfl,rfl⟩,hl.at λo e=>zd _ e⟩,λi v s' Q' E' e hQ=>?_,λh' tk hk=>?_⟩
 ·rw[ab i v e]
  exact yC hQ
 ·have e:(List.range its.toArray.size).any (λi=>bs.getD i false)=bs.any id:=by rw[zt,aa];exact range_any bs
  rw[e];refine⟨.bl (bs.any id),H,I.kept λb o e=>hk b o ?_ (zd _ e),rfl,q⟩;intro z;have z':b=s.heap.objs.size:=by simpa using z
  rw[z']at e;exact absurd (zv e) (yu _)
def Ye(hc:X.calm=true):nF X (.builtin "all") (λxs H Q=>∃(a:Addr)(bs:List Bool),xs=[.ref a]/\SqL X.K H a (bs.map V.bl)/\Q (.bl (bs.all id)) H):=by
 intro pins s σ H xs us Q I r h;obtain⟨a,bs,rfl,hq,q⟩:=h;obtain⟨u,rfl,r1⟩:=vals1 r;cases r1;obtain⟨its,aa,hl,ac,ab⟩:=Mr I hq;refine call_all_walk (yN hl ?_);refine⟨s.heap.objs.size,_,_,_,_,_,λi=>bs.getD i false,rfl,Walks.list (A:=X.A.in1) (I.ok.hd hc) s.heap.objs.size a ac its.toArray,⟨⟨_,zB _ rfl,rfl,rfl⟩,hl.at λo e=>zd _ e⟩,λi v s' Q' E' e hQ=>?_,λh' tk hk=>?_⟩
 ·rw[ab i v e]
  exact yC hQ
 ·have e:(List.range its.toArray.size).all (λi=>bs.getD i false)=bs.all id:=by rw[zt,aa];exact range_all bs
  rw[e];refine⟨.bl (bs.all id),H,I.kept λb o e=>hk b o ?_ (zd _ e),rfl,q⟩;intro z;have z':b=s.heap.objs.size:=by simpa using z
  rw[z']at e;exact absurd (zv e) (yu _)
end
section
variable{prog:Program}{w:World}{A:Around}{E:Value->Shared->Prop}
theorem Qv{it t:Addr}{items:Array Value}(ac:t≠it):∀(n i:Nat)(s:Shared)(Q:List Value->Shared->Prop),s.heap.IsListIter it t i->s.heap.IsList t items->i+n<=items.size->
  (∀h',h'.IsListIter it t (i+n)->Heap.SameBut it s.heap h'->Q ((items.toList.drop i).take n) {s with heap:=h'})->wpAny (model prog w) A (draw (.ref it) n) Q E s
 |0,i,s,Q,hit,_,_,hQ=>by
  show wpAny _ _ (pure []) Q E s;exact zA (by simpa using hQ s.heap hit (Heap.SameBut.refl ..))
 |n+1,i,s,Q,hit,ht,hle,hQ=>by
  have z:i<items.size:=by lia
  show wpAny _ _ (pyNext (.ref it)>>=_) Q E s;refine ze (zzL hit ht (x:=items[i]) (by simp[z]) λh₁ q ab=>?_);refine ze (yb (Qv ac n (i+1) _ _ q (ht.extBut ab.extBut ac) (by lia) λh₂ aa ad=>zA ?_));have hd:items.toList.drop i=items[i]::items.toList.drop (i+1):=by simp[zzu,z]
  have:=hQ h₂ (by rw[show i+(n+1)=i+1+n by lia];exact aa) (ab.trans ad);rw[hd,List.take_succ_cons]at this;exact this
def Hi{Q:List Value->Shared->Prop}(hh:A.handled=none)(ht:s.heap.IsList t items)
  (hQ:∀h',Heap.ExtBut s.heap.objs.size s.heap h'->Q items.toList {s with heap:=h'}):wpAny (model prog w) A (unpackItems (.ref t) items.size none) Q E s:=by
 have z:t≠s.heap.objs.size:=by obtain⟨o,ho,_⟩:=ht;exact zE (zv ho)
 unfold unpackItems;refine ze ?_
 ·unfold notIterableAtAll
  refine ze (zzZ ht.typeIs slot_list_iter.lookup ?_);refine zA ?_;simp only[yp,if_false];refine ze (yb (yN ht ?_));have aa:(s.heap.push {cls:=.type "list_iterator",data:=.fields #[.ref t,.int 0 0]}).IsList t items:=ht.at λo e=>zd _ e;refine ze (yb (Qv z items.size 0 _ _ ⟨_,zB _ rfl,rfl,rfl⟩ aa (by lia) λh₁ q ab=>?_))
  have ac:List.take items.size (List.drop 0 items.toList)=items.toList:=by
   rw[List.drop_zero];exact z3 (by simp)
  rw[ac];rw[zf (by simp)];have ad:h₁.IsList t items:=aa.extBut ab.extBut z;refine ze (yb (zzQ hh q ad (by simp) λh₂ ae=>?_));simp only[Option.isSome_none,yp,if_false];refine zA (hQ h₂ λb o hb e=>ae b o hb (ab.extBut b o hb (zd _ e)))
def Ew{env:Env}{elts:List Expr}{x1}{pos:Pos}{Q:Unit->Shared->Prop}(z:A.handled=none)(ht:s.heap.IsList t items)
  (hn:(assignEach elts env).length=items.size) (q:(assignEach elts env).findIdx? (·.1)=none)
  (h:∀h',Heap.ExtBut s.heap.objs.size s.heap h'->wpAny (model prog w) A (assignInOrder ((assignEach elts env).map (·.2)) items.toList) Q E {s with heap:=h'}):
  wpAny (model prog w) A (assign (.Tuple elts x1 pos) env (.ref t)) Q E s:=by
 rw[assign_Tuple];refine ze (yyh ?_);unfold unpack;rw[hn,q];exact ze (yb (Hi z ht h))
end
section
variable{X:Cx}{pos:Pos}
def amL(K:Fg_)(n:Nat)(t:TGs):TG:=λv σ H Q=>∃a xs,v=.ref a/\SqL K H a xs/\xs.length=n/\t xs σ H Q
def alw{k:Nat}{t:TGs}{n:Nat}(hc:X.calm=true)(h:PGs X es t)
  (hn:(assignEach es X.env).length=n:=by rfl) (hst:(assignEach es X.env).findIdx? (·.1)=none:=by rfl):PG X (.Tuple es k pos) (amL X.K n t):=by
 intro pins s σ H v u Q I r q;obtain⟨a,xs,e1,hq,hl,q⟩:=q;subst e1;cases r;obtain⟨its,z,ht,hz⟩:=I.list hq;refine Ew (I.ok.hd hc) ht.isList (by simp[hn,<-hl,z.length]) hst λh' hx=>?_;have I1:Inv X pins σ H {s with heap:=h'}:=I.kept (t':=s.toks) λb o e=>hx b o (zE (zv e)) e;exact h pins _ σ H xs _ Q I1 (by simpa using z) q
end
section
variable{X:Cx}{a b c:Expr}{ta tb tc:TE}{pos:Pos}
def Dh(i j:Int):Prop:=amM i j\/ako i j
def nq:OpR X (binaryOp .Mult) (rI Dh λi j=> .int (i*j)):=opI λ_ _ _ _ _ _ _ z q=>mul_int q (z.elim (λh=>h.ok) λh=>h.ok)
def Ri(h1: -(2^64)<i)(h2:i<2^64):Dh i j:=.inl (.inl ⟨h1,h2⟩)
def JM(h1: -(2^64)<j)(h2:j<2^64):Dh i j:=.inl (.inr ⟨h1,h2⟩)
def Dh.big(h1:i.natAbs<2^2000)(h2:j.natAbs<2^2000):Dh i j:=.inr ⟨h1,h2⟩
def Qu:nF X (.builtin "isinstance") (λxs H Q=>∃x n t k,xs=[x,.ty n]/\Kv X.K H x t/\PySem.W.kitOne X.K t (.type n)=some k/\Q (.bl k) H):=by
 intro pins s σ H xs us Q I r h;obtain⟨x,n,t,k,rfl,ty,e,q⟩:=h;obtain⟨u,w',rfl,z,rc⟩:=vals2 r;cases rc;exact Ql I z ty e λtk=>⟨.bl k,H,I.tok _,rfl,q⟩
def OJ:nF X (.builtin "isinstance") (λxs H Q=>∃x C t k,xs=[x,.ref C]/\Kv X.K H x t/\PySem.W.kitOne X.K t (.ref C)=some k/\Q (.bl k) H):=by
 intro pins s σ H xs us Q I r h;obtain⟨x,C,t,k,rfl,ty,e,q⟩:=h;obtain⟨u,w',rfl,z,rc⟩:=vals2 r;cases rc;exact Ql I z ty e λtk=>⟨.bl k,H,I.tok _,rfl,q⟩
def ajs(T:String)(z:Gl X x)(hm:X.mg x=none)(q:bootBuiltins x=some (.type T))(hn:x≠ "__name__" :=by decide) (hd:(x==("__debug__" :Str))=false:=by decide):PE X (.Name x pos) (tC (.ty T)):=ajK z hm q rfl hn hd
end
section
variable{D:Ends}{σ:St}{H:Hp}{t u:TS}{te ta tb tc:TE}{tt tu:TT}{Q:VK}{QB:Bool->Hp->Prop}{QA:List V->Hp->Prop}{QG:St->Hp->Prop}{v x y:V}{vs:List V}{i j:Nat}{g:TG}{gs:TGs}{A:TA}{K:Fg_}
def ap_seq:aar t u D σ H=t {D with nx:=u D} σ H:=rfl
def ap_next:Xj D σ H=D.nx σ H:=rfl
def ap_asg:amz te g D σ H=te σ H λx H1=>g x σ H1 D.nx:=rfl
def ap_name:RX i v σ H QG=QG (σ.set i (some v)) H:=rfl
def ap_var:Ro i σ H Q=∃v,σ[i]? =some (some v)/\Q v H:=rfl
def ap_c:tC v σ H Q=Q v H:=rfl
def ap_op{r:R2}:tOp r ta tb σ H Q=ta σ H λx H1=>tb σ H1 λy H2=>r x y H2 Q:=rfl
def ap_un{r:V->Hp->VK->Prop}:tUn r ta σ H Q=ta σ H λx H1=>r x H1 Q:=rfl
def ap_rI{C:Int->Int->Prop}{f:Int->Int->V}:rI C f x y H Q=∃i j,x=.int i/\y=.int j/\C i j/\Q (f i j) H:=rfl
def ap_rI0{f:Int->Int->V}:rI0 f x y H Q=∃i j,x=.int i/\y=.int j/\Q (f i j) H:=rfl
def ap_rU{f:Int->V}:rU f x H Q=∃i,x=.int i/\Q (f i) H:=rfl
def ap_rEq:rEq x y H Q=(akC x y=true/\Q (.bl (decide (x=y))) H):=rfl
def ap_rNe:rNe x y H Q=(akC x y=true/\Q (.bl (!decide (x=y))) H):=rfl
def ap_ret:anf te D σ H=te σ H D.rt:=rfl
def ap_retN:alQ D σ H=D.rt .non H:=rfl
def ap_drop:ajE te D σ H=te σ H λ_ H1=>D.nx σ H1:=rfl
def ap_if:YD tt t u D σ H=tt σ H λb H1=>if b=true then t D σ H1 else u D σ H1:=rfl
def ap_test:Tu te σ H QB=te σ H λx H'=>∃k,x=.bl k/\QB k H':=rfl
def ap_tB:tB te σ H QB=te σ H λx H1=>∃c,x=.bl c/\QB c H1:=rfl
def ap_and:anz tt tu σ H QB=tt σ H λc H1=>if c=true then tu σ H1 QB else QB false H1:=rfl
def ap_or:tOr tt tu σ H QB=tt σ H λc H1=>if c=true then QB true H1 else tu σ H1 QB:=rfl
def ap_not:anD tt σ H QB=tt σ H λc H1=>QB (!c) H1:=rfl
def ap_andV:aly ta tb σ H Q=ta σ H λx H1=>∃c,x=.bl c/\if c=true then tb σ H1 Q else Q (.bl false) H1:=rfl
def ap_notV:ams ta σ H Q=ta σ H λx H1=>∃c,x=.bl c/\Q (.bl (!c)) H1:=rfl
def ap_ifE:tIf tt ta tb σ H Q=tt σ H λc H1=>if c=true then ta σ H1 Q else tb σ H1 Q:=rfl
def ap_call{E:XK}:aiE sp dvs E A σ H Q=A σ H λvs H1=>sp (vs++dvs) H1 Q E:=rfl
def ap_nil:Vw σ H QA=QA [] H:=rfl
def ap_cons:ql ta A σ H QA=ta σ H λx H1=>A σ H1 λxs H2=>QA (x::xs) H2:=rfl
def ap_cb{r:List V->Hp->VK->Prop}:tCB r A σ H Q=A σ H λvs H1=>r vs H1 Q:=rfl
def ap_lst:alV A σ H Q=A σ H λxs H1=>xs.length<=sizeLine/\∀p,H1 p=none->Q (.ref p) (upd H1 p (.lst xs)):=rfl
def ap_tup:anv A σ H Q=A σ H λxs H1=>xs.length<=sizeLine/\∀p,H1 p=none->Q (.ref p) (upd H1 p (.tup xs)):=rfl
def ap_chain{r r':R2}:aiO r r' ta tb tc σ H Q=ta σ H λx H1=>tb σ H1 λy H2=>r x y H2 λz q=>∃k,z=.bl k/\(if k=true then tc σ q λw' H4=>r' y w' H4 Q else Q (.bl false) q):=rfl
def ap_sl{r:V->Option Int->Option Int->Hp->VK->Prop}{tl th:TO}:tSl r te tl th σ H Q=te σ H λx H1=>tl σ H1 λl H2=>th σ H2 λu q=>r x l u q Q:=rfl
def ap_noPart{QO:Option Int->Hp->Prop}:Xn σ H QO=QO none H:=rfl
def ap_part{QO:Option Int->Hp->Prop}:ale te σ H QO=te σ H λx H1=>∃i,x=.int i/\QO (some i) H1:=rfl
def ap_gNil:ant vs σ H QG=(vs=[]/\QG σ H):=rfl
def ap_gCons{u:TGs}:alL g u vs σ H QG=∃v r,vs=v::r/\g v σ H λq H'=>u r q H' QG:=rfl
def ap_gLst{n:Nat}:amL K n gs v σ H QG=∃a xs,v=.ref a/\SqL K H a xs/\xs.length=n/\gs xs σ H QG:=rfl
def ap_gTup{n:Nat}:anh K n gs v σ H QG=∃a xs,v=.ref a/\SqT K H a xs/\xs.length=n/\gs xs σ H QG:=rfl
def ap_bm:tBM K T r te A σ H Q=te σ H λx H1=>tyV K T x H1/\A σ H1 λxs H2=>r x xs H2 Q:=rfl
def ap_bm0:amZ K T r te σ H Q=te σ H λx H1=>tyV K T x H1/\r x [] H1 Q:=rfl
def ap_ixL:akP K x y H Q=∃p xs i v,x=.ref p/\y=.int i/\SqL K H p xs/\atI xs i=some v/\Q v H:=rfl
def ap_slL{lo hi:Option Int}:amY K x lo hi H Q=∃a xs,x=.ref a/\SqL K H a xs/\∀p,H p=none->Q (.ref p) (upd H p (.lst (Ow xs lo hi))):=rfl
def scal_int(i j:Int):akC (.int i) (.int j)=true:=rfl
def scal_str(i j:Str):akC (.str i) (.str j)=true:=rfl
def scal_bl(i j:Bool):akC (.bl i) (.bl j)=true:=rfl
def start_eq(N:List Str)(vs:List V):start N vs=vs.map some++List.replicate (N.length - vs.length) none:=rfl
end
def JS(l:List α):l.filter (λ_=>true)=l:=by simp
theorem Same.upd{H H':Hp}{a:Addr}{o:HO}(h:Same H H')(hn:H a=Option.none):Same H (upd H' a o):=λb u e=>by
 rw[jn (jY e hn)];exact h b u e
def ji(hn:H a=Option.none):Same H (L2.upd H a o):=Same.upd (same_refl H) hn
section
variable{K:Fg_}{a D:Addr}{xs:List V}{g:TG}{tt:TT}{te:TE}{σ0:St}{H1:Hp}{Q:VK}
def Ep(J:It)(Sσ:St->Prop)(p:V->Bool)(F:V->V)(hD:H1 D=Option.none)(h0:Sσ σ0)(hz:xs.length<=sizeLine)
  (ae:∀(i:Nat) x H,xs[i]? =some x->Same H1 H->J.go i H/\∀y H',J.yld i H y H'->y=x/\H'=H) (ad:∀H,Same H1 H->J.stop xs.length H)
  (hs:∀x∈xs,∀(σ:St)(H:Hp)(R1:St->VK)(R2:St->Hp->Prop),Sσ σ->Same H1 H->(p x=true->∀z H6,Sσ z->Same H H6->R1 z (F x) H6)->(p x=false->∀z H6,Sσ z->Same H H6->R2 z H6)->
   g x σ H λz H4=>tt z H4 λb H5=>if b=true then te z H5 (R1 z)else R2 z H5)
  (k:∀H',Same H1 H'->H' D=some (.lst ((xs.filter p).map F))->Q (.ref D) H'):
  ∃W:Nat->Nat->List V->St->Hp->Prop,(∃m,W 0 m [] σ0 (upd H1 D (.lst [])))/\∀i m acc σ1 H2,W i m acc σ1 H2->H2 D=some (.lst acc)->
   (J.stop i H2/\Q (.ref D) H2)\/(J.go i H2/\∀x H3,J.yld i H2 x H3->g x σ1 H3 λz H4=>tt z H4 λb H5=>
    if b=true then te z H5 λv H6=>∃q,H6 D=some (.lst q)/\q.length<sizeLine/\∃m',m'<m/\W (i+1) m' (q++[v]) z (upd H6 D (.lst (q++[v])))
    else∃m',m'<m/\∃q,H5 D=some (.lst q)/\W (i+1) m' q z H5):=by
 refine⟨λi m acc σ H=>m=xs.length - i/\i<=xs.length/\Sσ σ/\Same H1 H/\acc=((xs.take i).filter p).map F,⟨xs.length,rfl,zM _,h0,ji hD,by simp⟩,?_⟩;rintro i m acc σ H ⟨rfl,hi,hσ,sm,rfl⟩ hA;by_cases ab:i<xs.length
 ·have hx:xs[i]? =some xs[i]:=by simp[ab]
  obtain⟨go,yl⟩:=ae i xs[i] H hx sm;refine .inr ⟨go,λy H' hy=>?_⟩;obtain⟨rfl,rfl⟩:=yl y H' hy;have aa:xs.take (i+1)=xs.take i++[xs[i]]:=by rw[zK,hx];rfl
  have af:(((xs.take i).filter p).map F).length<=i:=by
   rw[za];exact zS (yo _ _) (by rw[zT];exact Nat.min_le_left _ _)
  refine hs xs[i] (yT ab) σ H' _ _ hσ sm (λhp z H6 ac s6=>?_) (λhp z H6 ac s6=>?_)
  ·refine⟨_,s6 _ _ hA,by lia,xs.length - (i+1),by lia,rfl,ab,ac,(sm.trans s6).upd hD,?_⟩
   rw[aa,yw,zp];simp[hp]
  ·refine⟨xs.length - (i+1),by lia,_,s6 _ _ hA,rfl,ab,ac,sm.trans s6,?_⟩
   rw[aa,yw,zp];simp[hp]
 ·have e:i=xs.length:=by lia
  subst e;refine .inl ⟨ad H sm,k H sm ?_⟩;rw[hA,zX]
def Yj(Sσ:St->Prop)(p:V->Bool)(F:V->V)(hS:SqL K H1 a xs)(hD:H1 D=Option.none)(h0:Sσ σ0)(hz:xs.length<=sizeLine)
  (hs:∀x∈xs,∀(σ:St)(H:Hp)(R1:St->VK)(R2:St->Hp->Prop),Sσ σ->Same H1 H->(p x=true->∀z H6,Sσ z->Same H H6->R1 z (F x) H6)->(p x=false->∀z H6,Sσ z->Same H H6->R2 z H6)->
   g x σ H λz H4=>tt z H4 λb H5=>if b=true then te z H5 (R1 z)else R2 z H5)
  (k:∀H',Same H1 H'->H' D=some (.lst ((xs.filter p).map F))->Q (.ref D) H'):
  ∃W:Nat->Nat->List V->St->Hp->Prop,(∃m,W 0 m [] σ0 (upd H1 D (.lst [])))/\∀i m acc σ1 H2,W i m acc σ1 H2->H2 D=some (.lst acc)->
   ((Itl K a).stop i H2/\Q (.ref D) H2)\/((Itl K a).go i H2/\∀x H3,(Itl K a).yld i H2 x H3->g x σ1 H3 λz H4=>tt z H4 λb H5=>
    if b=true then te z H5 λv H6=>∃q,H6 D=some (.lst q)/\q.length<sizeLine/\∃m',m'<m/\W (i+1) m' (q++[v]) z (upd H6 D (.lst (q++[v])))
    else∃m',m'<m/\∃q,H5 D=some (.lst q)/\W (i+1) m' q z H5):=
 Ep (Itl K a) Sσ p F hD h0 hz (λi x H hx sm=>⟨⟨xs,x,sm.seq hS,hx⟩,λy H' hy=>⟨zy ((hy.2 xs (sm.seq hS)).symm.trans hx),hy.1⟩⟩) (λH sm=>⟨xs,sm.seq hS,zm _⟩) hs k
def Xa{lo:Int}{n:Nat}(Sσ:St->Prop)(p:V->Bool)(F:V->V)(hD:H1 D=Option.none)(h0:Sσ σ0)(hz:n<=sizeLine)
  (hs:∀i:Nat,i<n->∀(σ:St)(H:Hp)(R1:St->VK)(R2:St->Hp->Prop),Sσ σ->Same H1 H->(p (.int (lo+i))=true->∀z H6,Sσ z->Same H H6->R1 z (F (.int (lo+i))) H6)->(p (.int (lo+i))=false->∀z H6,Sσ z->Same H H6->R2 z H6)->
   g (.int (lo+i)) σ H λz H4=>tt z H4 λb H5=>if b=true then te z H5 (R1 z)else R2 z H5)
  (k:∀H',Same H1 H'->H' D=some (.lst ((((List.range n).map fun(i:Nat)=>V.int (lo+i)).filter p).map F))->Q (.ref D) H'):
  ∃W:Nat->Nat->List V->St->Hp->Prop,(∃m,W 0 m [] σ0 (upd H1 D (.lst [])))/\∀i m acc σ1 H2,W i m acc σ1 H2->H2 D=some (.lst acc)->
   ((Itr lo n).stop i H2/\Q (.ref D) H2)\/((Itr lo n).go i H2/\∀x H3,(Itr lo n).yld i H2 x H3->g x σ1 H3 λz H4=>tt z H4 λb H5=>
    if b=true then te z H5 λv H6=>∃q,H6 D=some (.lst q)/\q.length<sizeLine/\∃m',m'<m/\W (i+1) m' (q++[v]) z (upd H6 D (.lst (q++[v])))
    else∃m',m'<m/\∃q,H5 D=some (.lst q)/\W (i+1) m' q z H5):=by
 refine Ep (xs:=(List.range n).map fun(i:Nat)=>V.int (lo+i)) (Itr lo n) Sσ p F hD h0 (by simpa using hz) (λi x H hx sm=>?_) (λH sm=>?_) (λx hx σ H R1 R2 h1 h2 h3 h4=>?_) k
 ·have hi:i<n:=by simpa using (zk.mp hx).1
  have e:x=.int (lo+i):=by
   rw[zo,zz2 hi]at hx;exact(zy hx).symm
  exact⟨hi,λy H' hy=>⟨hy.2.trans e.symm,hy.1⟩⟩
 ·show n<=_
  simp
 ·obtain⟨i,hi,rfl⟩:=zc.mp hx
  exact hs i (yA.mp hi) σ H R1 R2 h1 h2 h3 h4
end
inductive DV where
 |non|bl (b:Bool)|int (i:Int)|str (x:Str)|lst (xs:List DV)|tup (xs:List DV)
mutual
inductive akA(K:Fg_)(H:Hp):V->DV->Prop
 |non:akA K H .non .non
 |bl (b:Bool):akA K H (.bl b) (.bl b)
 |int (i:Int):akA K H (.int i) (.int i)
 |str (x:Str):akA K H (.str x) (.str x)
 |lst {a:Addr} {vs:List V} {ds:List DV} (h:SqL K H a vs) (hs:Zf K H vs ds):akA K H (.ref a) (.lst ds)
 |tup {a:Addr} {vs:List V} {ds:List DV} (h:SqT K H a vs) (hs:Zf K H vs ds):akA K H (.ref a) (.tup ds)
inductive Zf(K:Fg_)(H:Hp):List V->List DV->Prop
 |nil:Zf K H [] []
 |cons {v:V} {d:DV} {vs:List V} {ds:List DV} (h:akA K H v d) (hs:Zf K H vs ds):Zf K H (v::vs) (d::ds)
end
section
variable{X:Cx}{K:Fg_}{a b o e:Expr}{ta tb to te:TE}{pos:Pos}{tg:Expr}
def nQ(q:X.K=K:=by rfl):IxR X (akP K):=q▸ajO
def ju(q:X.K=K:=by rfl):IxR X (ajk K):=q▸amn
def Ec(q:X.K=K:=by rfl):SlR X (amY K):=q▸akv
def ajQ(q:X.K=K:=by rfl):SlR X (amP K):=q▸aml
def ank(K:Fg_):List V->Hp->VK->Prop:=λxs H Q=>∃p ys,xs=[.ref p]/\(SqL K H p ys\/SqT K H p ys)/\Q (.int ys.length) H
def lX(q:X.K=K:=by rfl):nF X (.builtin "len") (ank K):=q▸Pn
def anl(K:Fg_):List V->Hp->VK->Prop:=λxs H Q=>∃(a:Addr)(ns:List Int),xs=[.ref a]/\SqL K H a (ns.map V.int)/\Q (.int ns.sum) H
def lK(q:X.calm=true)(z:X.K=K:=by rfl):nF X (.builtin "sum") (anl K):=z▸Yt q
def amU(K:Fg_):List V->Hp->VK->Prop:=λxs H Q=>∃(a:Addr)(bs:List Bool),xs=[.ref a]/\SqL K H a (bs.map V.bl)/\Q (.bl (bs.any id)) H
def Qn(q:X.calm=true)(z:X.K=K:=by rfl):nF X (.builtin "any") (amU K):=z▸Yl q
def amR(K:Fg_):List V->Hp->VK->Prop:=λxs H Q=>∃(a:Addr)(bs:List Bool),xs=[.ref a]/\SqL K H a (bs.map V.bl)/\Q (.bl (bs.all id)) H
def aae(q:X.calm=true)(z:X.K=K:=by rfl):nF X (.builtin "all") (amR K):=z▸Ye q
def Iu(K:Fg_):List V->Hp->VK->Prop:=λxs H Q=>∃p ys,xs=[.ref p]/\(SqL K H p ys\/SqT K H p ys)/\∀l,H l=none->Q (.ref l) (upd H l (.lst ys))
def vI(q:X.K=K:=by rfl):nF X (.type "list") (Iu K):=q▸QK
def anq(K:Fg_):List V->Hp->VK->Prop:=λxs H Q=>∃x n t k,xs=[x,.ty n]/\Kv K H x t/\PySem.W.kitOne K t (.type n)=some k/\Q (.bl k) H
def Ip(q:X.K=K:=by rfl):nF X (.builtin "isinstance") (anq K):=q▸Qu
def akV(K:Fg_):List V->Hp->VK->Prop:=λxs H Q=>∃x C t k,xs=[x,.ref C]/\Kv K H x t/\PySem.W.kitOne K t (.ref C)=some k/\Q (.bl k) H
def uY(q:X.K=K:=by rfl):nF X (.builtin "isinstance") (akV K):=q▸OJ
def anB:List V->Hp->VK->Prop:=λxs H Q=>∃i j,xs=[.int i,.int j]/\Q (.int (if j>i then j else i)) H
def Yq(q:X.calm=true):nF X (.builtin "max") anB:=Xe q
def anA:List V->Hp->VK->Prop:=λxs H Q=>∃i j,xs=[.int i,.int j]/\Q (.int (if j<i then j else i)) H
def Ah(q:X.calm=true):nF X (.builtin "min") anA:=Yn q
def lM(q:PE X o to)(z:X.K=K:=by rfl):PI X tg o (ZL K to):=z▸akt q
theorem Xr{es:List Expr}{k:Nat}{t:TGs}{n:Nat}(q:X.calm=true)(h:PGs X es t)(hn:(assignEach es X.env).length=n:=by rfl)(hst:(assignEach es X.env).findIdx? (·.1)=none:=by rfl)(hK:X.K=K:=by rfl):PG X (.Tuple es k pos) (amL K n t):=hK▸alw q h hn hst
theorem pY{es:List Expr}{k:Nat}{t:TGs}{n:Nat}(q:X.calm=true)(h:PGs X es t)(hn:(assignEach es X.env).length=n:=by rfl)(hst:(assignEach es X.env).findIdx? (·.1)=none:=by rfl)(hK:X.K=K:=by rfl):PG X (.Tuple es k pos) (anh K n t):=hK▸alZ q h hn hst
theorem ake{f:Str}(q:PE X e ta)(z:attributeBase e f X.env (eval e X.env)=eval e X.env)(hK:X.K=K:=by rfl):PE X (.Attribute e f pos) (ala K ta f):=hK▸alc q z
def tD{T:String}{name:Str}{id:String}{r:V->List V->Hp->VK->Prop}{es:List Expr}{t:TA}{apos cpos:Pos}(pa:PlainAttrs T)(slot:Slot T name id)(z:typeOf (.builtin id)=pure (.type "method_descriptor")) (hm:MtR X id r) (ho:PE X o to) (ha:PA X (e::es) t)
  (q:attributeBase o name X.env (eval o X.env)=eval o X.env:=by rfl)
  (hfew:((backTo cpos (starEach (e::es) X.env)).all (λx=>!x.1) && (backToKw cpos (keywordEach [] X.env)).all (λx=>x.1.isSome)
   && decide ((e::es).length+([]:List Keyword).length+(if([]:List Keyword).isEmpty then 0 else 1)<30))=true:=by rfl)
  (hline:(apos.endLine==cpos.line)=true:=by rfl) (hs:starEach (e::es) X.env=(false,eval e X.env)::starEach es X.env:=by rfl) (hplain:(backTo cpos (starEach es X.env)).any (·.1)=false:=by rfl) (hK:X.K=K:=by rfl):
  PE X (.Call (.Attribute o name apos) (e::es) [] cpos) (tBM K T r to t):=hK▸amG pa slot z hm ho ha q hfew hline hs hplain
def HS{T:String}{name:Str}{id:String}{r:V->List V->Hp->VK->Prop}{apos cpos:Pos}(pa:PlainAttrs T)(slot:Slot T name id)(z:typeOf (.builtin id)=pure (.type "method_descriptor")) (hm:MtR X id r) (ho:PE X o to)
  (q:attributeBase o name X.env (eval o X.env)=eval o X.env:=by rfl) (hline:(apos.endLine==cpos.line)=true:=by rfl) (hK:X.K=K:=by rfl):PE X (.Call (.Attribute o name apos) [] [] cpos) (amZ K T r to):=hK▸alf pa slot z hm ho q hline
end
section
variable{K:Fg_}{H:Hp}{Q:VK}{p:Addr}{x y:V}
def ap_noIf{σ:St}{QB:Bool->Hp->Prop}:Lw σ H QB=QB true H:=rfl
def ap_rLen:ank K [.ref p] H Q=∃ys,(SqL K H p ys\/SqT K H p ys)/\Q (.int (ys.length:Int)) H:=by simp[ank]
def ap_rSum:anl K [.ref p] H Q=∃ns:List Int,SqL K H p (ns.map V.int)/\Q (.int ns.sum) H:=by simp[anl]
def ap_rAny:amU K [.ref p] H Q=∃bs:List Bool,SqL K H p (bs.map V.bl)/\Q (.bl (bs.any id)) H:=by simp[amU]
def ap_rAll:amR K [.ref p] H Q=∃bs:List Bool,SqL K H p (bs.map V.bl)/\Q (.bl (bs.all id)) H:=by simp[amR]
def ap_rListOf:Iu K [.ref p] H Q=∃ys,(SqL K H p ys\/SqT K H p ys)/\∀l,H l=none->Q (.ref l) (upd H l (.lst ys)):=by simp[Iu]
def ap_rIsT{n:String}:anq K [x,.ty n] H Q=∃t k,Kv K H x t/\PySem.W.kitOne K t (.type n)=some k/\Q (.bl k) H:=propext ⟨fun⟨q,z,t,k,e,h⟩=>by
  injection e with e1 e2
  injection e2 with e2 _
  injection e2 with e2
  subst e1 e2;exact⟨t,k,h⟩,fun⟨t,k,h⟩=>⟨x,n,t,k,rfl,h⟩⟩
def ap_append:JC (.ref p) [y] H Q=∃xs,H p=some (.lst xs)/\xs.length<sizeLine/\Q .non (upd H p (.lst (xs++[y]))):=by simp[JC]
def ap_rCat{l b:Addr}:amF (.ref l) (.ref b) H Q=∃xs zs,H l=some (.lst xs)/\H b=some (.lst zs)/\xs.length+zs.length<=sizeLine/\∀p,H p=none->Q (.ref p) (upd H p (.lst (xs++zs))):=by simp[amF]
def ap_rMax{i j:Int}:anB [.int i,.int j] H Q=Q (.int (if j>i then j else i)) H:=propext ⟨fun⟨q,z,e,h⟩=>by cases e;exact h,λh=>⟨i,j,rfl,h⟩⟩
def ap_rMin{i j:Int}:anA [.int i,.int j] H Q=Q (.int (if j<i then j else i)) H:=propext ⟨fun⟨q,z,e,h⟩=>by cases e;exact h,λh=>⟨i,j,rfl,h⟩⟩
end
section
variable{K:Fg_}{a:Addr}{xs:List V}{g:TG}{tb:TS}{D:Ends}{σ:St}{H:Hp}{wi:TI}{cap:List (Option Nat)}{tt:TT}{te tl:TE}{Q:VK}{ta:TA}{R:It->Hp->Prop}
def Eg(J:It)(g:TG)(tb:TS)(D:Ends)(σ:St)(H1:Hp):Prop:=∃W:Nat->Nat->St->Hp->Prop,(∃m,W 0 m σ H1)/\∀i m σ H,W i m σ H->
 (J.stop i H/\D.nx σ H)\/(J.go i H/\∃N:St->Hp->Prop,(∀σ' H',N σ' H'->∃m',m'<m/\W (i+1) m' σ' H')/\∀x H',J.yld i H x H'->g x σ H' λσ2 H2=>tb {D with nx:=N,ct:=N,bk:=D.nx} σ2 H2)
def ap_for:amD wi g tb D σ H=wi σ H λJ H1=>Eg J g tb D σ H1:=rfl
def qu(q:Nat->St->Hp->Prop)(h0:q 0 σ H)(z:∀i σ H,i<=xs.length->q i σ H->SqL K H a xs)
  (hs:∀i x σ H,xs[i]? =some x->q i σ H->g x σ H λσ2 H2=>tb {D with nx:=q (i+1),ct:=q (i+1),bk:=D.nx} σ2 H2) (hd:∀σ H,q xs.length σ H->D.nx σ H):Eg (Itl K a) g tb D σ H:=aaN q h0 z hs hd
def Eg.range{lo:Int}{n:Nat}(q:Nat->St->Hp->Prop)(h0:q 0 σ H)
  (hs:∀i σ H,i<n->q i σ H->g (.int (lo+i)) σ H λz H2=>tb {D with nx:=q (i+1),ct:=q (i+1),bk:=D.nx} z H2) (hd:∀σ H,q n σ H->D.nx σ H):Eg (Itr lo n) g tb D σ H:=YS q h0 hs hd
def ap_iList:ZL K tl σ H R=tl σ H λx H1=>∃a,x=.ref a/\(∃xs,SqL K H1 a xs)/\R (Itl K a) H1:=rfl
def ap_iRng1:amo ta σ H R=ta σ H λvs H1=>∃j:Int,vs=[.int j]/\ -(2^62)<=j/\j<2^62/\R (Itr 0 j.toNat) H1:=rfl
def lU(cap:List (Option Nat))(J:It)(g:TG)(tt:TT)(te:TE)(σ:St)(H1:Hp)(Q:VK):Prop:=∀D,H1 D=Option.none->
 ∃W:Nat->Nat->List V->St->Hp->Prop,(∃m,W 0 m [] (rD σ cap) (upd H1 D (.lst [])))/\∀i m acc σ1 H2,W i m acc σ1 H2->H2 D=some (.lst acc)->
  (J.stop i H2/\Q (.ref D) H2)\/(J.go i H2/\∀x H3,J.yld i H2 x H3->g x σ1 H3 λσ4 H4=>tt σ4 H4 λb H5=>
   if b=true then te σ4 H5 λv H6=>∃acc',H6 D=some (.lst acc')/\acc'.length<sizeLine/\∃m',m'<m/\W (i+1) m' (acc'++[v]) σ4 (upd H6 D (.lst (acc'++[v])))
   else∃m',m'<m/\∃acc',H5 D=some (.lst acc')/\W (i+1) m' acc' σ4 H5)
def ap_comp:akO cap wi g tt te σ H Q=wi σ H λJ H1=>lU cap J g tt te σ H1 Q:=rfl
def lU.list(Sσ:St->Prop)(p:V->Bool)(F:V->V)(hS:SqL K H a xs)(h0:Sσ (rD σ cap))(hz:xs.length<=sizeLine)
  (hs:∀x∈xs,∀(σ:St)(z:Hp)(R1:St->VK)(R2:St->Hp->Prop),Sσ σ->Same H z->(p x=true->∀q H6,Sσ q->Same z H6->R1 q (F x) H6)->(p x=false->∀q H6,Sσ q->Same z H6->R2 q H6)->
   g x σ z λq H4=>tt q H4 λb z=>if b=true then te q z (R1 q)else R2 q z)
  (k:∀D H',H D=Option.none->Same H H'->H' D=some (.lst ((xs.filter p).map F))->Q (.ref D) H'):lU cap (Itl K a) g tt te σ H Q:=
 λD hD=>Yj Sσ p F hS hD h0 hz hs λH' s e=>k D H' hD s e
theorem lU.range{lo:Int}{n:Nat}(Sσ:St->Prop)(p:V->Bool)(F:V->V)(h0:Sσ (rD σ cap))(hz:n<=sizeLine)
  (hs:∀i:Nat,i<n->∀(σ:St)(z:Hp)(R1:St->VK)(R2:St->Hp->Prop),Sσ σ->Same H z->(p (.int (lo+i))=true->∀q H6,Sσ q->Same z H6->R1 q (F (.int (lo+i))) H6)->(p (.int (lo+i))=false->∀q H6,Sσ q->Same z H6->R2 q H6)->
   g (.int (lo+i)) σ z λq H4=>tt q H4 λb z=>if b=true then te q z (R1 q)else R2 q z)
  (k:∀D H',H D=Option.none->Same H H'->H' D=some (.lst ((((List.range n).map fun(i:Nat)=>V.int (lo+i)).filter p).map F))->Q (.ref D) H'):lU cap (Itr lo n) g tt te σ H Q:=
 λD hD=>Xa Sσ p F hD h0 hz hs λH' s e=>k D H' hD s e
def Od(xs:List V)(n:Nat):Ow xs none (some (n:Int))=xs.take n:=by
 unfold Ow;rw[HT.sIx_none,HT.sIx_nat,List.drop_zero,Nat.sub_zero];rcases Nat.le_total n xs.length with h|h
 ·rw[Nat.min_eq_left h]
 ·rw[Nat.min_eq_right h,z3 h,z3 (zm _)]
end
structure LeE(D D':Ends):Prop where
 nx:∀σ H,D.nx σ H->D'.nx σ H
 rt:∀v H,D.rt v H->D'.rt v H
 bk:∀σ H,D.bk σ H->D'.bk σ H
 ct:∀σ H,D.ct σ H->D'.ct σ H
section
variable{X:Cx}{pins:List (Addr×Obj)}{σ:St}{H:Hp}{s:Shared}{h':Heap}
def Inv.turnedN{t':Nat}{fp:List Addr}(I:Inv X pins σ H s)(hf:∀b∈fp,SQ X pins H b)(k:∀b o,b∉fp->s.heap.get? b=some o->h'.get? b=some o):Inv X pins σ H {s with heap:=h',toks:=t'}:=by
 have aa:∀b u,H b=some u->b∉fp:=λb u e z=>by rw[(hf b z).1]at e;cases e
 refine I.step (g':=s.gens) (d':=s.drawn) (ch:=fp) (λb hb=>⟨(hf b hb).2.2.2.1,(hf b hb).2.1,(hf b hb).2.2.2.2.1,(hf b hb).2.2.2.2.2⟩) (λb o _ _ hc e _=>k b o hc e) (λb o _ _ hc e _=>⟨o.slots,k b o hc e⟩) (λ_ _ _ _ n=>n)
  (λb o hc e=>⟨o,k b o hc e⟩) (λ_ _ e=>e) (λ_ _ _ e=>e) (λb ps e=>⟨#[],by rw[e];simp⟩) (λm hm=>?_) (λb u e=>?_) I.bare
 ·obtain⟨o,es,ep,ho,r⟩:=hm
  exact⟨o,es,ep,k _ o (λz=>(hf _ z).2.1 rfl) ho,r⟩
 ·refine(I.hok b u e).stay (λc v hc q=>k c v ?_ q) (λ_ q=>q) λ_ _ q=>q
  rcases hc with z|z
  ·rw[z];exact aa b u e
  ·exact aa c _ z
def Inv.turnedT{t':Nat}{fp:List Addr}{T:Addr}{o:HO}(I:Inv X pins σ H s)(hf:∀b∈fp,SQ X pins H b)(hT:s.heap.objs.size<=T)(k:∀b o,b∉fp->s.heap.get? b=some o->h'.get? b=some o)
  (ab:mO X.prog X.w (upd H T o) h' T o):Inv X pins σ (upd H T o) {s with heap:=h',toks:=t'}:=by
 have aa:∀b u,H b=some u->b∉fp:=λb u e z=>by rw[(hf b z).1]at e;cases e
 have hn:H T=none:=I.hok.fresh hT
 refine I.step (g':=s.gens) (d':=s.drawn) (ch:=fp) (λb hb=>⟨(hf b hb).2.2.2.1,(hf b hb).2.1,(hf b hb).2.2.2.2.1,(hf b hb).2.2.2.2.2⟩) (λb o _ _ hc e _=>k b o hc e) (λb o _ _ hc e _=>⟨o.slots,k b o hc e⟩)
  (λb o _ e n=>by rw[jn (zE (zL (zv e) hT))];exact n)
  (λb o hc e=>⟨o,k b o hc e⟩) (λb xs e=>by rw[jn (jY e hn)];exact e) (λb o xs e=>by rw[jn (jY e hn)];exact e) (λb ps e=>⟨#[],by rw[jn (jY e hn),e];simp⟩) (λm hm=>?_) (λb u e=>?_) I.bare
 ·obtain⟨o,es,ep,ho,r⟩:=hm
  exact⟨o,es,ep,k _ o (λz=>(hf _ z).2.1 rfl) ho,r⟩
 ·by_cases hb:b=T
  ·subst hb;rw[jd]at e;cases e;exact ab
  ·rw[jn hb]at e
   refine(I.hok b u e).stay (λc v hc q=>k c v ?_ q) (λc q=>by rw[jn (jY q hn)];exact q) λc xs q=>by rw[jn (jY q hn)];exact q
   rcases hc with z|z
   ·rw[z];exact aa b u e
   ·exact aa c _ z
end
def qP{h:Heap}{a b:Addr}{oa ob:Obj}{z q:Value}(ha:h.get? a=some oa)(hb:h.get? b=some ob)(ea:oa.cls=z)(eb:ob.cls=q)(hc:z≠q):a≠b:=by
 intro e;subst e;rw[ha]at hb;cases hb;exact hc (ea.symm.trans eb)
noncomputable def Itz(K:Fg_)(a b:Addr):It:=
 ⟨λi H=>∃xs ys x y,SqL K H a xs/\SqL K H b ys/\xs[i]? =some x/\ys[i]? =some y,
   λi H v H'=>∃p x y,H p=none/\v=.ref p/\H'=upd H p (.tup [x,y])/\(∀xs,SqL K H a xs->xs[i]? =some x)/\∀ys,SqL K H b ys->ys[i]? =some y,
   λi H=>∃xs ys,SqL K H a xs/\SqL K H b ys/\(xs.length<=i\/ys.length<=i)⟩
def Ka{h:Heap}{z TI TO i1 i2 a b:Addr}{f0 u v:Value}{xs ys:Array Value}{j1 j2:Nat}(ab:TI≠TO)(ac:i1≠i2)(hz:IsZip h z TI TO f0)(aa:IsPair h TI (.ref i1) (.ref i2))(q:IsPair h TO u v)
  (h1:h.IsListIter i1 a j1) (h2:h.IsListIter i2 b j2) (p1:h.IsList a xs) (p2:h.IsList b ys):ZipApart z TI TO i1 i2 a b:=by
 obtain⟨o1,e1,c1,_⟩:=h1;obtain⟨o2,e2,c2,_⟩:=h2;obtain⟨l1,f1,d1,_⟩:=p1;obtain⟨l2,f2,d2,_⟩:=p2
 exact ⟨qP aa hz rfl rfl (by simp),qP q hz rfl rfl (by simp),qP e1 hz c1 rfl (by simp),qP e2 hz c2 rfl (by simp),ab,qP aa e1 rfl c1 (by simp),qP aa e2 rfl c2 (by simp),qP q e1 rfl c1 (by simp),qP q e2 rfl c2 (by simp),ac,
  qP f1 hz d1 rfl (by simp),qP f1 q d1 rfl (by simp),qP f1 e1 d1 c1 (by simp),qP f1 e2 d1 c2 (by simp),qP f2 hz d2 rfl (by simp),qP f2 q d2 rfl (by simp),qP f2 e1 d2 c1 (by simp),qP f2 e2 d2 c2 (by simp)⟩
def aiv{P:Program}{w:World}{K:Fg_}{elts:List Expr}{x1:Nat}{pos:Pos}(a b z TI TO i1 i2:Addr)(ah:TI≠TO)(aj:i1≠i2):
  Turn P w K (.Tuple elts x1 pos) (Itz K a b) [z,TI,TO,i1,i2] z (λi h=>IsZip h z TI TO .none/\IsPair h TI (.ref i1) (.ref i2)/\(∃u v,IsPair h TO u v)/\h.IsListIter i1 a i/\h.IsListIter i2 b i) where
 mem:=by simp
 obj:=λi h st c hb=>by
  obtain⟨hz,aa,⟨u,v,ab⟩,⟨o1,e1,c1,d1⟩,⟨o2,e2,c2,d2⟩⟩:=st;simp only[zx,zj,or_false]at hb;rcases hb with rfl|rfl|rfl|rfl|rfl
  ·exact⟨_,hz,λv z=>by cases z⟩
  ·exact⟨_,aa,λv z=>by cases z⟩
  ·exact⟨_,ab,λv z=>by cases z⟩
  ·exact⟨_,e1,λv z=>by rw[d1]at z;cases z⟩
  ·exact⟨_,e2,λv z=>by rw[d2]at z;cases z⟩
 keep:=λi h h' st k=>by
  obtain⟨hz,aa,⟨u,v,ab⟩,h1,h2⟩:=st;exact⟨k _ (by simp) _ hz,k _ (by simp) _ aa,⟨u,v,k _ (by simp) _ ab⟩,h1.at λo e=>k _ (by simp) o e,h2.at λo e=>k _ (by simp) o e⟩
 item:=by
  intro X hP hw hK hc i pins s σ H E I hf st hg;subst hP hw hK;obtain⟨xs,ys,x,y,ac,ad,hx,hy⟩:=hg;obtain⟨ak,af,p1,_⟩:=I.list ac;obtain⟨al,ae,p2,_⟩:=I.list ad;obtain⟨u1,an,ap⟩:=af.get hx;obtain⟨u2,am,ao⟩:=ae.get hy;obtain⟨hz,aa,⟨ua,ub,ab⟩,h1,h2⟩:=st;have D:=Ka ah aj hz aa ab h1 h2 p1.isList p2.isList;refine wpAny_pyNext_zip_item D hz aa ab h1 h2 p1.isList p2.isList (x:=u1) (y:=u2) (by simpa using an) (by simpa using am) λh' a1 a2 a3 a4 a5 a6 a7=>?_;refine⟨_,rfl,wpAny_letOwnedTupleGo_zip (s:={s with heap:=h'}) a1 λai b1 b2=>?_⟩;have nz:s.heap.objs.size≠z:=yz (zv hz)
  have k:∀c o,c∉[z,TI,TO,i1,i2]->s.heap.get? c=some o->ai.get? c=some o:=λc o hc e=>by
   simp only[zx,zj,or_false,not_or]at hc;exact(b2.2 c hc.1).trans (a7 c o hc.1 hc.2.2.1 hc.2.2.2.1 hc.2.2.2.2 e)
  have ag:ai.get? s.heap.objs.size=some {cls:=.type "tuple",data:=.seq #[u1,u2]}:=(b2.2 _ nz).trans a5
  refine ⟨.ref s.heap.objs.size,upd H s.heap.objs.size (.tup [x,y]),I.turnedT (t':=s.toks) hf (zm _) k ⟨by rw[zw];simp,[u1,u2],.cons ap (.cons ao .nil),_,ag,rfl,_,rfl⟩,rfl,
   ⟨_,x,y,I.hok.fresh (zm _),rfl,rfl,λar q=>by rw[I.list_inj q ac];exact hx,λaq q=>by rw[I.list_inj q ad];exact hy⟩,?_,λc hb=>?_⟩
  ·exact⟨b1,(b2.2 _ D.TIz).trans (a7 _ _ D.TIz D.TITO D.TIi1 D.TIi2 aa),⟨_,_,(b2.2 _ D.TOz).trans a2⟩,a3.at λo e=>(b2.2 _ D.i1z).trans e,a4.at λo e=>(b2.2 _ D.i2z).trans e⟩
  ·obtain ⟨o,e⟩:∃o,s.heap.get? c=some o:=by
    simp only[zx,zj,or_false]at hb;rcases hb with rfl|rfl|rfl|rfl|rfl
    ·exact⟨_,hz⟩
    ·exact⟨_,aa⟩
    ·exact⟨_,ab⟩
    ·obtain⟨o,e,_⟩:=h1;exact⟨o,e⟩
    ·obtain⟨o,e,_⟩:=h2;exact⟨o,e⟩
   rw[jn (zE (zv e))];exact(hf c hb).1
 done:=by
  intro X hP hw hK hc i pins s σ H E I hf st hg;subst hP hw hK;obtain⟨xs,ys,ac,ad,hx⟩:=hg;obtain⟨ak,af,p1,_⟩:=I.list ac;obtain⟨al,ae,p2,_⟩:=I.list ad;obtain⟨hz,aa,⟨ua,ub,ab⟩,h1,h2⟩:=st;have D:=Ka ah aj hz aa ab h1 h2 p1.isList p2.isList;have l1:=af.length;have l2:=ae.length;refine wpAny_pyNext_zip_end (I.ok.hd hc) D hz aa ab h1 h2 p1.isList p2.isList (hx.elim (λh=> .inl (by simp;lia)) λh=> .inr (by simp;lia)) λh' k=>⟨rfl,I.turnedN (t':=s.toks) hf λc o hc e=>?_⟩;simp only[zx,zj,or_false,not_or]at hc;exact k c o hc.1 hc.2.2.1 hc.2.2.2.1 hc.2.2.2.2 e
 self:=λ_ _ _ _ _ st h=>wpAny_pyIter_zip st.1 h
noncomputable def Ite(K:Fg_)(a:Addr):It:=
 ⟨λi H=>∃xs x,SqL K H a xs/\xs[i]? =some x,
   λi H v H'=>∃p x,H p=none/\v=.ref p/\H'=upd H p (.tup [.int i,x])/\∀xs,SqL K H a xs->xs[i]? =some x,
   λi H=>∃xs,SqL K H a xs/\xs.length<=i⟩
def aad{P:Program}{w:World}{K:Fg_}{elts:List Expr}{x1:Nat}{pos:Pos}(a e it:Addr)(ad:e≠it):
  Turn P w K (.Tuple elts x1 pos) (Ite K a) [e,it] e (λi h=>(∃aa,IsEnum h e it i aa)/\h.IsListIter it a i) where
 mem:=by simp
 obj:=λi h st c hb=>by
  obtain⟨⟨aa,he⟩,⟨o1,e1,c1,d1⟩⟩:=st;simp only[zx,zj,or_false]at hb;rcases hb with rfl|rfl
  ·exact⟨_,he,λv z=>by cases z⟩
  ·exact⟨_,e1,λv z=>by rw[d1]at z;cases z⟩
 keep:=λi h h' st k=>by
  obtain⟨⟨aa,he⟩,h1⟩:=st;exact⟨⟨aa,k _ (by simp) _ he⟩,h1.at λo e=>k _ (by simp) o e⟩
 item:=by
  intro X hP hw hK hc i pins s σ H E I hf st hg;subst hP hw hK;obtain⟨xs,x,ab,hx⟩:=hg;obtain⟨ag,ac,p1,_⟩:=I.list ab;obtain⟨u1,ah,ai⟩:=ac.get hx;obtain⟨⟨aa,he⟩,h1⟩:=st;refine wpAny_pyNext_enum_item he h1 p1.isList (x:=u1) (by simpa using ah) ad λh' a1 a2 a3 a4 a5=>?_;refine⟨_,rfl,wpAny_letOwnedTupleGo_enum (s:={s with heap:=h',toks:=s.toks+1}) a1 λaf b1 b2=>?_⟩;have ne:s.heap.objs.size≠e:=yz (zv he)
  have k:∀c o,c∉[e,it]->s.heap.get? c=some o->af.get? c=some o:=λc o hc q=>by
   simp only[zx,zj,or_false,not_or]at hc;exact(b2.2 c hc.1).trans (a5 c o hc.1 hc.2 q)
  have ae:af.get? s.heap.objs.size=some {cls:=.type "tuple",data:=.seq #[.int i s.toks,u1]}:=(b2.2 _ ne).trans a3
  refine ⟨.ref s.heap.objs.size,upd H s.heap.objs.size (.tup [.int i,x]),I.turnedT (t':=s.toks+1) hf (zm _) k ⟨by rw[zw];simp,[.int i s.toks,u1],.cons ⟨_,rfl⟩ (.cons ai .nil),_,ae,rfl,_,rfl⟩,rfl,
   ⟨_,x,I.hok.fresh (zm _),rfl,rfl,λaj q=>by rw[I.list_inj q ab];exact hx⟩,⟨⟨u1,by simpa using b1⟩,a2.at λo q=>(b2.2 _ (Ne.symm ad)).trans q⟩,λc hb=>?_⟩
  obtain ⟨o,q⟩:∃o,s.heap.get? c=some o:=by
   simp only[zx,zj,or_false]at hb;rcases hb with rfl|rfl
   ·exact⟨_,he⟩
   ·obtain⟨o,q,_⟩:=h1;exact⟨o,q⟩
  rw[jn (zE (zv q))];exact(hf c hb).1
 done:=by
  intro X hP hw hK hc i pins s σ H E I hf st hg;subst hP hw hK;obtain⟨xs,ab,hx⟩:=hg;obtain⟨ag,ac,p1,_⟩:=I.list ab;obtain⟨⟨aa,he⟩,h1⟩:=st;have l1:=ac.length;refine wpAny_pyNext_enum_end (I.ok.hd hc) he h1 p1.isList (by simp;lia) λh' k=>⟨rfl,I.turnedN (t':=s.toks) hf λc o hc q=>?_⟩;simp only[zx,zj,or_false,not_or]at hc;exact k c o hc.2 q
 self:=λ_ _ _ _ _ st h=>by
  obtain⟨⟨aa,he⟩,_⟩:=st;exact wpAny_pyIter_enum he h
section
variable{X:Cx}{K:Fg_}{ta:TA}{elts:List Expr}{x1:Nat}{tpos:Pos}
def anu(K:Fg_)(ta:TA):TI:=λσ H R=>ta σ H λvs H1=>∃a b,vs=[.ref a,.ref b]/\(∃xs,SqL K H1 a xs)/\(∃ys,SqL K H1 b ys)/\R (Itz K a b) H1
def alD(K:Fg_)(ta:TA):TI:=λσ H R=>ta σ H λvs H1=>∃a,vs=[.ref a]/\(∃xs,SqL K H1 a xs)/\R (Ite K a) H1
theorem Mz{a b:Expr}{p pos:Pos}(hg:Gl X "zip") (hm:X.mg "zip" =none) (ha:PA X [a,b] ta) (hs:starEach [a,b] X.env=[(false,eval a X.env),(false,eval b X.env)]:=by rfl) (hs2:starEach [b] X.env=[(false,eval b X.env)]:=by rfl) (hK:X.K=K:=by rfl):
  PI X (.Tuple elts x1 tpos) (.Call (.Name "zip" p) [a,b] [] pos) (anu K ta):=by
 subst hK;intro pins s σ H R I h;refine Call_ (BL I hg hm (by decide+kernel) (PyProof.Rows.callWith_type1 (T:= "zip") (thn (ha pos pins s σ H _ I h) λus z ⟨vs,H1,I1,r1,q1⟩=>?_) (by rw[hs,hs2]) (by rw[hs2];rfl)));obtain⟨l1,l2,e,⟨xs,hx⟩,⟨ys,hy⟩,q⟩:=q1;subst e;obtain⟨u,v,rfl,ru,rv⟩:=vals2 r1;cases ru;cases rv;obtain⟨ab,_,p1,_⟩:=I1.list hx;obtain⟨ac,_,p2,_⟩:=I1.list hy;refine call_zip_2 p1.isList p2.isList λh' g1 g2 g3 g4 g5 g6 k=>?_;have I2:Inv X pins σ H1 {z with heap:=h'}:=I1.kept (t':=z.toks) k;refine wpAny_pyIter_zip (s:={z with heap:=h'}) g1 ⟨_,[z.heap.objs.size+4,z.heap.objs.size+2,z.heap.objs.size+3,z.heap.objs.size,z.heap.objs.size+1],_,_,H1,rfl,I2,aiv l1 l2 _ _ _ _ _ (show((z.heap.objs.size:Nat)+2≠z.heap.objs.size+3) by lia) (show((z.heap.objs.size:Nat)≠z.heap.objs.size+1) by lia),⟨g1,g2,⟨_,_,g3⟩,g4,g5⟩,λc hc=>?_,q⟩
 have hc':z.heap.objs.size<=c:=by
  simp only[zx,zj,or_false]at hc
  have aa:∃k:Nat,c=z.heap.objs.size+k:=by
   rcases hc with rfl|rfl|rfl|rfl|rfl
   ·exact⟨4,rfl⟩
   ·exact⟨2,rfl⟩
   ·exact⟨3,rfl⟩
   ·exact⟨0,rfl⟩
   ·exact⟨1,rfl⟩
  obtain⟨k,rfl⟩:=aa;exact yJ _ k
 exact I1.fpOk hc' (I1.hok.fresh hc')
theorem ZX{a:Expr}{p pos:Pos}(hg:Gl X "enumerate") (hm:X.mg "enumerate" =none) (ha:PA X [a] ta) (hs:starEach [a] X.env=[(false,eval a X.env)]:=by rfl) (hK:X.K=K:=by rfl):
  PI X (.Tuple elts x1 tpos) (.Call (.Name "enumerate" p) [a] [] pos) (alD K ta):=by
 subst hK;intro pins s σ H R I h;refine Call_ (BL I hg hm (by decide+kernel) (PyProof.Rows.callWith_type1 (T:= "enumerate") (thn (ha pos pins s σ H _ I h) λus z ⟨vs,H1,I1,r1,q1⟩=>?_) (by rw[hs];rfl) rfl));obtain⟨l1,e,⟨xs,hx⟩,q⟩:=q1;subst e;obtain⟨u,rfl,ru⟩:=vals1 r1;cases ru;obtain⟨ab,_,p1,_⟩:=I1.list hx;refine call_enumerate_list p1.isList λh' g1 g2 g3 k=>?_;have I2:Inv X pins σ H1 {z with heap:=h'}:=I1.kept (t':=z.toks) k;refine wpAny_pyIter_enum (s:={z with heap:=h'}) g1 ⟨_,[z.heap.objs.size+1,z.heap.objs.size],_,_,H1,rfl,I2,aad l1 _ _ (show((z.heap.objs.size:Nat)+1≠z.heap.objs.size) by lia),⟨⟨_,g1⟩,g2⟩,λc hc=>?_,q⟩
 have hc':z.heap.objs.size<=c:=by
  simp only[zx,zj,or_false]at hc
  have aa:∃k:Nat,c=z.heap.objs.size+k:=by
   rcases hc with rfl|rfl
   ·exact⟨1,rfl⟩
   ·exact⟨0,rfl⟩
  obtain⟨k,rfl⟩:=aa;exact yJ _ k
 exact I1.fpOk hc' (I1.hok.fresh hc')
variable{σ:St}{H:Hp}{R:It->Hp->Prop}{g:TG}{tb:TS}{D:Ends}{a b:Addr}{xs ys:List V}
def ap_iZip:anu K ta σ H R=ta σ H λvs H1=>∃a b,vs=[.ref a,.ref b]/\(∃xs,SqL K H1 a xs)/\(∃ys,SqL K H1 b ys)/\R (Itz K a b) H1:=rfl
def ap_iEnum:alD K ta σ H R=ta σ H λvs H1=>∃a,vs=[.ref a]/\(∃xs,SqL K H1 a xs)/\R (Ite K a) H1:=rfl
def Eg.zip(q:Nat->St->Hp->Prop)(aa:xs.length=ys.length)(h0:q 0 σ H)(hl:∀i σ H,i<=xs.length->q i σ H->SqL K H a xs/\SqL K H b ys)
  (hs:∀i x y σ H p,xs[i]? =some x->ys[i]? =some y->q i σ H->H p=none->g (.ref p) σ (upd H p (.tup [x,y])) λσ2 H2=>tb {D with nx:=q (i+1),ct:=q (i+1),bk:=D.nx} σ2 H2) (hd:∀σ H,q xs.length σ H->D.nx σ H):Eg (Itz K a b) g tb D σ H:=by
 refine⟨λi m σ H=>m=xs.length - i/\i<=xs.length/\q i σ H,⟨xs.length,by simp,zM _,h0⟩,?_⟩;rintro i m σ H ⟨rfl,hi,p⟩;obtain⟨q1,q2⟩:=hl i σ H hi p;by_cases z:i<xs.length
 ·refine .inr ⟨⟨xs,ys,xs[i],ys[i],q1,q2,by simp[z],by simp[aa▸z]⟩,q (i+1),λσ' H' p'=>⟨xs.length - (i+1),by lia,rfl,z,p'⟩,λv H' y=>?_⟩
  obtain⟨pp,x,y,hp,rfl,rfl,e1,e2⟩:=y;exact hs i x y σ _ pp (e1 xs q1) (e2 ys q2) p hp
 ·have e:i=xs.length:=by lia
  subst e;exact .inl ⟨⟨xs,ys,q1,q2,.inl (zm _)⟩,hd σ H p⟩
def Eg.enum(q:Nat->St->Hp->Prop)(h0:q 0 σ H)(hl:∀i σ H,i<=xs.length->q i σ H->SqL K H a xs)
  (hs:∀i x σ H p,xs[i]? =some x->q i σ H->H p=none->g (.ref p) σ (upd H p (.tup [.int i,x])) λσ2 H2=>tb {D with nx:=q (i+1),ct:=q (i+1),bk:=D.nx} σ2 H2) (hd:∀σ H,q xs.length σ H->D.nx σ H):Eg (Ite K a) g tb D σ H:=by
 refine⟨λi m σ H=>m=xs.length - i/\i<=xs.length/\q i σ H,⟨xs.length,by simp,zM _,h0⟩,?_⟩;rintro i m σ H ⟨rfl,hi,p⟩;have q1:=hl i σ H hi p;by_cases z:i<xs.length
 ·refine .inr ⟨⟨xs,xs[i],q1,by simp[z]⟩,q (i+1),λσ' H' p'=>⟨xs.length - (i+1),by lia,rfl,z,p'⟩,λv H' y=>?_⟩
  obtain⟨pp,x,hp,rfl,rfl,e1⟩:=y;exact hs i x σ _ pp (e1 xs q1) p hp
 ·have e:i=xs.length:=by lia
  subst e;exact .inl ⟨⟨xs,q1,zm _⟩,hd σ H p⟩
end
def DK(h h':Heap):Prop:=∀b o,h.get? b=some o->∃o',h'.get? b=some o'/\o'.dict=o.dict
theorem DK.trans{h h1 h2:Heap}(a:DK h h1)(b:DK h1 h2):DK h h2:=λc o e=>by
 obtain⟨o1,e1,d1⟩:=a c o e;obtain⟨q,z,d2⟩:=b c o1 e1;exact⟨q,z,d2.trans d1⟩
structure KD{α:Type}(t:Sem α):Prop where
 out:∀(M:Model)(Γ:PySem.Ctx)(P:α->Pos->Shared->Prop)(E:Value->Pos->Shared->Prop)(p:Pos)(s:Shared),Sem.wp M Γ t P E p s->Sem.wp M Γ t (λa p' s'=>P a p' s'/\DK s.heap s'.heap) E p s
structure anT(K:Fg_)(C:Addr):Prop where
 ex:PySem.W.excIn K C [.type "ValueError",.type "Exception",.type "BaseException",.type "object"] "ValueError.__new__" =true
section
variable{prog:Program}{w:World}{A:Around}{E:Value->Shared->Prop}{h:Heap}{g:Array GenState}{d:Drawn}{t:Nat}{os:OsState}{a:Addr}{o:Obj}
 {nm q:Str} {C N:Addr} {bs bm:List Value} {hdct:Bool} {sn:List Str} {sub:List Value} {ab:Bool} {col:Option Bool} {dd:Option Addr} {k0 k1 k2 k3 k5:Option Value} {newId:String} {K:Fg_}
structure anV(K:Fg_)(C:Addr):Prop where
 cl:PySem.W.findIn K (.ref C) "__class__" =some (some (.builtin "object.__class__"))
 ga:PySem.W.findIn K (.ref C) "__getattribute__" =some (some (.builtin "BaseException.__getattribute__"))
 gh:PySem.W.findIn K (.ref C) "__getattr__" =some none
end
abbrev TX:=St->Hp->VK->XK->Prop
section
variable{κ:Type} [DecidableEq κ]
noncomputable def oM(kvs:List (κ×V))(k:κ):Option V:=(kvs.find? λkv=>decide (kv.1=k)).map (·.2)
noncomputable def putK(kvs:List (κ×V))(k:κ)(v:V):List (κ×V):=
 if(kvs.any λkv=>decide (kv.1=k))=true then kvs.map (λkv=>if kv.1=k then(kv.1,v)else kv)else kvs++[(k,v)]
noncomputable def Eo(kvs:List (κ×V))(k:κ):List (κ×V):=kvs.filter λkv=>decide (kv.1≠k)
def lG{p:κ×V}{r:List (κ×V)}{k:κ}(e:p.1=k):oM (p::r) k=some p.2:=by simp[oM,zzj,e]
def lq{p:κ×V}{r:List (κ×V)}{k:κ}(e:¬p.1=k):oM (p::r) k=oM r k:=by simp[oM,zzj,e]
theorem qe(k:κ):∀kvs:List (κ×V),(kvs.any λq=>decide (q.1=k))=(oM kvs k).isSome
 |[]=>rfl
 |p::r=>by
  rw[List.any_cons];by_cases e:p.1=k
  ·simp only[lG e,zH e,Bool.true_or,Option.isSome_some]
  ·rw[lq e,zJ e,Bool.false_or];exact qe k r
theorem Ut(k j:κ)(y:V):∀kvs:List (κ×V),oM (kvs.map λq=>if q.1=k then(q.1,y)else q) j=(oM kvs j).map λx=>if j=k then y else x
 |[]=>rfl
 |p::r=>by
  have ih:=Ut k j y r;rw[zl];by_cases h:p.1=k
  ·rw[zi h]
   by_cases e:p.1=j
   ·rw[lG (p:=(p.1,y)) e,lG e,zzY,zi (e.symm.trans h)]
   ·rw[lq (p:=(p.1,y)) e,lq e,ih]
  ·rw[zf h]
   by_cases e:p.1=j
   ·rw[lG (p:=p) e,lG e,zzY,zf (λz=>h (e.trans z))]
   ·rw[lq (p:=p) e,lq e,ih]
theorem Qp(k j:κ)(y:V):∀kvs:List (κ×V),oM kvs k=none->oM (kvs++[(k,y)]) j=if j=k then some y else oM kvs j
 |[],_=>by
  by_cases e:k=j
  ·rw[zi e.symm];exact lG (p:=(k,y)) e
  ·rw[zf (λz=>e z.symm)];exact lq (p:=(k,y)) e
 |p::r,hn=>by
  rw[List.cons_append];have q:¬p.1=k:=λz=>by rw[lG z]at hn;cases hn
  rw[lq q]at hn;have ih:=Qp k j y r hn;by_cases e:p.1=j
  ·rw[lG e,lG e,zf (λz=>q (e.trans z))]
  ·rw[lq e,lq e,ih]
def Hr(kvs:List (κ×V))(k j:κ)(y:V):oM (putK kvs k y) j=if j=k then some y else oM kvs j:=by
 unfold putK;by_cases a:(kvs.any λz=>decide (z.1=k))=true
 ·rw[zi a,Ut]
  rw[qe]at a;by_cases e:j=k
  ·obtain⟨x,hx⟩:=yK.mp a
   rw[zi e,e,hx,zzY,zi rfl]
  ·rw[zf e]
   cases oM kvs j with
   |none=>rfl
   |some x=>rw[zzY,zf e]
 ·rw[zf a]
  refine Qp k j y kvs ?_;rw[qe]at a
  cases q:oM kvs k with
  |none=>rfl
  |some x=>rw[q]at a;exact(a rfl).elim
def CT(kvs:List (κ×V))(k:κ)(v:V):(putK kvs k v).length<=kvs.length+1:=by
 unfold putK;split
 ·rw[za];lia
 ·rw[zC,zG,zzk];lia
def ahS{kvs:List (κ×V)}{k:κ}(v:V)(h:oM kvs k=none):putK kvs k v=kvs++[(k,v)]:=by
 unfold putK;rw[qe,h];exact zf (by decide)
def KH.isSome_eq{o:Option V}{u:Option Value}(r:KH o u):o.isSome=u.isSome:=by
 cases o with
 |none=>cases u with
  |none=>rfl
  |some _=>exact(show False from r).elim
 |some _=>cases u with
  |none=>exact(show False from r).elim
  |some _=>rfl
theorem KH.getD{o:Option V}{u:Option Value}{d:V}{d':Value}(r:KH o u)(rd:RelV d d'):RelV (o.getD d) (u.getD d'):=by
 cases o with
 |none=>cases u with
  |none=>exact rd
  |some _=>exact(show False from r).elim
 |some _=>cases u with
  |none=>exact(show False from r).elim
  |some _=>exact r
def KV.val{kvs:List (κ×V)}{vs:List (κ×Value)}(r:KV kvs vs)(k:κ):KH (oM kvs k) (valueAt vs k):=by
 unfold KV at r
 induction r with
 |nil=>exact True.intro
 | @cons p q ps qs h t ih=>
  obtain⟨h1,h2⟩:=h;by_cases e:p.1=k
  ·have e':q.1=k:=h1.symm.trans e
   have b:valueAt (q::qs) k=some q.2:=by simp[valueAt,zzj,e']
   rw[lG e,b];exact h2
  ·have e':¬q.1=k:=λz=>e (h1.trans z)
   have b:valueAt (q::qs) k=valueAt qs k:=by simp[valueAt,zzj,e']
   rw[lq e,b];exact ih
theorem KV.any{kvs:List (κ×V)}{vs:List (κ×Value)}(r:KV kvs vs)(k:κ):(kvs.any λq=>decide (q.1=k))=vs.any λq=>decide (q.1=k):=by
 unfold KV at r
 induction r with
 |nil=>rfl
 |cons h t ih=>rw[List.any_cons,List.any_cons,ih,h.1]
def KV.repl{kvs:List (κ×V)}{vs:List (κ×Value)}(r:KV kvs vs)(k:κ){y:V}{u:Value}(ry:RelV y u):
  KV (kvs.map λkv=>if kv.1=k then(kv.1,y)else kv) (vs.map λkv=>if kv.1=k then(kv.1,u)else kv):=by
 unfold KV at r⊢
 induction r with
 |nil=>exact .nil
 | @cons p q ps qs h t ih=>
  rw[zl,zl];refine .cons ?_ ih;obtain⟨h1,h2⟩:=h;by_cases e:p.1=k
  ·rw[zi e,zi (h1.symm.trans e)];exact⟨h1,ry⟩
  ·rw[zf e,zf (λz=>e (h1.trans z))];exact⟨h1,h2⟩
def KV.put{kvs:List (κ×V)}{vs:List (κ×Value)}(r:KV kvs vs)(k:κ){y:V}{u:Value}(q:RelV y u):KV (putK kvs k y) (stored vs k u):=by
 unfold putK stored;rw[r.any k];by_cases e:(vs.any λz=>decide (z.1=k))=true
 ·rw[zi e,zi e];exact r.repl k q
 ·rw[zf e,zf e];exact Paired.snoc r ⟨rfl,q⟩
def KV.drop{kvs:List (κ×V)}{vs:List (κ×Value)}(r:KV kvs vs)(k:κ):KV (Eo kvs k) (without vs k):=by
 unfold KV at r⊢;unfold Eo without
 induction r with
 |nil=>exact .nil
 | @cons p q ps qs h t ih=>
  obtain⟨h1,h2⟩:=h;rw[zzb,zzb];by_cases e:p.1=k
  ·have a:¬decide (p.1≠k)=true:=by simp[e]
   have b:¬decide (q.1≠k)=true:=by simp[h1.symm.trans e]
   rw[zf a,zf b];exact ih
  ·have e':¬q.1=k:=λz=>e (h1.trans z)
   have a:decide (p.1≠k)=true:=by simp[e]
   have b:decide (q.1≠k)=true:=by simp[e']
   rw[zi a,zi b];exact .cons ⟨h1,h2⟩ ih
def KV.keys{kvs:List (κ×V)}{vs:List (κ×Value)}(r:KV kvs vs):kvs.map (·.1)=vs.map (·.1):=by
 unfold KV at r
 induction r with
 |nil=>rfl
 |cons h t ih=>rw[zl,zl,ih,h.1]
theorem KV.length{kvs:List (κ×V)}{vs:List (κ×Value)}(r:KV kvs vs):kvs.length=vs.length:=z7 r
def UL(kvs:List (κ×V))(k:κ):(Eo kvs k).length<=kvs.length:=yo _ _
end
def Ou{P:Program}{w:World}{k:Key}{u:Value}(r:RelV (kV k) u):(jU P w).is k u=true:=by
 cases k with
 |inl i=>obtain⟨t,e⟩:=(show∃t,u=Value.int i t from r);subst e;exact RJ P w i t
 |inr x=>obtain⟨t,e⟩:=(show∃t,u=Value.str x t from r);subst e;exact Tc P w x t
theorem QW{P:Program}{w:World}:∀{ks:List Key}{us:List Value},Vals (ks.map kV) us->ItemsAre (jU P w) ks us
 |[],_,r=>by rw[zzs]at r;cases r;exact .nil
 |k::ks,_,r=>by
  rw[zl]at r
  cases r with
  |cons h t=>exact .cons (Ou h) (QW t)
abbrev KT(H:Hp):List (List Key×V)->List (List Key×Addr×Value)->Prop:=Paired λp q=>p.1=q.1/\H q.2.1=some (.tup (p.1.map kV))/\RelV p.2 q.2.2
def KT.val{H:Hp}{kvs:List (List Key×V)}{xs:List (List Key×Addr×Value)}(r:KT H kvs xs)(k:List Key):KH (oM kvs k) ((atKey xs k).map (·.2)):=by
 induction r with
 |nil=>exact True.intro
 | @cons p q ps qs h t ih=>
  obtain⟨h1,_,h2⟩:=h;by_cases e:p.1=k
  ·have e':q.1=k:=h1.symm.trans e
   have b:atKey (q::qs) k=some q.2:=by simp[atKey,zzj,e']
   rw[lG e,b];exact h2
  ·have e':¬q.1=k:=λz=>e (h1.trans z)
   have b:atKey (q::qs) k=atKey qs k:=by simp[atKey,zzj,e']
   rw[lq e,b];exact ih
def KT.repl{H:Hp}{kvs:List (List Key×V)}{xs:List (List Key×Addr×Value)}(r:KT H kvs xs)(k:List Key){y:V}{u:Value}(ry:RelV y u):
  KT H (kvs.map λkv=>if kv.1=k then(kv.1,y)else kv) (xs.map (putAt k u)):=by
 induction r with
 |nil=>exact .nil
 | @cons p q ps qs h t ih=>
  rw[zl,zl];refine .cons ?_ ih;obtain⟨h1,h2,h3⟩:=h;unfold putAt;by_cases e:p.1=k
  ·rw[zi e,zi (h1.symm.trans e)];exact⟨h1,h2,ry⟩
  ·rw[zf e,zf (λz=>e (h1.trans z))];exact⟨h1,h2,h3⟩
def KT.put{H:Hp}{kvs:List (List Key×V)}{xs:List (List Key×Addr×Value)}(r:KT H kvs xs)(k:List Key){b:Addr}{y:V}{u:Value}(hb:H b=some (.tup (k.map kV)))(z:RelV y u):
  KT H (putK kvs k y) (storedH xs k b u):=by
 have e:(kvs.any λkv=>decide (kv.1=k))=(atKey xs k).isSome:=by
  rw[qe,(r.val k).isSome_eq,Option.isSome_map]
 unfold putK storedH;rw[e];by_cases q:(atKey xs k).isSome=true
 ·rw[zi q,zi q];exact r.repl k z
 ·rw[zf q,zf q];exact Paired.snoc r ⟨rfl,hb,z⟩
def KT.keeps{H H':Hp}{kvs:List (List Key×V)}{xs:List (List Key×Addr×Value)}(r:KT H kvs xs)(q:∀b ys,H b=some (.tup ys)->H' b=some (.tup ys)):KT H' kvs xs:=
 Paired.mapP r λ_ _ z=>⟨z.1,q _ _ z.2.1,z.2.2⟩
section
variable{P:Program}{w:World}{H:Hp}{h:Heap}{a:Addr}
def amt{u:HO}(ok:HOk P w H h)(e:Rd H a u):mO P w H h a u:=e.ok ok
def Ku{kvs:List (Key×V)}(ok:HOk P w H h)(e:Rd H a (.dK kvs)):kvs.length<=sizeLine/\(a==sysModules)=false/\∃vs,KV kvs vs/\h.DictOf (jU P w) a vs:=
 show mO P w H h a (.dK kvs)from amt ok e
def VL{kvs:List (Key×V)}(ok:HOk P w H h)(e:H a=some (.dK kvs)):kvs.length<=sizeLine/\(a==sysModules)=false/\∃vs,KV kvs vs/\h.DictOf (jU P w) a vs:=Ku ok (.inl e)
def Px{ks:List Key}(ok:HOk P w H h)(e:H a=some (.tup (ks.map kV))):(tupleKind (jU P w)).is h ks a:=by
 obtain⟨_,its,r,o,h1,h2,n,q⟩:=(show mO P w H h a (.tup (ks.map kV))from ok a _ e);exact⟨o,its.toArray,n,h1,h2,q,by simpa using QW r⟩
def Wk{kvs:List (List Key×V)}(ok:HOk P w H h)(e:Rd H a (.dT kvs)):kvs.length<=sizeLine/\(a==sysModules)=false/\
  ∃xs,KT H kvs xs/\h.DictOfH (tupleKind (jU P w)) a xs:=by
 obtain⟨z,y,xs,r,o,es,ep,h1,h2,h3,h4,h5⟩:=(show mO P w H h a (.dT kvs)from amt ok e);refine⟨z,y,xs,r,o,es,ep,h1,h2,h3,h4,λx hx=>?_,h5⟩
 have aa:∀{l:List (List Key×V)}{m:List (List Key×Addr×Value)},KT H l m->∀x∈m,(tupleKind (jU P w)).is h x.1 x.2.1:=by
  intro l m q
  induction q with
  |nil=>intro x hx;exact nomatch hx
  | @cons p q ps qs hq t ih=>
   intro x hx;rcases zx.mp hx with e|hx
   ·subst e
    exact Px ok (by rw[<-hq.1];exact hq.2.1)
   ·exact ih x hx
 exact aa r x hx
def amI{kvs:List (List Key×V)}(ok:HOk P w H h)(e:H a=some (.dT kvs)):kvs.length<=sizeLine/\(a==sysModules)=false/\
  ∃xs,KT H kvs xs/\h.DictOfH (tupleKind (jU P w)) a xs:=Wk ok (.inl e)
end
def Va(H:Hp)(a:Addr)(y:V)(r:Option V):Prop:=
 (∃kvs k,Rd H a (.dK kvs)/\y=kV k/\r=oM kvs k)\/∃kvs k b,Rd H a (.dT kvs)/\y=.ref b/\H b=some (.tup (k.map kV))/\r=oM kvs k
def amA(H:Hp)(a:Addr)(y v:V)(H':Hp):Prop:=
 (∃kvs k,H a=some (.dK kvs)/\y=kV k/\kvs.length<sizeLine/\H'=upd H a (.dK (putK kvs k v)))\/
 ∃kvs k b,H a=some (.dT kvs)/\y=.ref b/\H b=some (.tup (k.map kV))/\kvs.length<sizeLine/\H'=upd H a (.dT (putK kvs k v))
def Za{H:Hp}{a:Addr}{kvs:List (Key×V)}{k:Key}(e:H a=some (.dK kvs)):Va H a (kV k) (oM kvs k):=.inl ⟨kvs,k,.inl e,rfl,rfl⟩
def Ul{H:Hp}{a:Addr}{kvs:List (Key×V)}{k:Key}{v:V}(e:H a=some (.dK kvs))(q:kvs.length<sizeLine):amA H a (kV k) v (upd H a (.dK (putK kvs k v))):=.inl ⟨kvs,k,e,rfl,q,rfl⟩
section
variable{X:Cx}{pins:List (Addr×Obj)}{σ:St}{H:Hp}{s:Shared}{a:Addr}{y v:V}{u r:Value}{o:Option V}{A:Around}{E:Value->Shared->Prop}
def Inv.big(I:Inv X pins σ H s):sysModules<s.heap.objs.size:=by
 have h:mainGlobals<s.heap.objs.size:=(I.mod.glob.keeps I.bk).lt;exact zz3 (by decide) h
def XM{Q:Value->Shared->Prop}(hu:A.units+1<cLine)(I:Inv X pins σ H s)(g:Va H a y (some v))(ry:RelV y u)(h:∀w' s',Inv X pins σ H s'->RelV v w'->Q w' s'):
  wpAny (model X.prog X.w) A (getItem (.ref a) u) Q E s:=by
 rcases g with⟨kvs,k,e,ey,l⟩|⟨kvs,k,b,e,ey,eb,l⟩
 ·subst ey
  obtain⟨z,hd,vs,rel,dd⟩:=Ku I.hok e;obtain⟨w',hw,q⟩:=KH.some_of (v:=v) (o:=valueAt vs k) (by rw[l];exact rel.val k);exact wpAny_getItem_of (Ou ry) dd.mapOf hw (h w' _ (I.tok _) q)
 ·subst ey
  cases (show u=Value.ref b from ry);obtain⟨z,hd,xs,rel,dd⟩:=Wk I.hok e;obtain⟨w',hw,q⟩:=KH.some_of (v:=v) (o:=(atKey xs k).map (·.2)) (by rw[l];exact rel.val k);obtain⟨p,hp,aa⟩:=zzG.mp hw;refine wpAny_getItem_heap (tupleKind_room_in1 hu) (Px I.hok eb) dd hp ?_;rw[aa];exact h w' _ (I.tok _) q
def Ot{h':Heap}{t':Nat}{ob:HO}(I:Inv X pins σ H s)(mu:Mut (H a))(hs:Heap.SameBut a s.heap h')(he:∃q,h'.get? a=some q)(aa:mO X.prog X.w (upd H a ob) h' a ob):
  Inv X pins σ (upd H a ob) {s with heap:=h',toks:=t'}:=
 I.write (x:=a) (e:=a) mu (.inl rfl) (λb q hb z=>(hs.2 b hb).trans z) he aa
def Qq{P:Program}{w:World}{H':Hp}{h':Heap}{kvs:List (Key×V)}{vs:List (Key×Value)}(z:kvs.length<=sizeLine)(hd:(a==sysModules)=false)(rel:KV kvs vs)(q:h'.DictOf (jU P w) a vs):
  mO P w H' h' a (.dK kvs):=⟨z,hd,vs,rel,q⟩
def Xq{H':Hp}{Q:Unit->Shared->Prop}(hu:A.units+1<cLine)(I:Inv X pins σ H s)(g:amA H a y v H')(ry:RelV y u)(rv:RelV v r)(h:∀s',Inv X pins σ H' s'->Q () s'):
  wpAny (model X.prog X.w) A (setItem (.ref a) u r) Q E s:=by
 rcases g with⟨kvs,k,e,ey,l,eH⟩|⟨kvs,k,b,e,ey,eb,l,eH⟩
 ·subst ey eH
  obtain⟨z,hd,vs,rel,dd⟩:=VL I.hok e;have hz:vs.length<=sizeLine:=by rw[<-rel.length];exact z
  have hl:(putK kvs k v).length<=sizeLine:=by have:=CT kvs k v;lia
  refine wpAny_setItem_pairs (hsz:=hz) (Ou ry) dd λh' aa hs=>h _ ?_;have he:∃q,h'.get? a=some q:=let⟨q,_,_,hq,_⟩:=aa;⟨q,hq⟩
  exact Ot I (by rw[e];exact True.intro) hs he (Qq hl hd (rel.put k rv) aa)
 ·subst ey eH
  cases (show u=Value.ref b from ry);obtain⟨z,hd,xs,rel,dd⟩:=amI I.hok e;have hz:xs.length<=sizeLine:=by rw[<-z7 rel];exact z
  have hl:(putK kvs k v).length<=sizeLine:=by have:=CT kvs k v;lia
  refine wpAny_setItem_heap (hsz:=hz) (tupleKind_room_in1 hu) (Px I.hok eb) dd λh' aa hs=>h _ ?_;obtain⟨q,es,ep,hq,h2,h3,h4,_,h5⟩:=aa;refine Ot I (by rw[e];exact True.intro) hs ⟨q,hq⟩ ⟨hl,hd,_,(rel.put k eb rv).keeps λc ys ec=>?_,q,es,ep,hq,h2,h3,h4,h5⟩;rw[jn (ana ec e (λz=>nomatch z))];exact ec
end
section
variable{X:Cx}{pins:List (Addr×Obj)}{σ:St}{H:Hp}{s:Shared}{a:Addr}{kvs:List (Key×V)}{k:Key}{u:Value}{A:Around}{E:Value->Shared->Prop}
def amq{v:V}{aa:List Value}{Q:Value->Shared->Prop}(I:Inv X pins σ H s)(e:H a=some (.dK kvs))(ry:RelV (kV k) u)(l:oM kvs k=some v)(hm:aa=[]\/∃x,aa=[x])
  (h:∀w' s',Inv X pins σ (upd H a (.dK (Eo kvs k))) s'->RelV v w'->Q w' s'):wpAny (model X.prog X.w) A (call (.builtin "dict.pop") (.ref a::u::aa)) Q E s:=by
 obtain⟨z,hd,vs,rel,dd⟩:=VL I.hok e;obtain⟨w',hw,ac⟩:=KH.some_of (v:=v) (o:=valueAt vs k) (by rw[<-l];exact rel.val k)
 have hp:(keyPart u).isSome=true:=by
  cases k with
  |inl i=>obtain⟨t,q⟩:=(show∃t,u=Value.int i t from ry);subst q;rfl
  |inr x=>obtain⟨t,q⟩:=(show∃t,u=Value.str x t from ry);subst q;rfl
 have ha:argsOk "dict.pop" ⟨.ref a::u::aa,[]⟩:=by
  rcases hm with q|⟨x,q⟩
  ·subst q;exact PySem.F.args_dict_pop_2 _ _
  ·subst q;exact PySem.F.args_dict_pop_3 _ _ _
 refine zzg zzn dd.typeIs PySem.F.entry_dict_pop ha (meets_dict_pop_there (jU X.prog X.w) a (Ou ry) aa hm hp)
  ⟨vs,w',dd,by rw[<-rel.length];exact z,hw,λh' ab hs=>h w' _ ?_ ac⟩
 have he:∃q,h'.get? a=some q:=let⟨q,_,_,hq,_⟩:=ab;⟨q,hq⟩
 exact Ot I (by rw[e];exact True.intro) hs he (Qq (zS (UL kvs k) z) hd (rel.drop k) ab)
def ami{r:Value}{Q:Value->Shared->Prop}(I:Inv X pins σ H s)(e:H a=some (.dK kvs))(ry:RelV (kV k) u)(l:oM kvs k=none)(h:∀s',Inv X pins σ H s'->Q r s'):
  wpAny (model X.prog X.w) A (call (.builtin "dict.pop") [.ref a,u,r]) Q E s:=by
 obtain⟨z,hd,vs,rel,dd⟩:=VL I.hok e;have hn:valueAt vs k=none:=KH.none_of (by rw[<-l];exact rel.val k)
 have hp:(keyPart u).isSome=true:=by
  cases k with
  |inl i=>obtain⟨t,q⟩:=(show∃t,u=Value.int i t from ry);subst q;rfl
  |inr x=>obtain⟨t,q⟩:=(show∃t,u=Value.str x t from ry);subst q;rfl
 exact zzg zzn dd.typeIs PySem.F.entry_dict_pop (PySem.F.args_dict_pop_3 _ _ _) (meets_dict_pop_default (jU X.prog X.w) a (Ou ry) hd hp r) ⟨vs,dd,hn,h _ (I.tok _)⟩
end
def ano(i:Expr):Prop:=∀ov iv,subscripted i false ov iv=operate [ov,iv] (getItem ov iv)
def akp{prog:Program}{w:World}{A:Around}{E:Value->Shared->Prop}{s:Shared}{env:Env}{value q:Expr}{pos:Pos}{T id:String}{Q:Value->Shared->Prop}
  (hl:typeLookup (.type T) "__getitem__" =pure (some (.builtin id))) (hs:ano q)
  (h:wpAny (model prog w) A (eval value env) (λo s₁=>wpAny (model prog w) A (eval q env) (λi s₂=>s₂.TypeIs o T/\wpAny (model prog w) A (getItem o i) Q E s₂) E s₁) E s):
  wpAny (model prog w) A (eval (.Subscript value q pos) env) Q E s:=by
 refine Subscript_ (yi h (λo s₁ h₁=>yi h₁ (λi s₂ h₂=>?_) λ_ _ x=>x) λ_ _ x=>x);obtain⟨hT,h₂⟩:=h₂;unfold subscriptTail;refine ze ?_;rw[getitemInPython_of_ne hT.not_modules];refine ze (zzZ hT hl ?_)
 have z:wpAny (model prog w) A (subscripted q false o i) (λr s₃=>wpAny (model prog w) A (letTemporaryGo value o r>>=λ_=>pure r) Q E s₃) E s₂:=by
  rw[hs o i];exact wpAny_operating (yi h₂ (λr s₃ h₃=>ze (wpAny_letTemporaryGo (zA h₃))) λ_ _ x=>x)
 first
  |exact zA (ze z)
  |exact ze (zA (ze z))
  |exact ze z
def Sw{X:Cx}{pins:List (Addr×Obj)}{σ:St}{H:Hp}{s:Shared}{a:Addr}{y:V}{o:Option V}(I:Inv X pins σ H s)(g:Va H a y o):s.TypeIs (.ref a) "dict" :=by
 rcases g with⟨kvs,k,e,_,_⟩|⟨kvs,k,b,e,_,_,_⟩
 ·obtain⟨_,_,vs,_,q⟩:=Ku I.hok e
  exact q.typeIs
 ·obtain⟨_,_,xs,_,q⟩:=Wk I.hok e
  exact q.typeIs
def akY(td ty:TE):TE:=λσ H Q=>td σ H λx H1=>ty σ H1 λy H2=>∃a v,x=.ref a/\Va H2 a y (some v)/\Q v H2
def ajV(td ty tv:TE):TS:=λD σ H=>tv σ H λv H1=>td σ H1 λx H2=>ty σ H2 λy H3=>∃a H4,x=.ref a/\amA H3 a y v H4/\D.nx σ H4
section
variable{X:Cx}{o i e value:Expr}{pos pos' tpos:Pos}{td ty tv:TE}
def nY(hu:X.A.units+1<cLine)(ho:PE X o td)(hi:PE X i ty)(hs:ano i):PE X (.Subscript o i pos) (akY td ty):=by
 intro pins s σ H Q I h;refine akp PySem.F.slot_dict_getitem.lookup hs (thn (ho pins s σ H _ I h) λu s1 ⟨x,H1,I1,rx,q1⟩=>thn (hi pins s1 σ H1 _ I1 q1) λiv s2 ⟨y,H2,z,ry,a,v,ex,g,q2⟩=>?_);subst ex;obtain rfl:u=Value.ref a:=rx;exact⟨Sw z g,XM hu z g ry λw' s3 I3 q=>⟨v,H2,I3,q,q2⟩⟩
def Jd(hu:X.A.units+1<cLine)(ho:PE X o td)(hi:PE X i ty)(hv:PE X value tv)(z:swapsWith value (some (.Subscript o i pos')) pos.line X.env=pure false):
  PS X (.Assign [.Subscript o i pos'] value pos) (ajV td ty tv):=by
 intro pins s σ H D I h;refine wpAny_Assign_Subscript (thn (hv pins s σ H _ I h) λr s1 ⟨v,H1,I1,rv,q⟩=>thn (ho pins s1 σ H1 _ I1 q) λu s2 ⟨x,H2,I2,rx,q2⟩=>thn (hi pins s2 σ H2 _ I2 q2) λiv s3 ⟨y,H3,I3,ry,a,H4,ex,g,q3⟩=>?_) z;subst ex;obtain rfl:u=Value.ref a:=rx;exact Xq hu I3 g ry rv λs4 I4=>⟨σ,H4,I4,q3⟩
end
def Vj{P:Program}{w:World}{H:Hp}(h:Heap)(q:sysModules<h.objs.size):mO P w H (h.push {cls:=.type "dict",data:=.dict #[]}) h.objs.size (.dK []):=
 ⟨zM _,beq_eq_false_iff_ne.mpr (Ne.symm (zE q)),[],.nil,Heap.DictOf.new h⟩
def aiZ:TE:=λ_ H Q=>∀p,H p=none->Q (.ref p) (upd H p (.dK []))
section
variable{X:Cx}{pos:Pos}
def vN:PE X (.Dict [] [] pos) aiZ:=λpins s σ H Q I h=>
 wpAny_Dict_empty ⟨.ref s.heap.objs.size,_,I.laid (a:=s.heap.objs.size) (o:=.dK []) (t':=s.toks) (λ_ _ q=>zd _ q) (zm _) (Vj s.heap I.big),rfl,h _ (I.hok.fresh (zm _))⟩
end
def UJ:List (TE×TE)->St->Hp->(List (V×V)->Hp->Prop)->Prop
 |[],_,H,Q=>Q [] H
 |(tk,tv)::r,σ,H,Q=>tk σ H λx H1=>tv σ H1 λy H2=>UJ r σ H2 λps H3=>Q ((x,y)::ps) H3
abbrev VV:List (V×V)->List (Value×Value)->Prop:=Paired λp q=>RelV p.1 q.1/\RelV p.2 q.2
def PPs(X:Cx)(pos:Pos)(keys:List (Option Expr))(values:List Expr)(trs:List (TE×TE)):Prop:=
 ∀(pins:List (Addr×Obj)) (s:Shared) (σ:St) (H:Hp) (Q:List (V×V)->Hp->Prop),Inv X pins σ H s->UJ trs σ H Q->
  wpAny (model X.prog X.w) X.A (evalPairs (pairTrees keys values X.env pos)) (λvs s'=>∃ps H',Inv X pins σ H' s'/\VV ps vs/\Q ps H') X.xe s
def ajM{X:Cx}{pos:Pos}:PPs X pos [] [] []:=λpins s σ H Q I h=>pairTrees_nil_walk ⟨[],H,I,.nil,h⟩
def wB{X:Cx}{pos:Pos}{k v:Expr}{ks:List (Option Expr)}{vs:List Expr}{tk tv:TE}{q:List (TE×TE)}(hk:PE X k tk)(hv:PE X v tv)(hr:PPs X pos ks vs q):
  PPs X pos (some k::ks) (v::vs) ((tk,tv)::q):=λpins s σ H Q I h=>
 pairTrees_cons_walk (thn (hk pins s σ H _ I h) λu s1 ⟨x,H1,I1,rx,q1⟩=>thn (hv pins s1 σ H1 _ I1 q1) λw2 s2 ⟨y,H2,I2,ry,q2⟩=>
  thn (hr pins s2 σ H2 _ I2 q2) λws s3 ⟨ps,H3,I3,rel,z⟩=>⟨(x,y)::ps,H3,I3,.cons ⟨rx,ry⟩ rel,z⟩)
noncomputable def Ma(kvs more:List (Key×V)):List (Key×V):=more.foldl (λacc kv=>putK acc kv.1 kv.2) kvs
def KV.merge:∀{z:List (Key×V)}{rs:List (Key×Value)}{kvs:List (Key×V)}{vs:List (Key×Value)},KV z rs->KV kvs vs->KV (Ma kvs z) (merged vs rs):=by
 intro z rs kvs vs r;unfold KV at r
 induction r generalizing kvs vs with
 |nil=>intro q;exact q
 | @cons p q ps qs h t ih=>
  intro r0
  have e:KV (putK kvs p.1 p.2) (stored vs q.1 q.2):=by
   have:=r0.put p.1 h.2;rw[<-h.1];exact this
  exact ih e
theorem Dq:∀(more kvs:List (Key×V)),(Ma kvs more).length<=kvs.length+more.length
 |[],kvs=>by show kvs.length<=kvs.length+0;lia
 |p::r,kvs=>by
  have h1:=Dq r (putK kvs p.1 p.2);have h2:=CT kvs p.1 p.2;show(Ma (putK kvs p.1 p.2) r).length<=_;rw[zG];lia
theorem Lz{P:Program}{w:World}:∀{kvs:List (Key×V)}{ws:List (Value×Value)},VV (kvs.map λz=>(kV z.1,z.2)) ws->∃rs,Carries (jU P w) ws rs/\KV kvs rs
 |[],_,r=>by rw[zzs]at r;cases r;exact⟨[],True.intro,.nil⟩
 |p::kvs,_,r=>by
  rw[zl]at r
  cases r with
  | @cons a b as bs h t=>
   obtain⟨rs,c,q⟩:=Lz (P:=P) (w:=w) t;obtain⟨b1,b2⟩:=b;exact⟨(p.1,b2)::rs,⟨Ou h.1,rfl,c⟩,.cons ⟨rfl,h.2⟩ q⟩
def alk(trs:List (TE×TE)):TE:=λσ H Q=>∀p,H p=none->UJ trs σ (upd H p (.dK [])) λps H2=>H2 p=some (.dK [])/\∃kvs:List (Key×V),ps=kvs.map (λkv=>(kV kv.1,kv.2))/\kvs.length<=15/\Q (.ref p) (upd H2 p (.dK (Ma [] kvs)))
def akl{X:Cx}{pos:Pos}{aa:List (Option Expr)}{ab:List Expr}{ad:List (TE×TE)}(h:PPs X pos aa ab ad)(ae:aa.all (·.isSome)=true)(hl:aa.length=ab.length)(h0:aa≠[])
  (af:aa.length<=15):PE X (.Dict aa ab pos) (alk ad):=by
 intro pins s σ H Q I q;have hn:=I.hok.fresh (zm s.heap.objs.size);have I1:=I.laid (a:=s.heap.objs.size) (o:=.dK []) (h':=s.heap.push {cls:=.type "dict",data:=.dict #[]}) (t':=s.toks) (λ_ _ q=>zd _ q) (zm _) (Vj s.heap I.big);refine wpAny_Dict_walk (knd:=jU X.prog X.w) ae hl h0 af (thn (h pins _ σ _ _ I1 (q _ hn)) λws s2 ⟨ps,H2,I2,rel,e,kvs,ep,lk,q2⟩=>?_);subst ep;obtain⟨rs,c,rk⟩:=Lz (P:=X.prog) (w:=X.w) rel;obtain⟨z,hd,ag,r0,dd⟩:=VL I2.hok e;cases r0;refine⟨rs,c,dd,λh' ac hs=>⟨.ref s.heap.objs.size,_,?_,rfl,q2⟩⟩
 have hz:(Ma [] kvs).length<=sizeLine:=by
  have h1:=Dq kvs [];rw[zzk]at h1;rw[zw];lia
 have he:∃q,h'.get? s.heap.objs.size=some q:=let⟨q,_,_,hq,_⟩:=ac;⟨q,hq⟩
 exact Ot I2 (by rw[e];exact True.intro) hs he (Qq hz hd (rk.merge .nil) ac)
structure M1(X:Cx)(o:Expr)(m:Str)(apos:Pos)(e:Expr)(cpos:Pos):Prop where
 base:attributeBase o m X.env (eval o X.env)=eval o X.env
 few:((backTo cpos (starEach [e] X.env)).all (λx=>!x.1) && (backToKw cpos (keywordEach [] X.env)).all (λx=>x.1.isSome)
  && decide (([e]:List Expr).length+([]:List Keyword).length+(if([]:List Keyword).isEmpty then 0 else 1)<30))=true
 line:(apos.endLine==cpos.line)=true
 trees:backTo cpos (starEach [e] X.env)=[(false,eval e X.env)]
structure M2(X:Cx)(o:Expr)(m:Str)(apos:Pos)(e f:Expr)(cpos:Pos):Prop where
 base:attributeBase o m X.env (eval o X.env)=eval o X.env
 few:((backTo cpos (starEach [e,f] X.env)).all (λx=>!x.1) && (backToKw cpos (keywordEach [] X.env)).all (λx=>x.1.isSome)
  && decide (([e,f]:List Expr).length+([]:List Keyword).length+(if([]:List Keyword).isEmpty then 0 else 1)<30))=true
 line:(apos.endLine==cpos.line)=true
 trees:backTo cpos (starEach [e,f] X.env)=[(false,eval e X.env),(false,eval f X.env)]
def IsD(H:Hp)(a:Addr):Prop:=(∃kvs,Rd H a (.dK kvs))\/∃kvs,Rd H a (.dT kvs)
def Vn{X:Cx}{pins:List (Addr×Obj)}{σ:St}{H:Hp}{s:Shared}{a:Addr}(I:Inv X pins σ H s)(d:IsD H a):
  s.TypeIs (.ref a) "dict" /\(∀b,Value.ref a=.ref b->∃z,s.heap.get? b=some z/\z.dict=none)/\(a==sysModules)=false:=by
 rcases d with⟨kvs,e⟩|⟨kvs,e⟩
 ·obtain⟨_,hd,vs,_,dd⟩:=Ku I.hok e
  refine⟨dd.typeIs,λb q=>?_,hd⟩;cases q;obtain⟨z,_,_,h1,h2,_⟩:=dd;exact⟨z,h1,h2.2.1⟩
 ·obtain⟨_,hd,xs,_,dd⟩:=Wk I.hok e
  refine⟨dd.typeIs,λb q=>?_,hd⟩;cases q;obtain⟨z,_,_,h1,h2,_⟩:=dd;exact⟨z,h1,h2.2.1⟩
section
variable{X:Cx}{pins:List (Addr×Obj)}{σ:St}{H:Hp}{s:Shared}{a:Addr}{y d:V}{u r:Value}{o:Option V}{A:Around}{E:Value->Shared->Prop}
def akW{Q:Value->Shared->Prop}(hu:A.units+1<cLine)(I:Inv X pins σ H s)(g:Va H a y o)(ry:RelV y u)(h:∀w' s',Inv X pins σ H s'->RelV (o.getD .non) w'->Q w' s'):
  wpAny (model X.prog X.w) A (call (.builtin "dict.get") [.ref a,u]) Q E s:=by
 rcases g with⟨kvs,k,e,ey,l⟩|⟨kvs,k,b,e,ey,eb,l⟩
 ·subst ey
  obtain⟨z,hd,vs,rel,q⟩:=Ku I.hok e;refine zzg yH q.typeIs zzf (PySem.F.args_dict_get_2 _ _) (meets_dict_get (jU X.prog X.w) a (Ou ry) hd) ⟨_,q.mapOf,h _ _ (I.tok _) ?_⟩;rw[l];exact(rel.val k).getD rfl
 ·subst ey
  cases (show u=Value.ref b from ry);obtain⟨z,hd,xs,rel,q⟩:=Wk I.hok e;refine zzg yH q.typeIs zzf (PySem.F.args_dict_get_2 _ _) (meetsH_dict_get (tupleKind (jU X.prog X.w)) a b hd) ⟨tupleKind_room_in1 hu,k,xs,Px I.hok eb,q,h _ _ (I.tok _) ?_⟩;rw[l];exact(rel.val k).getD rfl
def amy{Q:Value->Shared->Prop}(hu:A.units+1<cLine)(I:Inv X pins σ H s)(g:Va H a y o)(ry:RelV y u)(rd:RelV d r)(h:∀w' s',Inv X pins σ H s'->RelV (o.getD d) w'->Q w' s'):
  wpAny (model X.prog X.w) A (call (.builtin "dict.get") [.ref a,u,r]) Q E s:=by
 rcases g with⟨kvs,k,e,ey,l⟩|⟨kvs,k,b,e,ey,eb,l⟩
 ·subst ey
  obtain⟨z,hd,vs,rel,q⟩:=Ku I.hok e;refine zzg yH q.typeIs zzf (PySem.F.args_dict_get_3 _ _ _) (meets_dict_get_default (jU X.prog X.w) a (Ou ry) hd r) ⟨_,q.mapOf,h _ _ (I.tok _) ?_⟩;rw[l];exact(rel.val k).getD rd
 ·subst ey
  cases (show u=Value.ref b from ry);obtain⟨z,hd,xs,rel,q⟩:=Wk I.hok e;refine zzg yH q.typeIs zzf (PySem.F.args_dict_get_3 _ _ _) (meetsH_dict_get_default (tupleKind (jU X.prog X.w)) a b hd r) ⟨tupleKind_room_in1 hu,k,xs,Px I.hok eb,q,h _ _ (I.tok _) ?_⟩;rw[l];exact(rel.val k).getD rd
end
def aje(td ty:TE):TE:=λσ H Q=>td σ H λx H1=>∃a,x=.ref a/\IsD H1 a/\ty σ H1 λy H2=>∃o,Va H2 a y o/\Q (o.getD .non) H2
def ajm(td ty tx:TE):TE:=λσ H Q=>td σ H λx H1=>∃a,x=.ref a/\IsD H1 a/\ty σ H1 λy H2=>tx σ H2 λz H3=>∃o,Va H3 a y o/\Q (o.getD z) H3
def Ys(td ty:TE):TE:=λσ H Q=>td σ H λx H1=>∃a,x=.ref a/\IsD H1 a/\ty σ H1 λy H2=>∃kvs k v,H2 a=some (.dK kvs)/\y=kV k/\oM kvs k=some v/\Q v (upd H2 a (.dK (Eo kvs k)))
def aiX(td ty tx:TE):TE:=λσ H Q=>td σ H λx H1=>∃a,x=.ref a/\IsD H1 a/\ty σ H1 λy H2=>tx σ H2 λz H3=>∃kvs k,H3 a=some (.dK kvs)/\y=kV k/\
 (∀v,oM kvs k=some v->Q v (upd H3 a (.dK (Eo kvs k))))/\(oM kvs k=none->Q z H3)
section
variable{X:Cx}{o e f:Expr}{apos cpos:Pos}{td ty tx:TE}
def aiw(hu:X.A.units+1<cLine)(ho:PE X o td)(he:PE X e ty)(m:M1 X o "get" apos e cpos):PE X (.Call (.Attribute o "get" apos) [e] [] cpos) (aje td ty):=by
 intro pins s σ H Q I h;refine zzM m.base m.few m.line yd yH PySem.F.type_dict_get (thn (ho pins s σ H _ I h) λu s1 ⟨x,H1,z,rx,a,ex,d,q1⟩=>?_);subst ex;obtain rfl:u=Value.ref a:=rx;obtain⟨t1,t2,_⟩:=Vn z d;refine⟨t1,t2,?_⟩;rw[m.trees];refine Calls.callWith_builtin rfl (Calls.evalArgs_plain (Calls.spliced_cons (thn (he pins s1 σ H1 _ z q1) λiv s2 ⟨y,H2,I2,ry,ov,g,q2⟩=>Calls.spliced_nil ?_)));exact akW hu I2 g ry λw' s3 I3 q=>⟨_,H2,I3,q,q2⟩
def sX(hu:X.A.units+1<cLine)(ho:PE X o td)(he:PE X e ty)(hf:PE X f tx)(m:M2 X o "get" apos e f cpos):PE X (.Call (.Attribute o "get" apos) [e,f] [] cpos) (ajm td ty tx):=by
 intro pins s σ H Q I h;refine zzM m.base m.few m.line yd yH PySem.F.type_dict_get (thn (ho pins s σ H _ I h) λu s1 ⟨x,H1,I1,rx,a,ex,d,q1⟩=>?_);subst ex;obtain rfl:u=Value.ref a:=rx;obtain⟨t1,t2,_⟩:=Vn I1 d;refine⟨t1,t2,?_⟩;rw[m.trees]
 refine Calls.callWith_builtin rfl (Calls.evalArgs_plain (Calls.spliced_cons (thn (he pins s1 σ H1 _ I1 q1) λiv s2 ⟨y,H2,I2,ry,q2⟩=>
  Calls.spliced_cons (thn (hf pins s2 σ H2 _ I2 q2) λfv s3 ⟨z,H3,I3,rz,ov,g,q3⟩=>Calls.spliced_nil ?_))))
 exact amy hu I3 g ry rz λw' s4 I4 q=>⟨_,H3,I4,q,q3⟩
def aiH(ho:PE X o td)(he:PE X e ty)(m:M1 X o "pop" apos e cpos):PE X (.Call (.Attribute o "pop" apos) [e] [] cpos) (Ys td ty):=by
 intro pins s σ H Q I h;refine zzM m.base m.few m.line yd zzn PySem.F.type_dict_pop (thn (ho pins s σ H _ I h) λu s1 ⟨x,H1,z,rx,a,ex,d,q1⟩=>?_);subst ex;obtain rfl:u=Value.ref a:=rx;obtain⟨t1,t2,_⟩:=Vn z d;refine⟨t1,t2,?_⟩;rw[m.trees];refine Calls.callWith_builtin rfl (Calls.evalArgs_plain (Calls.spliced_cons (thn (he pins s1 σ H1 _ z q1) λiv s2 ⟨y,H2,I2,ry,kvs,k,v,ea,ey,l,q2⟩=>Calls.spliced_nil ?_)));subst ey;exact amq I2 ea ry l (.inl rfl) λw' s3 I3 q=>⟨v,_,I3,q,q2⟩
def aia(ho:PE X o td)(he:PE X e ty)(hf:PE X f tx)(m:M2 X o "pop" apos e f cpos):PE X (.Call (.Attribute o "pop" apos) [e,f] [] cpos) (aiX td ty tx):=by
 intro pins s σ H Q I h;refine zzM m.base m.few m.line yd zzn PySem.F.type_dict_pop (thn (ho pins s σ H _ I h) λu s1 ⟨x,H1,I1,rx,a,ex,d,q1⟩=>?_);subst ex;obtain rfl:u=Value.ref a:=rx;obtain⟨t1,t2,_⟩:=Vn I1 d;refine⟨t1,t2,?_⟩;rw[m.trees]
 refine Calls.callWith_builtin rfl (Calls.evalArgs_plain (Calls.spliced_cons (thn (he pins s1 σ H1 _ I1 q1) λiv s2 ⟨y,H2,I2,ry,q2⟩=>
  Calls.spliced_cons (thn (hf pins s2 σ H2 _ I2 q2) λfv s3 ⟨z,H3,I3,rz,kvs,k,ea,ey,q3,q4⟩=>Calls.spliced_nil ?_))))
 subst ey
 cases l:oM kvs k with
 |some v=>exact amq I3 ea ry l (.inr ⟨fv,rfl⟩) λw' s4 q aa=>⟨v,_,q,aa,q3 v l⟩
 |none=>exact ami I3 ea ry l λs4 q=>⟨z,H3,q,rz,q4 l⟩
end
section
variable{X:Cx}{pins:List (Addr×Obj)}{σ:St}{H:Hp}{s:Shared}{a:Addr}{kvs:List (Key×V)}{A:Around}{E:Value->Shared->Prop}
def aaJ{Q:Value->Shared->Prop}(I:Inv X pins σ H s)(e:Rd H a (.dK kvs))(h:∀p s',H p=none->Inv X pins σ (upd H p (.dK kvs)) s'->Q (.ref p) s'):wpAny (model X.prog X.w) A (call (.type "dict") [.ref a]) Q E s:=by
 obtain⟨z,hd,vs,rel,dd⟩:=Ku I.hok e;refine kt_call_dict hd dd (by rw[<-rel.length];exact z) λh' aa hs=>?_;refine h _ _ (I.hok.fresh (zm _)) (I.laid (a:=s.heap.objs.size) (o:=.dK kvs) (t':=s.toks) (λb q hq=>?_) (zm _) (Qq z (beq_eq_false_iff_ne.mpr (Ne.symm (zE I.big))) rel aa));exact(hs.2 b (zE (zv hq))).trans (zd _ hq)
end
section
variable{κ:Type} [DecidableEq κ]
def aaF{kvs:List (κ×V)}{k:κ}(h:oM kvs k=none):¬k∈kvs.map (·.1):=by
 intro m;obtain⟨p,z,e⟩:=zc.mp m;have q:(kvs.any λkv=>decide (kv.1=k))=true:=yx.mpr ⟨p,z,zH e⟩;rw[qe,h]at q;exact absurd q (by simp)
theorem Xp:∀{l:List κ}{k:κ},l.Nodup->¬k∈l->(l++[k]).Nodup
 |[],k,_,_=>by simp
 |a::r,k,h,hk=>by
  obtain⟨h1,h2⟩:=zN.mp h;show(a::(r++[k])).Nodup;refine zN.mpr ⟨λm=>?_,Xp h2 λm=>hk (zx.mpr (Or.inr m))⟩;rcases zD.mp m with q|q
  ·exact h1 q
  ·exact hk (zx.mpr (Or.inl (zr.mp q).symm))
def akm{kvs:List (κ×V)}{k:κ}(v:V)(hn:(kvs.map (·.1)).Nodup)(h:oM kvs k=none):((putK kvs k v).map (·.1)).Nodup:=by
 rw[ahS v h,zp];exact Xp hn (aaF h)
end
structure aao(K:Fg_)(x qual:Str)(st:Stmt)(f:Addr)(fd:FuncData)(dvs:List V):Prop where
 ex:∃(oc:Value)(od:Option Addr)(Td:Addr)(kV doc pm:Value)(an:Option Addr)(cdv ct:Value)(osl:Array (Option Value))(ot:Obj)(its:List Value)(nt:Nat),
  fd=PySem.W.fnOf x qual (oH st) (mW st) (jg st) (.ref Td) kV doc pm an cdv ct/\K.lookup f=some ⟨oc,od,.func fd,osl⟩/\PySem.W.codeIn K cdv qual=true/\K.lookup Td=some ot/\ot.data=.seq its.toArray nt/\Vals dvs its
 kp:PySem.W.keepIn K (.ref f)=true
section
variable{P:Program}{w:World}{K:Fg_}{mg:Str->Option Value}{base:Heap}
def aao.ok{x z:Str}{st:Stmt}{f:Addr}{fd:FuncData}{N ps:List Str}{k:Nat}{sp:Sp}{dvs:List V}(F:aao K x z st f fd dvs)(S:jj N ps (jg st))(len:∀vs H Q E,sp vs H Q E->vs.length=ps.length)
  (ab:∀(aa:Value)(A:Around)(outer:List Env)(s:Shared)(H:Hp)(vs:List V)(Q:VK)(E:XK),qY k (A.deeper (envOfC z (jg st) s.heap.objs.size f aa))->sp vs H Q E->
   ∃t,PSs (aat CX0 P w K mg base N z (jg st) f aa A outer s H E).nox (mW st) t/\t {nx:=λ_ H'=>Q .non H',rt:=Q} (start N vs) H):kI P w K mg base CX0 (k+1) f fd ps sp:=by
 obtain⟨oc,od,Td,kV,af,pm,an,aa,ct,ae,ot,its,nt,rfl,lk,ac,_⟩:=F.ex;refine ame lk ac S len λA outer s H vs Q E hr ad=>?_;obtain⟨t,h,q⟩:=ab aa A outer s H vs Q E hr ad;exact⟨t,h.nox,q⟩
def Fun.okv{x q:Str}{st:Stmt}{f:Addr}{fd:FuncData}{N ps:List Str}{k:Nat}{sp:Sp}(F:Fun K x q st f fd)(S:jj N ps (jg st))
  (z:∀(cdv:Value)(A:Around)(outer:List Env)(s:Shared)(H:Hp)(vs:List V)(Q:VK)(E:XK),qY k (A.deeper (envOfC q (jg st) s.heap.objs.size f cdv))->sp vs H Q E->
   ∃t,PSs (aat CX0 P w K mg base N q (jg st) f cdv A outer s H E).nox (mW st) t/\t {nx:=λ_ H'=>Q .non H',rt:=Q} (start N vs) H) (len:∀vs H Q E,sp vs H Q E->vs.length=ps.length:=by walk_at "v"):kI P w K mg base CX0 (k+1) f fd ps sp:=F.ok S len z
def aao.okv{x q:Str}{st:Stmt}{f:Addr}{fd:FuncData}{N ps:List Str}{k:Nat}{sp:Sp}{dvs:List V}(F:aao K x q st f fd dvs)(S:jj N ps (jg st))
  (z:∀(cdv:Value)(A:Around)(outer:List Env)(s:Shared)(H:Hp)(vs:List V)(Q:VK)(E:XK),qY k (A.deeper (envOfC q (jg st) s.heap.objs.size f cdv))->sp vs H Q E->
   ∃t,PSs (aat CX0 P w K mg base N q (jg st) f cdv A outer s H E).nox (mW st) t/\t {nx:=λ_ H'=>Q .non H',rt:=Q} (start N vs) H) (len:∀vs H Q E,sp vs H Q E->vs.length=ps.length:=by walk_at "v"):kI P w K mg base CX0 (k+1) f fd ps sp:=F.ok S len z
def aao.binds{x q:Str}{st:Stmt}{f:Addr}{fd:FuncData}{ps:List Str}{dvs:List V}(F:aao K x q st f fd dvs)(n:Nat)
  (h:∀(Td:Addr)(kV aa pm:Value)(an:Option Addr)(z ct:Value)(its us:List Value),its.length=dvs.length->(us++its.drop n).length=ps.length->
   ∃k,bindArgs (PySem.W.fnOf x q (oH st) (mW st) (jg st) (.ref Td) kV aa pm an z ct) ⟨us,[]⟩=(seqItems? (.ref Td)>>=k)/\k (some its.toArray)=pure (ps.zip (us++its.drop n))):∃ds,Binds K fd ps ds/\Vals (dvs.drop n) ds:=by
 obtain⟨oc,od,Td,kV,aa,pm,an,z,ct,ac,ot,its,nt,rfl,lk,ad,lt,ab,hv⟩:=F.ex;refine⟨its.drop n,λs us X hl=>?_,hv.drop n⟩;obtain⟨k,e1,e2⟩:=h Td kV aa pm an z ct its us hv.length.symm hl;exact PySem.W.binds_K X rfl lt ab e1 e2
def Tf{x q:Str}{st:Stmt}{f Td:Addr}{oc:Value}{od an:Option Addr}{ab:Array (Option Value)}{kV aa pm z ct:Value}{dvs:List V}{ot:Obj}{its:List Value}{nt:Nat}(l:K.lookup f=some ⟨oc,od,.func (PySem.W.fnOf x q (oH st) (mW st) (jg st) (.ref Td) kV aa pm an z ct),ab⟩)
  (c:PySem.W.codeIn K z q=true) (k:PySem.W.keepIn K (.ref f)=true) (lt:K.lookup Td=some ot) (hd:ot.data=.seq its.toArray nt) (hv:Vals dvs its):aao K x q st f (PySem.W.fnOf x q (oH st) (mW st) (jg st) (.ref Td) kV aa pm an z ct) dvs:=
 ⟨⟨oc,od,Td,kV,aa,pm,an,z,ct,ab,ot,its,nt,rfl,l,c,lt,hd,hv⟩,k⟩
end
structure akn(K:Fg_)(C:Addr)(m:Str)(f:Addr):Prop where
 ga:PySem.W.specialIn K (.ref C) "__getattribute__" =some (some (.builtin "type.__getattribute__"))
 rd:PySem.W.readsIn K C (.type "type")=true
 fi:PySem.W.findCls K (.ref C) (.type "type") m=some (.val (.ref f))
section
variable{X:Cx}{CX:CXT}{k:Nat}{f C:Addr}{fd:FuncData}{ps ks:List Str}{sp:Sp}{dvs:List V}{ds:List Value}{E:XK}{x m:Str}{p pos apos:Pos}{e o:Expr}{es:List Expr}{ta:TE}{t tk:TA}{kws:List Keyword}
def pP{pl:Sem Bool}(Z:akn X.K C m f)(F:kI X.prog X.w X.K X.mg X.base CX k f fd ps sp)(hr:qY k X.A)(hg:Gl X x)(hm:X.mg x=some (.ref C))(hk:PySem.W.keepIn X.K (.ref f)=true)(hb:Binds X.K fd ps ds)(hd:Vals dvs ds)(hx:BW CX X E)
  (ha:PA X (e::es) t) (z:(x==("__debug__" :Str))=false:=by decide) (he:starEach (e::es) X.env=(false,eval e X.env)::starEach es X.env:=by rfl) (hpl:(backTo pos (starEach es X.env)).any (·.1)=false:=by rfl)
  (ht:eval (.Call (.Attribute (.Name x p) m apos) (e::es) [] pos) X.env=(do
   let ov<-eval (.Name x p) X.env
   standAt apos.atName
   let(f,first)<-holding [ov] (getMethod ov m pl)
   callWith pos f first (backTo pos (starEach (e::es) X.env)) (backToKw pos (keywordEach [] X.env))):=by rfl):
  PE X (.Call (.Attribute (.Name x p) m apos) (e::es) [] pos) (aiE sp dvs E t):=by
 intro pins s σ H Q I h;refine zzO (pl:=pl) (Iv I hg hm ?_ z) ht;refine PySem.W.method_cls I.kIn Z.ga (PySem.W.cls_value I.kIn Z.rd Z.fi rfl ?_);have I':Inv X pins σ H {s with toks:=s.toks+1}:=I.tok _;refine zzA (first:=[]) (h₀:=X.base) I.ok.mod.kin hk (thn (ha pos pins _ σ H _ I' h) λus s1 ⟨vs,H1,I1,r,q⟩=>⟨I1.kIn,?_⟩) he hpl;exact Ua F hr hb hd hx I1 r q
inductive XR(X:Cx)(CX:CXT)(m:Str):List (Addr×Sp)->Prop
 |nil:XR X CX m []
 |cons {C f:Addr} {fd:FuncData} {ps:List Str} {sp:Sp} {k:Nat} {r:List (Addr×Sp)} (c:Cls X.K C) (hm:Meth X.K C m f) (F:kI X.prog X.w X.K X.mg X.base CX k f fd ps sp) (hr:qY k X.A) (hb:Binds X.K fd ps []) (t:XR X CX m r):XR X CX m ((C,sp)::r)
def XR.get{tab:List (Addr×Sp)}(T:XR X CX m tab)(h:(C,sp)∈tab):∃f fd ps k,Cls X.K C/\Meth X.K C m f/\kI X.prog X.w X.K X.mg X.base CX k f fd ps sp/\qY k X.A/\Binds X.K fd ps []:=by
 induction T with
 |nil=>cases h
 |cons c hm F hr hb t ih=>
  rcases zx.mp h with z|z
  ·cases z
   exact⟨_,_,_,_,c,hm,F,hr,hb⟩
  ·exact ih z
def Rz(tab:List (Addr×Sp))(m:Str)(E:XK)(ta:TE)(t:TA):TE:=λσ H Q=>ta σ H λx H1=>∃a C dx fs sp,x=.ref a/\H1 a=some (.ins C dx fs)/\(C,sp)∈tab/\fs.lookup m=none/\t σ H1 λvs H2=>sp (x::vs) H2 Q E
def ail{pl:Sem Bool}{tab:List (Addr×Sp)}(he:PE X o ta)(T:XR X CX m tab)(hx:BW CX X E)(ha:PA X (e::es) t)
  (aa:starEach (e::es) X.env=(false,eval e X.env)::starEach es X.env:=by rfl) (hpl:(backTo pos (starEach es X.env)).any (·.1)=false:=by rfl)
  (ht:eval (.Call (.Attribute o m apos) (e::es) [] pos) X.env=(do
   let ov<-eval o X.env
   standAt apos.atName
   let(f,first)<-holding [ov] (getMethod ov m pl)
   callWith pos f first (backTo pos (starEach (e::es) X.env)) (backToKw pos (keywordEach [] X.env))):=by rfl):
  PE X (.Call (.Attribute o m apos) (e::es) [] pos) (Rz tab m E ta t):=by
 intro pins s σ H Q I h;refine zzO (pl:=pl) (thn (he pins s σ H _ I h) λu s1 ⟨y,H1,I1,rx,a,C,dx,fs,sp,ex,ea,z,l,q⟩=>?_) ht;subst ex;obtain rfl:u=Value.ref a:=rx;obtain⟨f,fd,ps,k,c,hm,F,hr,hb⟩:=T.get z;refine LQ I1 ea c hm l ?_;refine zzA (first:=[.ref a]) (h₀:=X.base) I.ok.mod.kin hm.kp (thn (ha pos pins s1 σ H1 _ I1 q) λus s2 ⟨vs,H2,I2,r,q2⟩=>⟨I2.kIn,?_⟩) aa hpl;exact Ua (us:=.ref a::us) (vs:=.ref a::vs) (dvs:=[]) (ds:=[]) F hr hb .nil hx I2 (.cons rfl r) (by rw[yk];exact q2)
def Zz{pl:Sem Bool}{tab:List (Addr×Sp)}(he:PE X o ta)(T:XR X CX m tab)(hx:BW CX X E)
  (ht:eval (.Call (.Attribute o m apos) [] [] pos) X.env=(do
   let ov<-eval o X.env
   standAt apos.atName
   let(f,first)<-holding [ov] (getMethod ov m pl)
   callWith pos f first (backTo pos (starEach [] X.env)) (backToKw pos (keywordEach [] X.env))):=by rfl):
  PE X (.Call (.Attribute o m apos) [] [] pos) (Rz tab m E ta Vw):=by
 intro pins s σ H Q I h;refine zzO (pl:=pl) (thn (he pins s σ H _ I h) λu s1 ⟨y,H1,I1,rx,a,C,dx,fs,sp,ex,ea,z,l,q⟩=>?_) ht;subst ex;obtain rfl:u=Value.ref a:=rx;obtain⟨f,fd,ps,k,c,hm,F,hr,hb⟩:=T.get z;refine LQ I1 ea c hm l ?_;exact PySem.W.callWith_K0 (first:=[.ref a]) I1.kIn hm.kp (Ua (us:=[.ref a]) (vs:=[.ref a]) (dvs:=[]) (ds:=[]) F hr hb .nil hx I1 (.cons rfl .nil) q)
variable{g:List Value->List Value->List Value}{gV:List V->List V->List V}
end
theorem Bm(f:Str)(v:V):∀{fs:List (Str×V)},(fs.map (·.1)).contains f=false->Fe f v fs=fs++[(f,v)]
 |[],_=>rfl
 |(g,x)::r,h=>by
  rw[zl,List.contains_cons]at h;have h1:¬g=f:=λe=>by rw[e]at h;simp at h
  have h2:(r.map (·.1)).contains f=false:=(Bool.or_eq_false_iff.mp h).2;show(if g=f then(g,v)::r else(g,x)::Fe f v r)=_;rw[zf h1,Bm f v h2];rfl
structure Rk(K:Fg_)(C:Addr):Prop where
 cl:Cls K C
 ha:PySem.W.findIn K (.ref C) "__class__" =some (some (.builtin "object.__class__"))
 hn:PySem.W.specialIn K (.builtin "object.__class__") "__get__" =some (some (.builtin "getset_descriptor.__get__"))
 htk:PySem.W.takesIn K (.builtin "object.__class__")=some true
 hm:PySem.W.mroIn K C (.type "object")=some true
def Rk.of{K:Fg_}{C a dx:Addr}{H:Hp}{fs:List (Str×V)}(z:Rk K C)(h:H a=some (.ins C dx fs)):Kv K H (.ref a) (.ref C):=.ins h z.cl z.ha z.hn z.htk z.hm
noncomputable def signs(x:Str):List V:=x.cps.toList.map λc=>V.str ⟨#[c]⟩
noncomputable def ald(x:Str):It:=⟨λi _=>i<x.cps.size,λi H v H'=>H'=H/\(signs x)[i]? =some v,λi _=>x.cps.size<=i⟩
def aiu{P:Program}{w:World}{K:Fg_}{tg:Expr}{ty:String}(ab:ty= "str_ascii_iterator" \/ty= "str_iterator") (it:Addr) (x:Str) (t:Tok):Turn P w K tg (ald x) [it] it (λi h=>h.IsStrIter it ty x t i) where
 mem:=by simp
 obj:=λi h st b hb=>by
  have e:b=it:=by simpa using hb
  subst e;obtain⟨o,e,c,d⟩:=st;exact⟨o,e,λv z=>by rw[d]at z;cases z⟩
 keep:=λi h h' st k=>by
  obtain⟨o,e,r⟩:=st;exact⟨o,k it (by simp) o e,r⟩
 item:=by
  intro X hP hw hK hc i pins s σ H E I hf st hg;subst hP hw hK;have hi:i<x.cps.size:=hg;have hx:x.cps[i]? =some x.cps[i]:=zzv hi
  have hs:(signs x)[i]? =some (.str ⟨#[x.cps[i]]⟩):=by
   unfold signs;rw[zo,yG,hx];rfl
  rcases ab with rfl|rfl
  ·refine wpAny_pyNext_ascii_item st hx λh' aa sb=>?_
   obtain⟨o,e,c,d⟩:=id aa;exact⟨_,rfl,WY (s:={s with heap:=h',toks:=s.toks+1}) e c d (by decide) ⟨.str ⟨#[x.cps[i]]⟩,H,I.turnedN hf λb o hb q=>(sb.2 b (by simpa using hb)).trans q,⟨_,rfl⟩,⟨rfl,hs⟩,aa,λb hb=>(hf b hb).1⟩⟩
  ·refine wpAny_pyNext_wide_item st hx λh' aa sb=>?_
   obtain⟨o,e,c,d⟩:=id aa;exact⟨_,rfl,WY (s:={s with heap:=h',toks:=s.toks+1}) e c d (by decide) ⟨.str ⟨#[x.cps[i]]⟩,H,I.turnedN hf λb o hb q=>(sb.2 b (by simpa using hb)).trans q,⟨_,rfl⟩,⟨rfl,hs⟩,aa,λb hb=>(hf b hb).1⟩⟩
 done:=by
  intro X hP hw hK hc i pins s σ H E I hf st hg;subst hP hw hK;have hx:x.cps[i]? =none:=Array.getElem?_eq_none hg;rcases ab with rfl|rfl
  ·exact wpAny_pyNext_ascii_end (I.ok.hd hc) st hx λh' eb=>⟨rfl,I.turnedN (t':=s.toks) hf λb o hb q=>eb b o (by simpa using hb) q⟩
  ·exact wpAny_pyNext_wide_end (I.ok.hd hc) st hx λh' eb=>⟨rfl,I.turnedN (t':=s.toks) hf λb o hb q=>eb b o (by simpa using hb) q⟩
 self:=λ_ _ _ _ _ st h=>by
  rcases ab with rfl|rfl
  ·exact wpAny_pyIter_striter_ascii st h
  ·exact wpAny_pyIter_striter_wide st h
section
variable{X:Cx}{K:Fg_}{tg:Expr}
def anF(tl:TE):TI:=λσ H R=>tl σ H λx H1=>∃z,x=.str z/\R (ald z) H1
def amu{l:Expr}{tl:TE}(hl:PE X l tl):PI X tg l (anF tl):=by
 intro pins s σ H R I h;refine thn (hl pins s σ H _ I h) λv s1 ⟨x,H1,I1,r1,q1⟩=>?_;obtain⟨z,e,q⟩:=q1;subst e;obtain⟨t,rfl⟩:=r1
 have ab:∀(ty:String)(aa:ty= "str_ascii_iterator" \/ty= "str_iterator"),PIE X pins σ tg R (.ref s1.heap.objs.size) {s1 with heap:=s1.heap.push {cls:=.type ty,data:=.fields #[.str z t,.int 0 0]}}:=λty aa=>by
  refine⟨s1.heap.objs.size,[s1.heap.objs.size],_,_,H1,rfl,I1.kept (t':=s1.toks) λb o e=>zd _ e,aiu aa _ z t,⟨_,zB _ rfl,rfl,rfl⟩,λb hb=>?_,q⟩;have e:b=s1.heap.objs.size:=by simpa using hb
  subst e;exact I1.fpOk (zm _) (I1.hok.fresh (zm _))
 cases ha:z.cps.all (·<128)
 ·exact wpAny_pyIter_wide ha (ab _ (.inr rfl))
 ·exact wpAny_pyIter_ascii ha (ab _ (.inl rfl))
variable{σ:St}{H:Hp}{R:It->Hp->Prop}{tl:TE}{cap:List (Option Nat)}{g:TG}{tt:TT}{te:TE}{Q:VK}{x:Str}
def ap_iStr:anF tl σ H R=tl σ H λx H1=>∃z,x=.str z/\R (ald z) H1:=rfl
def lU.str(Sσ:St->Prop)(p:V->Bool)(F:V->V)(h0:Sσ (rD σ cap))(hz:x.cps.size<=sizeLine)
  (hs:∀y∈signs x,∀(σ:St)(H5:Hp)(R1:St->VK)(R2:St->Hp->Prop),Sσ σ->Same H H5->(p y=true->∀q H6,Sσ q->Same H5 H6->R1 q (F y) H6)->(p y=false->∀q H6,Sσ q->Same H5 H6->R2 q H6)->
   g y σ H5 λq H4=>tt q H4 λb H5=>if b=true then te q H5 (R1 q)else R2 q H5)
  (k:∀D H',H D=Option.none->Same H H'->H' D=some (.lst (((signs x).filter p).map F))->Q (.ref D) H'):lU cap (ald x) g tt te σ H Q:=λD hD=>by
 have hl:(signs x).length=x.cps.size:=by simp[signs]
 refine Ep (xs:=signs x) (ald x) Sσ p F hD h0 (by lia) (λi y H' hy sm=>?_) (λH' sm=>?_) hs λH' s e=>k D H' hD s e
 ·have hi:i<(signs x).length:=(zk.mp hy).1
  exact⟨by show i<x.cps.size;lia,λz H2 hz=>⟨zy (hz.2.symm.trans hy),hz.1⟩⟩
 ·show x.cps.size<=_
  lia
def anr:R2:=λx y H Q=>∃i j,x=.str i/\y=.str j/\Q (.bl (!decide (j.cps.toList<i.cps.toList))) H
def QH:OpR X (compareOp .LtE) anr:=by
 intro pins s σ H x y v u Q I z ry h;obtain⟨i,j,rfl,rfl,q⟩:=h;obtain⟨t,rfl⟩:=z;obtain⟨t',rfl⟩:=ry;exact PySem.P.le_str ⟨.bl _,H,I,rfl,q⟩
def Tq:List V->Hp->VK->Prop:=λxs H Q=>∃a kvs,xs=[.ref a]/\Rd H a (.dK kvs)/\∀p,H p=none->Q (.ref p) (upd H p (.dK kvs))
def JH:nF X (.type "dict") Tq:=by
 intro pins s σ H xs us Q I r h;obtain⟨a,kvs,rfl,e,q⟩:=h;obtain⟨u,rfl,ru⟩:=vals1 r;cases ru;exact aaJ I e λp s' z I'=>⟨.ref p,_,I',rfl,q p z⟩
theorem ajz{o value:Expr}{f:Str}{ta tv:TE}{pos pos':Pos}(ha:PE X o ta)(q:PE X value tv)(z:swapsWith value (some (.Attribute o f pos')) pos.line X.env=pure false)(hK:X.K=K:=by rfl):PS X (.Assign [.Attribute o f pos'] value pos) (alg K ta tv f):=hK▸amw ha q z
variable{ta tv ty td tx:TE}{f:Str}{D:Ends}{C:Addr}{tab:List (Addr×Sp)}{m:Str}{E:XK}{t tk:TA}{sp:Sp}{dvs:List V}{gV:List V->List V->List V}
def ap_fldK:ala K ta f σ H Q=ta σ H λx H1=>∃a C dx fs v,x=.ref a/\H1 a=some (.ins C dx fs)/\Cls K C/\jt K C f/\fs.lookup f=some v/\Q v H1:=rfl
def ap_sFld:alg K ta tv f D σ H=tv σ H λy H1=>ta σ H1 λx H2=>∃a C dx fs,x=.ref a/\H2 a=some (.ins C dx fs)/\Cls K C/\jt K C f/\fs.length<1000/\D.nx σ (upd H2 a (.ins C dx (Fe f y fs))):=rfl
def ap_methD:Rz tab m E ta t σ H Q=ta σ H λx H1=>∃a C dx fs sp,x=.ref a/\H1 a=some (.ins C dx fs)/\(C,sp)∈tab/\fs.lookup m=none/\t σ H1 λvs H2=>sp (x::vs) H2 Q E:=rfl
def ap_make:alM C sp dvs E t σ H Q=t σ H λvs H1=>∀x dx,H1 x=none->H1 dx=none->dx≠x->sp (.ref x::(vs++dvs)) (upd (upd H1 dx (.own x)) x (.ins C dx [])) (λv H2=>v=.non/\Q (.ref x) H2) E:=rfl
def ap_dget2:ajm td ty tx σ H Q=td σ H λx H1=>∃a,x=.ref a/\IsD H1 a/\ty σ H1 λy H2=>tx σ H2 λz q=>∃o,Va q a y o/\Q (o.getD z) q:=rfl
def ap_dget:akY td ty σ H Q=td σ H λx H1=>ty σ H1 λy H2=>∃a v,x=.ref a/\Va H2 a y (some v)/\Q v H2:=rfl
def ap_dput:ajV td ty tv D σ H=tv σ H λv H1=>td σ H1 λx H2=>ty σ H2 λy z=>∃a q,x=.ref a/\amA z a y v q/\D.nx σ q:=rfl
def ap_dnewK:aiZ σ H Q=∀p,H p=none->Q (.ref p) (upd H p (.dK [])):=rfl
def ap_dpop1:Ys td ty σ H Q=td σ H λx H1=>∃a,x=.ref a/\IsD H1 a/\ty σ H1 λy H2=>∃kvs k v,H2 a=some (.dK kvs)/\y=kV k/\oM kvs k=some v/\Q v (upd H2 a (.dK (Eo kvs k))):=rfl
def ap_dictOf{p:Addr}:Tq [.ref p] H Q=∃kvs,Rd H p (.dK kvs)/\∀q,H q=none->Q (.ref q) (upd H q (.dK kvs)):=by simp[Tq]
def ap_leS{i j:Str}:anr (.str i) (.str j) H Q=Q (.bl (!decide (j.cps.toList<i.cps.toList))) H:=propext ⟨fun⟨i',j',z,e2,q⟩=>by cases z;cases e2;exact q,λq=>⟨i,j,rfl,rfl,q⟩⟩
def ap_rIsC{y:V}:akV K [y,.ref C] H Q=∃t k,Kv K H y t/\PySem.W.kitOne K t (.ref C)=some k/\Q (.bl k) H:=propext ⟨fun⟨q,C',t,k,e,r⟩=>by cases e;exact⟨t,k,r⟩,fun⟨t,k,r⟩=>⟨y,C,t,k,rfl,r⟩⟩
def ap_ixT{x y:V}:ajk K x y H Q=∃p xs i v,x=.ref p/\y=.int i/\SqT K H p xs/\atI xs i=some v/\Q v H:=rfl
def ap_ixS{x y:V}:anw x y H Q=∃z i c,x=.str z/\y=.int i/\z.length<=sizeLine/\atI z.cps.toList i=some c/\Q (.str ⟨#[c]⟩) H:=rfl
def ap_slT{x:V}{lo hi:Option Int}:amP K x lo hi H Q=∃a xs,x=.ref a/\SqT K H a xs/\¬(HT.sIx xs.length 0 lo=0/\HT.sIx xs.length xs.length hi=xs.length)/\∀p,H p=none->Q (.ref p) (upd H p (.tup (Ow xs lo hi))):=rfl
def ap_lenS{z:Str}:(fun(xs:List V)(H:Hp)(Q:VK)=>∃z,xs=[V.str z]/\z.length<=sizeLine/\Q (.int z.length) H) [.str z] H Q=(z.length<=sizeLine/\Q (.int z.length) H):=propext ⟨fun⟨q,e,r⟩=>by cases e;exact r,λr=>⟨z,rfl,r⟩⟩
end
open PySem.W
section
variable{α β:Type}{lt:Nat->Nat->Bool}{n:Nat}
def Kok(lt:Nat->Nat->Bool)(n:Nat)(R:α->Prop):KasT α->Prop
 |.ret a=>R a
 |.ask i j k=>i<n/\j<n/\Kok lt n R (k (lt i j))
theorem Kok.bind{R:α->Prop}{S:β->Prop}{f:α->KasT β}:∀{t:KasT α},Kok lt n R t->(∀a,R a->Kok lt n S (f a))->Kok lt n S (t.bind f)
 |.ret a,h,k=>k a h
 |.ask i j q,h,k=>⟨h.1,h.2.1,Kok.bind (t:=q (lt i j)) h.2.2 k⟩
theorem Kok.wp{R:α->Prop}{z:Nat->Nat->(Bool->Shared->Prop)->Shared->Prop}{s:Shared}{Q:α->Shared->Prop}(hc:∀i j (C:Bool->Shared->Prop),i<n->j<n->C (lt i j) s->z i j C s):
  ∀{t:KasT α},Kok lt n R t->(∀a,R a->Q a s)->t.kasWp z Q s
 |.ret a,h,k=>k a h
 |.ask i j q,h,k=>hc i j _ h.1 h.2.1 (Kok.wp hc (t:=q (lt i j)) h.2.2 k)
def Prm(n:Nat)(p:Array Nat):Prop:=p.toList.Perm (List.range n)
def Prm.ltn{p:Array Nat}(h:Prm n p)(hn:0<n)(i:Nat):p.getD i 0<n:=by
 by_cases hi:i<p.size
 ·have hm:p.getD i 0∈p.toList:=by simp[Array.getD,hi]
  exact yA.mp (h.mem_iff.mp hm)
 ·simp[Array.getD,hi,hn]
def Prm.rev{p:Array Nat}(h:Prm n p)(i j:Nat):Prm n (kas_rev p i j):=(zz5.mp (mirror_perm p i j _)).trans h
def Prm.bub{p:Array Nat}(h:Prm n p)(k d:Nat):Prm n (bubble p k d):=(zz5.mp (bubble_perm p k d)).trans h
theorem Tj{p:Array Nat}(h:Prm n p)(hn:0<n):∀f m,Kok lt n (λ_=>True) (kas_asc p f m)
 |0,_=>trivial
 |f+1,m=>⟨Prm.ltn h hn _,Prm.ltn h hn _,by
  dsimp only;by_cases q:lt (p.getD m 0) (p.getD (m - 1) 0)=true
  ·rw[zi q];trivial
  ·rw[zf q];exact Tj h hn f (m+1)⟩
theorem Hv(hn:0<n):∀f {p:Array Nat} m q,Prm n p->Kok lt n (λr:Array Nat×Nat×Nat=>Prm n r.1) (kas_desc f p m q)
 |0,_,_,_,h=>h
 |f+1,p,m,q,h=>⟨Prm.ltn h hn _,Prm.ltn h hn _,by
  dsimp only;by_cases hc:lt (p.getD m 0) (p.getD (m - 1) 0)=true
  ·rw[zi hc]
   by_cases z:q>0
   ·rw[zi z];exact Hv hn f _ _ (h.rev _ _)
   ·rw[zf z];exact Hv hn f _ _ h
  ·rw[zf hc]
   refine⟨Prm.ltn h hn _,Prm.ltn h hn _,?_⟩;dsimp only;by_cases hd:lt (p.getD (m - 1) 0) (p.getD m 0)=true
   ·rw[zi hd];exact h
   ·rw[zf hd];exact Hv hn f _ _ h⟩
def Vb{p:Array Nat}(h:Prm n p)(hn:0<n)(m r:Nat):Kok lt n (λr:Nat×Array Nat=>Prm n r.2) (kas_tail3 m r p):=
 Kok.bind (Tj (h.rev _ _) hn _ _) λ_ _=>h.rev 0 m
def Uv{p:Array Nat}(h:Prm n p)(hn:0<n)(m r:Nat):Kok lt n (λr:Nat×Array Nat=>Prm n r.2) (kas_descPart m r p):=
 Kok.bind (Hv hn _ _ _ h) λa ha=>by
  by_cases q:a.2.2>0
  ·rw[zi q];exact Vb (ha.rev _ _) hn _ _
  ·rw[zf q];exact Vb ha hn _ _
def Zm{p:Array Nat}(h:Prm n p)(hn:0<n)(r:Nat):Kok lt n (λr:Nat×Array Nat=>Prm n r.2) (kas_count r p):=
 Kok.bind (Tj h hn _ _) λm _=>by
  by_cases h1:(m==r)=true
  ·rw[zi h1];exact h
  ·rw[zf h1]
   by_cases h2:m>1
   ·rw[zi h2]
    refine⟨Prm.ltn h hn _,Prm.ltn h hn _,?_⟩;dsimp only;by_cases q:lt (p.getD 0 0) (p.getD (m - 1) 0)=true
    ·rw[zi q];exact h
    ·rw[zf q];exact Uv (h.rev _ _) hn _ _
   ·rw[zf h2];exact Uv h hn _ _
theorem JV{p:Array Nat}(h:Prm n p)(hn:0<n)(k:Nat):∀f l r,Kok lt n (λ_=>True) (kas_place p k f l r)
 |0,_,_=>trivial
 |f+1,l,r=>by
  show Kok lt n _ (if l>=r then _ else _);by_cases h1:l>=r
  ·rw[zi h1];trivial
  ·rw[zf h1]
   refine⟨Prm.ltn h hn _,Prm.ltn h hn _,?_⟩;dsimp only;by_cases q:lt (p.getD k 0) (p.getD ((l+r)/2) 0)=true
   ·rw[zi q];exact JV h hn k f _ _
   ·rw[zf q];exact JV h hn k f _ _
theorem Xy(hn:0<n):∀f {p:Array Nat} k,Prm n p->Kok lt n (Prm n) (kas_bin f p k)
 |0,_,_,h=>h
 |f+1,p,k,h=>Kok.bind (JV h hn k k 0 k) λl _=>Xy hn f _ (h.bub _ _)
def aaI(hn:0<n):Kok lt n (Prm n) (kas_sort n):=
 Kok.bind (Zm (p:=(List.range n).toArray) (by unfold Prm;simp) hn n) λa ha=>by
  by_cases h1:a.1<n
  ·rw[zi h1];exact Xy hn _ _ ha
  ·rw[zf h1];exact ha
end
section
variable{key:Nat->Int}{n:Nat}
def Up(key:Nat->Int)(p:Array Nat)(m:Nat):Prop:=∀a b,a<b->b<m->key (p.getD a 0)<key (p.getD b 0)
def Dn(key:Nat->Int)(p:Array Nat)(m:Nat):Prop:=∀a b,a<b->b<m->key (p.getD b 0)<key (p.getD a 0)
def wj(p:Array Nat)(k:Nat):p.getD k 0=(p[k]?).getD 0:=by
 by_cases h:k<p.size
 ·simp[Array.getD,h]
 ·simp[Array.getD,h]
theorem Prm.size{p:Array Nat}(h:Prm n p):p.size=n:=by
 have:=h.length_eq
 simpa using this
def Prm.unlike{p:Array Nat}(h:Prm n p)(hk:∀i j,i<n->j<n->key i=key j->i=j){a b:Nat}(ha:a<n)(hb:b<n)(aa:a≠b):key (p.getD a 0)≠key (p.getD b 0):=λe=>by
 have q:=h.size;have hn:0<n:=by lia
 have e1:=hk _ _ (h.ltn hn a) (h.ltn hn b) e;have z:p.toList.Nodup:=h.nodup_iff.mpr List.nodup_range
 have e2:p.toList[a]'(by simpa [q] using ha)=p.toList[b]'(by simpa [q] using hb):=by
  have q1:p.getD a 0=p[a]'(by lia):=by simp[Array.getD,q,ha]
  have q2:p.getD b 0=p[b]'(by lia):=by simp[Array.getD,q,hb]
  rw[q1,q2]at e1
  simpa using e1
 exact aa ((yyi z).mp e2)
def YK{p:Array Nat}{i j:Nat}(q:j<=p.size)(k:Nat):(kas_rev p i j).getD k 0=if i<=k/\k<j then p.getD (i+j - 1 - k) 0 else p.getD k 0:=by
 unfold kas_rev;rw[wj,getElem?_mirror_all q];by_cases c:i<=k/\k<j
 ·rw[zi c,zi c,wj]
 ·rw[zf c,zf c,wj]
def Zr{p:Array Nat}{k l:Nat}(hk:k<p.size)(hl:l<=k)(a:Nat):(bubble p k (k - l)).getD a 0=if a=l then p.getD k 0 else if l<a/\a<=k then p.getD (a - 1) 0 else p.getD a 0:=by
 rw[wj,getElem?_bubble hk (k - l) (by lia),show k - (k - l)=l by lia];by_cases q:a=l
 ·rw[zi q,zi q,wj]
 ·rw[zf q,zf q]
  by_cases z:l<a/\a<=k
  ·rw[zi z,zi z,wj]
  ·rw[zf z,zf z,wj]
theorem Kok.mono{α:Type}{lt:Nat->Nat->Bool}{R S:α->Prop}(h:∀a,R a->S a):∀{t:KasT α},Kok lt n R t->Kok lt n S t
 |.ret a,q=>h a q
 |.ask i j k,q=>⟨q.1,q.2.1,Kok.mono h q.2.2⟩
def Up.snoc{p:Array Nat}{m:Nat}(h:Up key p m)(h1:1<=m)(z:key (p.getD (m - 1) 0)<key (p.getD m 0)):Up key p (m+1):=λa b q hb=>by
 by_cases e:b=m
 ·subst e
  by_cases e2:a=b - 1
  ·subst e2;exact z
  ·exact yyn (h a (b - 1) (by lia) (by lia)) z
 ·exact h a b q (by lia)
def Dn.snoc{p:Array Nat}{m:Nat}(h:Dn key p m)(h1:1<=m)(z:key (p.getD m 0)<key (p.getD (m - 1) 0)):Dn key p (m+1):=λa b q hb=>by
 by_cases e:b=m
 ·subst e
  by_cases e2:a=b - 1
  ·subst e2;exact z
  ·exact yyn z (h a (b - 1) (by lia) (by lia))
 ·exact h a b q (by lia)
theorem ajG(hk:∀i j,i<n->j<n->key i=key j->i=j){p:Array Nat}(h:Prm n p):∀f m,1<=m->m+f<=n->Up key p m->
  Kok (λi j=>decide (key i<key j)) n (λr=>m<=r/\r<=m+f/\Up key p r/\(r<m+f->key (p.getD r 0)<key (p.getD (r - 1) 0))) (kas_asc p f m)
 |0,m,h1,h2,hu=>⟨zm _,zm _,hu,λz=>absurd z (by lia)⟩
 |f+1,m,h1,h2,hu=>⟨Prm.ltn h (by lia) _,Prm.ltn h (by lia) _,by
  dsimp only;by_cases q:key (p.getD m 0)<key (p.getD (m - 1) 0)
  ·rw[zi (by simpa using q)]
   exact⟨zm _,by lia,hu,λ_=>q⟩
  ·rw[zf (by simpa using q)]
   have aa:=h.unlike hk (show m - 1<n by lia) (show m<n by lia) (by lia);refine Kok.mono (λr hr=>?_) (ajG hk h f (m+1) (by lia) (by lia) (hu.snoc h1 (by lia)));exact⟨by lia,by lia,hr.2.2.1,λz=>hr.2.2.2 (by lia)⟩⟩
theorem ajl(hk:∀i j,i<n->j<n->key i=key j->i=j){p:Array Nat}(h:Prm n p):∀f m,1<=m->m+f<=n->Dn key p m->
  Kok (λi j=>decide (key i<key j)) n (λr:Array Nat×Nat×Nat=>r.1=p/\r.2.2=0/\m<=r.2.1/\r.2.1<=m+f/\Dn key p r.2.1) (kas_desc f p m 0)
 |0,m,h1,h2,hu=>⟨rfl,rfl,zm _,zm _,hu⟩
 |f+1,m,h1,h2,hu=>⟨Prm.ltn h (by lia) _,Prm.ltn h (by lia) _,by
  dsimp only;by_cases z:key (p.getD m 0)<key (p.getD (m - 1) 0)
  ·rw[zi (by simpa using z),zf (by lia)]
   refine Kok.mono (λr q=>?_) (ajl hk h f (m+1) (by lia) (by lia) (hu.snoc h1 z));exact⟨q.1,q.2.1,by lia,by lia,q.2.2.2.2⟩
  ·rw[zf (by simpa using z)]
   have aa:=h.unlike hk (show m - 1<n by lia) (show m<n by lia) (by lia);refine⟨Prm.ltn h (by lia) _,Prm.ltn h (by lia) _,?_⟩;dsimp only;rw[zi (zH (by lia))];exact⟨rfl,rfl,zm _,by show m<=_;lia,hu⟩⟩
def alr(hk:∀i j,i<n->j<n->key i=key j->i=j){p:Array Nat}(h:Prm n p){m:Nat}(h1:1<=m)(h2:m<=n)(hd:Dn key p m):
  Kok (λi j=>decide (key i<key j)) n (λr:Nat×Array Nat=>Prm n r.2/\1<=r.1/\r.1<=n/\Up key r.2 r.1) (kas_tail3 m n p):=by
 have hs:=h.size
 have q:Up key (kas_rev p 0 m) m:=λa b z hb=>by
  rw[YK (by lia),YK (by lia),zi (by lia),zi (by lia)];exact hd _ _ (by lia) (by lia)
 refine Kok.bind (ajG hk (h.rev 0 m) (n - m) m h1 (by lia) q) λr hr=>?_;exact⟨h.rev 0 m,by show 1<=r;lia,by show r<=n;lia,hr.2.2.1⟩
def amg(z:∀i j,i<n->j<n->key i=key j->i=j){p:Array Nat}(h:Prm n p){m:Nat}(h2:m+1<=n)(hd:Dn key p (m+1)):
  Kok (λi j=>decide (key i<key j)) n (λr:Nat×Array Nat=>Prm n r.2/\1<=r.1/\r.1<=n/\Up key r.2 r.1) (kas_descPart m n p):=by
 refine Kok.bind (ajl z h (n - (m+1)) (m+1) (by lia) (by lia) hd) λr hr=>?_;obtain⟨r1,r2,r3⟩:=r;obtain⟨e1,q,e3,e4,e5⟩:=hr;dsimp only at e1 q e3 e4 e5⊢;subst e1 q;rw[zf (by lia)];exact alr z h (by lia) (by lia) e5
def akD(z:∀i j,i<n->j<n->key i=key j->i=j){p:Array Nat}(h:Prm n p)(hn:1<=n):
  Kok (λi j=>decide (key i<key j)) n (λr:Nat×Array Nat=>Prm n r.2/\1<=r.1/\r.1<=n/\Up key r.2 r.1) (kas_count n p):=by
 refine Kok.bind (ajG z h (n - 1) 1 (by lia) (by lia) λa b h1 h2=>absurd h1 (by lia)) λm hm=>?_;obtain⟨m1,m2,q,m4⟩:=hm;by_cases h1:(m==n)=true
 ·rw[zi h1]
  exact⟨h,m1,by show m<=n;lia,q⟩
 ·rw[zf h1]
  have h1:m≠n:=by simpa using h1
  by_cases h2:m>1
  ·rw[zi h2]
   refine⟨Prm.ltn h (by lia) _,Prm.ltn h (by lia) _,?_⟩;dsimp only;have:=q 0 (m - 1) (by lia) (by lia);rw[zi (by simpa using this)];exact⟨h,m1,by show m<=n;lia,q⟩
  ·rw[zf h2]
   have e:m=1:=by lia
   subst e
   exact amg z h (by lia) λa b aa hb=>by
    have:a=0:=by lia
    have:b=1:=by lia
    subst a b;exact m4 (by lia)
theorem SN{p:Array Nat}(h:Prm n p){k:Nat}(q:k<n)(hu:Up key p k):∀f l r,l<=r->r<=k->r - l<=f->(∀a,a<l->key (p.getD a 0)<=key (p.getD k 0))->(∀a,r<=a->a<k->key (p.getD k 0)<key (p.getD a 0))->
  Kok (λi j=>decide (key i<key j)) n (λl'=>l'<=k/\(∀a,a<l'->key (p.getD a 0)<=key (p.getD k 0))/\(∀a,l'<=a->a<k->key (p.getD k 0)<key (p.getD a 0))) (kas_place p k f l r)
 |0,l,r,h1,h2,h3,ha,hb=>⟨by lia,ha,λa q1 z=>hb a (by lia) z⟩
 |f+1,l,r,h1,h2,h3,ha,hb=>by
  show Kok _ n _ (if l>=r then _ else _);by_cases hc:l>=r
  ·rw[zi hc]
   exact⟨by lia,ha,λa q1 z=>hb a (by lia) z⟩
  ·rw[zf hc]
   refine⟨Prm.ltn h (by lia) _,Prm.ltn h (by lia) _,?_⟩;dsimp only;by_cases hd:key (p.getD k 0)<key (p.getD ((l+r)/2) 0)
   ·rw[zi (by simpa using hd)]
    refine SN h q hu f _ _ (by lia) (by lia) (by lia) ha λa q1 z=>?_;by_cases e:a=(l+r)/2
    ·rw[e];exact hd
    ·exact yyn hd (hu _ _ (by lia) z)
   ·rw[zf (by simpa using hd)]
    refine SN h q hu f _ _ (by lia) (by lia) (by lia) (λa q1=>?_) hb;by_cases e:a=(l+r)/2
    ·rw[e];lia
    ·have:=hu a ((l+r)/2) (by lia) (by lia)
     lia
theorem alH(hk:∀i j,i<n->j<n->key i=key j->i=j):∀f {p:Array Nat} k,Prm n p->k+f=n->Up key p k->Kok (λi j=>decide (key i<key j)) n (λp'=>Prm n p'/\Up key p' n) (kas_bin f p k)
 |0,p,k,h,e,hu=>⟨h,by rwa [<-e]⟩
 |f+1,p,k,h,e,hu=>by
  refine Kok.bind (SN h (by lia) hu k 0 k (by lia) (by lia) (by lia) (λa q=>absurd q (by lia)) (λa q1 q2=>absurd q2 (by lia))) λl hl=>?_;obtain⟨l1,l2,l3⟩:=hl;have hs:=h.size;refine alH hk f (k+1) (h.bub _ _) (by lia) λa b z hb=>?_
  have aa:∀x,x<l->key (p.getD x 0)<key (p.getD k 0):=λx hx=>by
   have:=l2 x hx;have:=h.unlike hk (show x<n by lia) (show k<n by lia) (by lia);lia
  rw[Zr (by lia) l1,Zr (by lia) l1];by_cases c1:a=l
  ·rw[zi c1,zf (by lia),zi (by lia)]
   exact l3 _ (by lia) (by lia)
  ·rw[zf c1]
   by_cases c2:b=l
   ·rw[zf (by lia),zi c2]
    exact aa _ (by lia)
   ·rw[zf c2]
    by_cases c3:l<a
    ·rw[zi (by lia),zi (by lia)]
     exact hu _ _ (by lia) (by lia)
    ·rw[zf (by lia)]
     by_cases c4:l<b
     ·rw[zi (by lia)]
      by_cases c5:b - 1=a
      ·lia
      ·exact hu _ _ (by lia) (by lia)
     ·rw[zf (by lia)]
      exact hu _ _ z (by lia)
def alW(q:∀i j,i<n->j<n->key i=key j->i=j)(hn:1<=n):Kok (λi j=>decide (key i<key j)) n (λp=>Prm n p/\Up key p n) (kas_sort n):=
 Kok.bind (akD q (p:=(List.range n).toArray) (by unfold Prm;simp) hn) λa ha=>by
  obtain⟨a1,a2,a3,a4⟩:=ha;by_cases h1:a.1<n
  ·rw[zi h1,show max a.1 1=a.1 by lia]
   exact alH q _ _ a1 (by lia) a4
  ·rw[zf h1]
   have e:a.1=n:=by lia
   exact⟨a1,by rwa [e]at a4⟩
end
section
variable{n:Nat}{lt:Nat->Nat->Bool}
theorem Ug{p q:Nat->Bool}:∀{l:List Nat}{i:Nat},i∈l->(∀x∈l,p x=true->q x=true)->p i=false->q i=true->l.countP p<l.countP q
 |[],_,h,_,_,_=>by cases h
 |a::l,i,h,hpq,hp,hq=>by
  rw[List.countP_cons,List.countP_cons];have hm:l.countP p<=l.countP q:=List.countP_mono_left λx hx=>hpq x (zn _ hx);rcases zx.mp h with rfl|h
  ·rw[hp,hq]
   simp;lia
  ·have ih:=Ug h (λx hx=>hpq x (zn _ hx)) hp hq
   have:=hpq a zg
   cases z:p a with
   |true=>rw[this z];simp;exact ih
   |false=>simp;split<;>lia
theorem Kok.congr{α:Type}{z:Nat->Nat->Bool}{R:α->Prop}(h:∀i j,i<n->j<n->lt i j=z i j):∀{t:KasT α},Kok lt n R t->Kok z n R t
 |.ret a,q=>q
 |.ask i j k,q=>⟨q.1,q.2.1,h i j q.1 q.2.1▸Kok.congr h q.2.2⟩
def ajJ(ae:∀i,i<n->lt i i=false)(tr:∀i j k,i<n->j<n->k<n->lt i j=true->lt j k=true->lt i k=true)(ab:∀i j,i<n->j<n->i≠j->lt i j=true\/lt j i=true)(hn:1<=n):
  Kok lt n (λp=>Prm n p/\∀a b,a<b->b<n->lt (p.getD a 0) (p.getD b 0)=true) (kas_sort n):=by
 obtain⟨key,aa⟩:∃key:Nat->Int,∀i,key i=(((List.range n).countP λx=>lt x i:Nat):Int):=⟨_,λ_=>rfl⟩
 have up:∀i j,i<n->j<n->lt i j=true->key i<key j:=λi j hi hj h=>by
  rw[aa,aa];have:=Ug (p:=λx=>lt x i) (q:=λx=>lt x j) (l:=List.range n) (i:=i) (yA.mpr hi) (λx hx ad=>tr x i j (yA.mp hx) hi hj ad h) (ae i hi) h;lia
 have eq:∀i j,i<n->j<n->lt i j=decide (key i<key j):=λi j hi hj=>by
  cases h:lt i j with
  |true=>exact(zH (up i j hi hj h)).symm
  |false=>
   refine(zJ λz=>?_).symm;by_cases e:i=j
   ·rw[e]at z;lia
   ·rcases ab i j hi hj e with t|t
    ·rw[h]at t;cases t
    ·have:=up j i hj hi t
     lia
 have hk:∀i j,i<n->j<n->key i=key j->i=j:=λi j hi hj e=>by
  by_cases h:i=j
  ·exact h
  ·rcases ab i j hi hj h with t|t
   ·have:=up i j hi hj t;lia
   ·have:=up j i hj hi t;lia
 refine Kok.congr (lt:=λi j=>decide (key i<key j)) (λi j hi hj=>(eq i j hi hj).symm) (Kok.mono (λp hp=>⟨hp.1,λa b ac hb=>?_⟩) (alW hk hn));rw[eq _ _ (hp.1.ltn (by lia) _) (hp.1.ltn (by lia) _)];exact zH (hp.2 a b ac hb)
end
noncomputable def xH:List Int->List Int->Bool->Bool
 |x::xs,y::ys,f=>if x=y then xH xs ys f else decide (x<y)
 |[],_,f=>f
 |_::_,[],f=>f
theorem Og:∀a:List Int,xH a a false=false
 |[]=>rfl
 |x::a=>by rw[xH,zi rfl,Og a]
theorem Zk:∀{a b c:List Int},a.length=b.length->b.length=c.length->xH a b false=true->xH b c false=true->xH a c false=true
 |[],_,_,_,_,h,_=>by simp[xH]at h
 |x::a,[],_,h,_,_,_=>by simp at h
 |x::a,y::b,[],_,h,_,_=>by simp at h
 |x::a,y::b,z::c,h1,h2,h,h'=>by
  rw[xH]at h h'⊢;by_cases e1:x=y
  ·subst e1
   rw[zi rfl]at h;by_cases q:x=z
   ·subst q
    rw[zi rfl]at h'⊢;exact Zk (by simpa using h1) (by simpa using h2) h h'
   ·rw[zf q]at h'⊢
    exact h'
  ·rw[zf e1]at h
   have h:=yf h;by_cases q:y=z
   ·subst q
    rw[zf e1];exact zH h
   ·rw[zf q]at h'
    have h':=yf h';rw[zf (by lia)];exact zH (by lia)
theorem Yk:∀{a b:List Int},a.length=b.length->a≠b->xH a b false=true\/xH b a false=true
 |[],[],_,h=>(h rfl).elim
 |[],y::b,h,_=>by simp at h
 |x::a,[],h,_=>by simp at h
 |x::a,y::b,h,hne=>by
  rw[xH,xH];by_cases e:x=y
  ·subst e
   rw[zi rfl,zi rfl];exact Yk (by simpa using h) λz=>hne (by rw[z])
  ·rw[zf e,zf (Ne.symm e)]
   rcases Int.lt_or_gt_of_ne e with q|q
   ·exact .inl (zH q)
   ·exact .inr (zH q)
section
variable{P:Program}{w:World}{A:Around}{E:Value->Shared->Prop}{s:Shared}
theorem Nv{b f:Bool}{Q:Bool->Shared->Prop}:∀{ms ns:List Int}{xs ys:List Value},Vals (ms.map V.int) xs->Vals (ns.map V.int) ys->∀i,Q (xH ms ns f) s->KatLex P w A b f Q (xs.zip ys) i s
 |[],_,_,_,r,_,i,h=>by
  cases r;exact h
 |m::ms,[],_,_,r,r',i,h=>by
  cases r';rw[List.zip_nil_right];exact h
 |m::ms,n::ns,_,_,r,r',i,h=>by
  rw[zl]at r r'
  cases r with
  |cons a1 a2=>
  cases r' with
  |cons b1 b2=>
  obtain⟨t,rfl⟩:=a1;obtain⟨t',rfl⟩:=b1;rw[zz6];refine kat_cons (wpAny_eqBool_int ?_);by_cases e:m=n
  ·rw[show(m==n)=true by simp[e]]
   refine kat_yes (Nv a2 b2 (i+1) ?_)
   rwa [xH,zi e]at h
  ·rw[show(m==n)=false by simp[e]]
   refine kat_no ?_;rw[xH,zf e]at h
   cases q:(b && i==0)with
   |true=>exact oneLt_int h
   |false=>exact kat_one _ _ (lt_int h)
theorem Tz{h:Heap}:∀{us:List Value},(∀v∈us,∃b o xs m i t,v=.ref b/\h.get? b=some o/\o.cls=.type "tuple" /\o.data=.seq xs m/\xs[0]? =some (Value.int i t))->
  ∃fs,KatTups h us fs/\fs.length=us.length/\∀f∈fs,∃i t,f=Value.int i t
 |[],_=>⟨[],trivial,rfl,λ_ h=>by cases h⟩
 |v::us,hv=>by
  obtain⟨b,o,xs,m,i,t,rfl,h1,h2,h3,h4⟩:=hv v (.head _);obtain⟨fs,k1,q,z⟩:=Tz (us:=us) λv hm=>hv v (.tail _ hm);exact⟨_::fs,KatTups.cons h1 h2 h3 h4 k1,by rw[zG,zG,q],λf hf=>(zx.mp hf).elim (λe=>⟨i,t,e⟩) (z f)⟩
def Yy{G:Array Nat->Prop}{a:Addr}{us:List Value}{n:Nat}{R:PySem.Fin->Shared->Prop}(fs:Nat->List Int)(aa:s.heap.get? a=some (seqObj "list" us.toArray n)) (ag:us.length<64)
  (hT:∀i,i<us.length->fs i≠[]/\∃b o xs m,us.getD i Value.none=.ref b/\b≠a/\s.heap.get? b=some o/\o.cls=.type "tuple" /\o.data=.seq xs m/\Vals ((fs i).map V.int) xs.toList)
  (hG:0<us.length->Kok (λi j=>xH (fs i) (fs j) (decide ((fs i).length<(fs j).length))) us.length G (kas_sort us.length)) (am:us.length<2->G (List.range us.length).toArray) (ai:∀p,G p->Prm us.length p)
  (ah:∀p:Array Nat,G p->R (.done (.ret .none)) {s with heap:=sortedHeap s.heap a us (List.toArray (p.toList.map λi=>us.getD i Value.none))}):
  wpAny (model P w) A (Builtin.«list.sort» ⟨[.ref a],[]⟩) R E s:=by
 have aq:a<s.heap.objs.size:=zv aa;have ae:us.toArray.size=us.length:=by simp
 rw[list_sort_plain];refine ze (listItems_at aa rfl ?_);refine ze (listUpdate_at aa rfl ?_ (by rw[ae,zw];lia) (zM _));obtain⟨e1,ac⟩:∃e1,(s.heap.update a (Obj.mapSeq λ_=> #[])).get? a=some (seqObj "list" #[] e1):=⟨_,get?_update_seq aa (λ_=> #[])⟩;refine ze (seqEpoch_at ac rfl ?_);refine ze (wpAny_newTuple ?_ (by show us.length<=_;rw[zw];lia));refine ze (zzy ?_ (zM _));refine yb ?_
 have keep:∀b o,b≠a->s.heap.get? b=some o->(((s.heap.update a (Obj.mapSeq λ_=> #[])).push (seqObj "tuple" us.toArray 0)).push (seqObj "list" #[] 0)).get? b=some o:=λb o hb e=>
  zd _ (zd _ ((ym _ _ _ _ hb).trans e))
 have q:(((s.heap.update a (Obj.mapSeq λ_=> #[])).push (seqObj "tuple" us.toArray 0)).push (seqObj "list" #[] 0)).get? a=some (seqObj "list" #[] e1):=zd _ (zd _ ac);show wpAny (model P w) A _ R E {s with heap:=((s.heap.update a (Obj.mapSeq λ_=> #[])).push (seqObj "tuple" us.toArray 0)).push (seqObj "list" #[] 0)};dsimp only;by_cases h2:us.toArray.size<2
 ·rw[zi h2,zi h2]
  refine ze (zA ?_);rw[StateT.run_pure];refine ze (zA ?_);dsimp only
  have ad:=kat_snds (ks:=us) (vs:=us) rfl (st:=SortSt.mk' general' (us.toArray.zip us.toArray) #[] 7 none) (p:=(List.range us.length).toArray) (by
   have e:=kas_range (us.toArray.zip us.toArray);rw[show(us.toArray.zip us.toArray).size=us.length by simp]at e;exact e.symm)
  rw[ad];refine ze (seqEpoch_at q rfl ?_);refine ze (listUpdate_at q rfl ?_ (zM _) (by rw[zw];simp;lia));simp only[bne_self_eq_false,yp,if_false];exact zA (ah _ (am (by rw[<-ae];exact h2)))
 ·rw[zf h2,zf h2]
  have hn:0<us.length:=by lia
  obtain ⟨ff,k1,k2,k3⟩:=Tz (h:=((s.heap.update a (Obj.mapSeq λ_=> #[])).push (seqObj "tuple" us.toArray 0)).push (seqObj "list" #[] 0)) (us:=us) (by
   intro v hv;obtain⟨i,hi,e⟩:=z9 hv;obtain⟨g0,b,o,xs,m,g1,g2,g3,g4,g5,g6⟩:=hT i hi;have e2:us.getD i Value.none=v:=by rw[<-e];simp[hi]
   cases hq:fs i with
   |nil=>exact(g0 hq).elim
   |cons z zs=>
    rw[hq,zl]at g6
    cases hx:xs.toList with
    |nil=>rw[hx]at g6;cases g6
    |cons u ur=>
     rw[hx]at g6
     cases g6 with
     |cons r1 r2=>
     obtain⟨t,rfl⟩:=r1;refine⟨b,o,xs,m,z,t,e2.symm.trans g1,keep _ _ g2 g3,g4,g5,?_⟩;rw[<-yG,hx];rfl)
  refine ze (kat_kind k1 (by lia) (λv hv=>?_) (T:=.type "int") rfl ?_)
  ·obtain⟨i,t,rfl⟩:=k3 v hv
   exact Looks.of_pure rfl
  refine ze (yi (kat_run (ks:=us) (vs:=us) (Q:=λab s'=>∃p:Array Nat,arrOf ab=p.map (kas_item (us.toArray.zip us.toArray))/\failedOf ab=none/\G p/\s'={s with heap:=((s.heap.update a (Obj.mapSeq λ_=> #[])).push (seqObj "tuple" us.toArray 0)).push (seqObj "list" #[] 0)})
   (G:=λp s'=>G p/\s'={s with heap:=((s.heap.update a (Obj.mapSeq λ_=> #[])).push (seqObj "tuple" us.toArray 0)).push (seqObj "list" #[] 0)}) rfl (by lia) ag (λp ab s' a1 a2 a3 a4=>⟨p,a2,a3,a4.1,a4.2⟩)
   (Kok.wp (lt:=λi j=>xH (fs i) (fs j) (decide ((fs i).length<(fs j).length))) (λi j C hi hj hC=>?_) (hG hn) λp hp=>⟨hp,rfl⟩)) ?_ λ_ _ e=>e)
  ·obtain⟨_,b,o,xs,m,g1,g2,g3,g4,g5,g6⟩:=hT i hi
   obtain⟨_,b',o',al,m',aj,ao,ap,ar,an,af⟩:=hT j hj;show wpAny _ _ (keyLt' _ (us.getD i Value.none) (us.getD j Value.none)) _ _ _;rw[g1,aj];refine kat_lt (keep _ _ g2 g3) g5 (keep _ _ ao ap) an (Nv g6 af 0 ?_);have z1:(fs i).length=xs.size:=by simpa using g6.length
   have z2:(fs j).length=al.size:=by simpa using af.length
   rw[<-z1,<-z2];exact hC
  ·rintro⟨⟨⟩,ab⟩ s'⟨p,ad,hf,hp,rfl⟩
   dsimp only;rw[kat_snds (ks:=us) (vs:=us) rfl ad];have ak:p.toList.length=us.length:=by rw[(ai p hp).length_eq];simp
   refine ze (seqEpoch_at q rfl ?_);refine ze (listUpdate_at q rfl ?_ (zM _) (by rw[zw];simp at ak⊢;lia));rw[hf];simp only[bne_self_eq_false,yp,if_false];exact zA (ah p hp)
end
section
variable{X:Cx}
def Vf(K:Fg_):List V->Hp->VK->Prop:=λxs H Q=>∃(a:Addr)(ys:List V)(ts:V->List Int),xs=[.ref a]/\SqL K H a ys/\ys.length<64/\(∀y∈ys,ts y≠[]/\∃b,y=.ref b/\SqT K H b ((ts y).map V.int))/\
 ∀p zs,H p=none->zs.Perm ys->(∀m,(∀y∈ys,(ts y).length=m)->(ys.map ts).Nodup->zs.Pairwise λy z=>xH (ts y) (ts z) false=true)->Q (.ref p) (upd H p (.lst zs))
theorem Ea:∀{ys:List V}{us:List Value}{i:Nat},Vals ys us->i<ys.length->RelV (ys.getD i .non) (us.getD i Value.none)
 |_,_,_,.nil,h=>by simp at h
 |_,_,0,.cons r _,_=>r
 |_,_,i+1,.cons _ t,h=>by
  simp only[List.getD_cons_succ];exact Ea t (by simpa using h)
theorem Jy{ys:List V}{us:List Value}(r:Vals ys us):∀{l:List Nat},(∀i∈l,i<ys.length)->Vals (l.map λi=>ys.getD i .non) (l.map λi=>us.getD i Value.none)
 |[],_=> .nil
 |i::l,h=> .cons (Ea r (h i (.head _))) (Jy r λj q=>h j (.tail _ q))
def Kq(ys:List V):((List.range ys.length).map λi=>ys.getD i V.non)=ys:=by
 refine zzt (by simp) λi h1 h2=>?_;simp[h2]
def Yu(ys:List V)(ts:V->List Int)(p:Array Nat):Prop:=∀m,(∀y∈ys,(ts y).length=m)->(ys.map ts).Nodup->∀a b,a<b->b<ys.length->xH (ts (ys.getD (p.getD a 0) .non)) (ts (ys.getD (p.getD b 0) .non)) false=true
def XS{ys:List V}{q:V->List Int}(hn:1<=ys.length):Kok (λi j=>xH (q (ys.getD i .non)) (q (ys.getD j .non)) (decide ((q (ys.getD i .non)).length<(q (ys.getD j .non)).length))) ys.length (λp=>Prm ys.length p/\Yu ys q p) (kas_sort ys.length):=by
 by_cases h:∃m,(∀y∈ys,(q y).length=m)/\(ys.map q).Nodup
 ·obtain⟨m,h1,h2⟩:=h
  have hm:∀i,i<ys.length->(q (ys.getD i .non)).length=m:=λi hi=>h1 _ (by simp[hi])
  have hf:∀i j,i<ys.length->j<ys.length->decide ((q (ys.getD i .non)).length<(q (ys.getD j .non)).length)=false:=λi j hi z=>by
   rw[hm i hi,hm j z];simp
  refine Kok.mono (λp hp=>⟨hp.1,λ_ _ _ a b aa hb=>?_⟩) (ajJ (n:=ys.length) (lt:=λi j=>xH (q (ys.getD i .non)) (q (ys.getD j .non)) (decide ((q (ys.getD i .non)).length<(q (ys.getD j .non)).length))) (λi hi=>?_) (λi j k hi z hk h h'=>?_) (λi j hi z ab=>?_) hn)
  ·rw[hf i i hi hi];exact Og _
  ·rw[hf i j hi z]at h
   rw[hf j k z hk]at h';rw[hf i k hi hk];exact Zk ((hm i hi).trans (hm j z).symm) ((hm j z).trans (hm k hk).symm) h h'
  ·rw[hf i j hi z,hf j i z hi]
   refine Yk ((hm i hi).trans (hm j z).symm) λe=>ab ?_;refine(yye (by rw[za];exact hi) h2).mp ?_;rw[zo,zo,zq hi,zq z];have q1:ys.getD i .non=ys[i]:=by simp[hi]
   have q2:ys.getD j .non=ys[j]:=by simp[z]
   rw[q1,q2]at e;exact congrArg some e
  ·have:=hp.2 a b aa hb
   rwa [hf _ _ (hp.1.ltn (by lia) _) (hp.1.ltn (by lia) _)]at this
 ·exact Kok.mono (λp hp=>⟨hp,λm h1 h2=>absurd ⟨m,h1,h2⟩ h⟩) (aaI hn)
def VJ:nF X (.builtin "sorted") (Vf X.K):=by
 intro pins s σ H xs us Q I r h;obtain⟨a,ys,ts,rfl,hq,ai,hT,q⟩:=h;obtain⟨u,rfl,rx⟩:=vals1 r;cases rx;obtain⟨its,rv,pl,hz⟩:=I.list hq;have z:ys.length=its.length:=rv.length;have hl:=pl.isList;refine Calls.call_function_entry kind_sorted plain_sorted entry_sorted (args_sorted1 _) ?_;unfold Builtin.«sorted»;refine ze (m:=checkCount "sorted" 1 1 _) (zA ?_);refine ze (collect_list hl ?_ (by lia));refine ze (zzy ?_ (by lia));have hsz:((s.heap.push (seqObj "list" #[] 0)).update s.heap.objs.size (Obj.mapSeq (·++its.toArray))).objs.size=s.heap.objs.size+1:=by rw[yyl,size_push']
 have ab:(((s.heap.push (seqObj "list" #[] 0)).update s.heap.objs.size (Obj.mapSeq (·++its.toArray))).push (seqObj "list" its.toArray 0)).get? (s.heap.objs.size+1)=some (seqObj "list" its.toArray 0):=by rw[<-hsz];exact zB _ rfl
 have keep:∀b o,s.heap.get? b=some o->(((s.heap.push (seqObj "list" #[] 0)).update s.heap.objs.size (Obj.mapSeq (·++its.toArray))).push (seqObj "list" its.toArray 0)).get? b=some o:=λb o e=>
  zd _ ((ym _ _ _ _ (zE (zv e))).trans (zd _ e))
 show wpAny _ _ _ _ _ {s with heap:=((s.heap.push (seqObj "list" #[] 0)).update s.heap.objs.size (Obj.mapSeq (·++its.toArray))).push (seqObj "list" its.toArray 0)};rw[hsz];refine ze (yb (zzd slot_list_sort ⟨_,ab,rfl⟩ entry_list_sort (Yy (G:=λp=>Prm its.length p/\Yu ys ts p) (λi=>ts (ys.getD i .non)) ab (by lia) (λi hi=>?_) (λhn=>z▸XS (by lia)) (λh2=>⟨zz7 _,λm _ _ a b ag hb=>absurd ag (by lia)⟩) (λp hp=>hp.1) λp ae=>⟨_,rfl,zA ⟨_,rfl,?_⟩⟩) (args_list_sort _)))
 ·have hm:ys.getD i .non∈ys:=by
   have:i<ys.length:=by lia
   simp[this]
  obtain⟨g0,b,e,hb⟩:=hT _ hm;obtain⟨tv,rt,it,aj⟩:=I.tuple hb;obtain⟨o,ho,hc,m,hd⟩:=it;refine⟨g0,b,o,tv.toArray,m,?_,?_,keep _ _ ho,hc,hd,rt⟩
  ·have:=Ea rv (i:=i) (by lia)
   rw[e]at this;exact this
  ·exact zE (zzH (zv ho))
 ·obtain⟨hp,ac⟩:=ae
  have ah:∀i∈p.toList,i<ys.length:=λi hi=>by
   have:=yA.mp (hp.mem_iff.mp hi);lia
  have aa:p.toList.length=its.length:=by rw[hp.length_eq];simp
  have af:(p.toList.map λi=>ys.getD i V.non).Perm ys:=by
   have:=hp.map λi=>ys.getD i V.non;rw[<-z,Kq]at this;exact this
  have kp:∀b o,s.heap.get? b=some o->(sortedAll s.heap its (List.toArray (p.toList.map λi=>its.getD i Value.none))).get? b=some o:=λb o e=>by
   have hb:b≠s.heap.objs.size+1:=zE (zzH (zv e));exact(ym _ _ _ _ hb).trans (zd _ (zd _ ((ym _ _ _ _ hb).trans (keep b o e))))
  obtain ⟨c,hc⟩:∃c,(sortedAll s.heap its (List.toArray (p.toList.map λi=>its.getD i Value.none))).get? (s.heap.objs.size+1)=some (seqObj "list" (List.toArray (p.toList.map λi=>its.getD i Value.none)) c):=
   ⟨_,get?_update_seq (zd _ (zd _ (get?_update_seq ab (λ_=> #[])))) _⟩
  refine⟨.ref (s.heap.objs.size+1),_,I.laid (t':=s.toks) kp (yt _) (show mO X.prog X.w _ _ _ (.lst (p.toList.map λi=>ys.getD i V.non))from⟨?_,_,c,Jy rv ah,hc⟩),rfl,q _ _ (I.hok.fresh (yt _)) af λm h1 h2=>?_⟩
  rotate_left
  ·refine yh.mpr λi j hi hj ad=>?_
   rw[za,aa,<-z]at hj;have h3:=ac m h1 h2 i j ad hj;have hs:p.size=ys.length:=by rw[<-z8,aa,z]
   have e1:p.getD i 0=p.toList[i]'(by rw[z8];lia):=by simp[Array.getD,show i<p.size by lia]
   have e2:p.getD j 0=p.toList[j]'(by rw[z8];lia):=by simp[Array.getD,show j<p.size by lia]
   rw[e1,e2]at h3;rw[ye,ye];exact h3
  rw[za,aa,zw];lia
def Tt{K:Fg_}(q:X.K=K:=by rfl):nF X (.builtin "sorted") (Vf K):=q▸VJ
def ap_rSortT{K:Fg_}{a:Addr}{H:Hp}{Q:VK}:Vf K [.ref a] H Q=∃(ys:List V)(ts:V->List Int),SqL K H a ys/\ys.length<64/\(∀y∈ys,ts y≠[]/\∃b,y=.ref b/\SqT K H b ((ts y).map V.int))/\
  ∀p zs,H p=none->zs.Perm ys->(∀m,(∀y∈ys,(ts y).length=m)->(ys.map ts).Nodup->zs.Pairwise λy z=>xH (ts y) (ts z) false=true)->Q (.ref p) (upd H p (.lst zs)):=by simp[Vf]
end
def But(D:Addr)(H H':Hp):Prop:=∀b u,b≠D->H b=some u->H' b=some u
section
variable{K:Fg_}{a:Addr}{xs:List V}{g:TG}{te:TE}{σ:St}{H:Hp}{Q:VK}{cap:List (Option Nat)}
def lU.listE(Sσ:St->Prop)(F:Nat->V->Hp->Prop)(hS:SqL K H a xs)(h0:Sσ (rD σ cap))(hz:xs.length<=sizeLine)
  (hs:∀D i x,xs[i]? =some x->∀(σ:St)(H5:Hp)(R:St->VK),Sσ σ->Same H H5->H D=Option.none->(∃acc,H5 D=some (.lst acc))->(∀v z H6,Sσ z->Same H5 H6->(∀H',But D H6 H'->F i v H')->R z v H6)->
   g x σ H5 λz H4=>te z H4 (R z))
  (k:∀D H' acc,H D=Option.none->Same H H'->H' D=some (.lst acc)->acc.length=xs.length->(∀i v,acc[i]? =some v->F i v H')->Q (.ref D) H'):lU cap (Itl K a) g Lw te σ H Q:=by
 intro D hD;refine⟨λi m acc σ H2=>m=xs.length - i/\i<=xs.length/\Sσ σ/\Same H H2/\acc.length=i/\∀j v,acc[j]? =some v->∀H',But D H2 H'->F j v H',⟨xs.length,rfl,zM _,h0,ji hD,rfl,λj v e=>by simp at e⟩,?_⟩;rintro i m acc σ1 H2 ⟨rfl,hi,hσ,sm,ac,hF⟩ hA;by_cases ab:i<xs.length
 ·have hx:xs[i]? =some xs[i]:=by simp[ab]
  refine .inr ⟨⟨xs,xs[i],sm.seq hS,hx⟩,λy H3 hy=>?_⟩;obtain rfl:H3=H2:=hy.1;obtain rfl:y=xs[i]:=zy ((hy.2 xs (sm.seq hS)).symm.trans hx);simp only[ap_noIf,if_true];refine hs D i _ hx σ1 H3 _ hσ sm hD ⟨_,hA⟩ λv z H6 ad s6 ah=>?_;have af:=s6 _ _ hA;refine⟨acc,af,by lia,xs.length - (i+1),by lia,rfl,ab,ad,(sm.trans s6).upd hD,by rw[zC,ac];rfl,λj u hj H' hb=>?_⟩;have aa:But D H6 H':=λb o q e=>hb b o q ((jn q).trans e);by_cases ag:j<acc.length
  ·rw[ya ag]at hj
   exact hF j u hj H' λb o q e=>aa b o q (s6 _ _ e)
  ·rw[z4 (by lia)]at hj
   have ae:j - acc.length=0:=by
    have:=(zk.mp hj).1;simp at this;lia
   rw[ae]at hj;cases hj;obtain rfl:j=i:=by lia
   exact ah H' aa
 ·obtain rfl:i=xs.length:=by lia
  exact .inl ⟨⟨xs,sm.seq hS,zm _⟩,k D H2 acc hD sm hA ac λj v e=>hF j v e H2 λb o _ e=>e⟩
end
structure Mk0(K:Fg_)(C:Addr):Prop where
 makes:PySem.W.makesIn K C=true
 init:PySem.W.findIn K (.ref C) "__init__" =some (some (.builtin "object.__init__"))
 kp:PySem.W.keepIn K (.ref C)=true
def alE(C:Addr):TE:=λ_ H Q=>∀x dx,H x=none->H dx=none->dx≠x->Q (.ref x) (upd (upd H dx (.own x)) x (.ins C dx []))
def ap_new0{C:Addr}{σ:St}{H:Hp}{Q:VK}:alE C σ H Q=∀x dx,H x=none->H dx=none->dx≠x->Q (.ref x) (upd (upd H dx (.own x)) x (.ins C dx [])):=rfl
def Oi{X:Cx}{C:Addr}{x:Str}{p pos:Pos}(M:Mk0 X.K C)(hg:Gl X x)(hm:X.mg x=some (.ref C))(z:(x==("__debug__" :Str))=false:=by decide):PE X (.Call (.Name x p) [] [] pos) (alE C):=by
 intro pins s σ H Q I h;refine yq (Iv I hg hm ?_ z);have q:=h (s.heap.objs.size+1) s.heap.objs.size (I.hok.fresh (yt _)) (I.hok.fresh (zm _)) (zE (zzR _));have I2:=Inv.made (C:=C) I;have Y:=yyj (M:=model X.prog X.w) I.kIn M.makes;refine PySem.W.callWith_K0 I.kIn M.kp (yyo (Yg I.kIn M.makes M.init (λself=>PySem.W.Looks.of_pure (PySem.W.oi_bind self)) ?_))
 have g1:((s.heap.push PySem.W.emptyDict).push (PySem.W.instObj C s.heap.objs.size)).get? (s.heap.objs.size+1)=some (PySem.W.instObj C s.heap.objs.size):=by
  have e:=zB (s.heap.push PySem.W.emptyDict) (o:=PySem.W.instObj C s.heap.objs.size) rfl;rw[size_push']at e;exact e
 have t1:PySem.W.Looks (model X.prog X.w) ((s.heap.push PySem.W.emptyDict).push (PySem.W.instObj C s.heap.objs.size)) (typeOf (.ref (s.heap.objs.size+1))) (.ref C):=(PySem.W.Looks.ld g1).andThen .now;have t2:PySem.W.Looks (model X.prog X.w) ((s.heap.push PySem.W.emptyDict).push (PySem.W.instObj C s.heap.objs.size)) (isInstance (.ref (s.heap.objs.size+1)) (.type "object")) true:=t1.andThen (Y.top.keeps λb o e=>zd _ (zd _ e));refine codeAny_call_builtin PySem.W.oi_plain PySem.W.entry_oi (@PySem.W.check_slot (model X.prog X.w) _ _ _ "object.__init__" "object" "__init__" (.ref (s.heap.objs.size+1)) [] [] _ PySem.W.oi_kind PySem.W.oi_split t2 (PySem.W.oi_args _) ?_);rw[PySem.W.oi_run];exact zA ⟨rfl,.ref (s.heap.objs.size+1),_,I2,rfl,q⟩
section
variable{K:Fg_}{a b:Addr}{xs ys:List V}{g:TG}{te:TE}{σ:St}{H:Hp}{Q:VK}{cap:List (Option Nat)}
def lU.zipE(Sσ:St->Prop)(F:Nat->V->Hp->Prop)(hS:SqL K H a xs)(ac:SqL K H b ys)(aa:xs.length=ys.length)(h0:Sσ (rD σ cap))(hz:xs.length<=sizeLine)
  (hs:∀D i x y,xs[i]? =some x->ys[i]? =some y->∀(σ:St)(H5:Hp)(p:Addr)(R:St->VK),Sσ σ->Same H H5->H D=Option.none->(∃acc,H5 D=some (.lst acc))->H5 p=Option.none->
   (∀v σ4 H6,Sσ σ4->Same (upd H5 p (.tup [x,y])) H6->(∀H',But D H6 H'->F i v H')->R σ4 v H6)->g (.ref p) σ (upd H5 p (.tup [x,y])) λσ4 H4=>te σ4 H4 (R σ4))
  (k:∀D H' acc,H D=Option.none->Same H H'->H' D=some (.lst acc)->acc.length=xs.length->(∀i v,acc[i]? =some v->F i v H')->Q (.ref D) H'):lU cap (Itz K a b) g Lw te σ H Q:=by
 intro D hD;refine⟨λi m acc σ H2=>m=xs.length - i/\i<=xs.length/\Sσ σ/\Same H H2/\acc.length=i/\∀j v,acc[j]? =some v->∀H',But D H2 H'->F j v H',⟨xs.length,rfl,zM _,h0,ji hD,rfl,λj v e=>by simp at e⟩,?_⟩;rintro i m acc σ1 H2 ⟨rfl,hi,hσ,sm,ae,hF⟩ hA;by_cases q:i<xs.length
 ·have hx:xs[i]? =some xs[i]:=by simp[q]
  have hy:ys[i]? =some (ys[i]'(aa▸q)):=by simp[aa▸q]
  refine .inr ⟨⟨xs,ys,_,_,sm.seq hS,sm.seq ac,hx,hy⟩,λv H3 hv=>?_⟩;obtain⟨p,x,y,hp,rfl,rfl,e1,e2⟩:=hv;have e1:=e1 xs (sm.seq hS);have e2:=e2 ys (sm.seq ac);simp only[ap_noIf,if_true];refine hs D i x y e1 e2 σ1 H2 p _ hσ sm hD ⟨_,hA⟩ hp λv σ4 H6 af s6 aj=>?_;have ab:=(ji (o:=.tup [x,y]) hp).trans s6;have ah:=ab _ _ hA;refine⟨acc,ah,by lia,xs.length - (i+1),by lia,rfl,q,af,(sm.trans ab).upd hD,by rw[zC,ae];rfl,λj u hj H' hb=>?_⟩;have ad:But D H6 H':=λb o z e=>hb b o z ((jn z).trans e);by_cases ai:j<acc.length
  ·rw[ya ai]at hj
   exact hF j u hj H' λb o z e=>ad b o z (ab _ _ e)
  ·rw[z4 (by lia)]at hj
   have ag:j - acc.length=0:=by
    have:=(zk.mp hj).1;simp at this;lia
   rw[ag]at hj;cases hj;obtain rfl:j=i:=by lia
   exact aj H' ad
 ·obtain rfl:i=xs.length:=by lia
  exact .inl ⟨⟨xs,ys,sm.seq hS,sm.seq ac,.inl (zm _)⟩,k D H2 acc hD sm hA ae λj v e=>hF j v e H2 λb o _ e=>e⟩
end
end L2
namespace PySem
open PySem.Spec PyProof.Rows
def QF:typeLookup (.type "list") "keys" =pure none:=by rw[typeLookup_type,builtinLookup_eq_fast];kernel_rfl
section
variable{prog:Program}{w:World}{A:Around}{E:Value->Shared->Prop}{a:Addr}{xs:Array Value}{k:Nat}{s:Shared}
def aku{Q:Option Value->Shared->Prop}{sl:Array (Option Value)}(hx:s.heap.get? a=some {cls:=.type "list",dict:=none,data:=.seq xs k,slots:=sl}) (hA:A.handled=none)
  (hq:∀h' tk,(∀b u,s.heap.get? b=some u->h'.get? b=some u)->Q none {s with heap:=h',toks:=tk}):wpAny (model prog w) A (getAttr? (.ref a) "keys") Q E s:=by
 obtain⟨hp,g,d,tk,os⟩:=s;have hT:∀q,(⟨hp,g,d,q,os⟩:Shared).TypeIs (.ref a) "list" :=λ_=>⟨_,hx,rfl⟩;have f1:=sub_AttributeError;have f3:=F.slot_list_getattribute.lookup;have f4:=F.slot_list_getattribute.bind (.ref a);have f5:=am_list_getattr_none;unfold getAttr? getAttrBy? getAttrBy
 repeat (any_goals (first|assumption|exact hT _|((with_reducible show wpAny _ _ (call (Value.builtin "list.__getattribute__") _ _) _ _ _);refine zzT F.slot_list_getattribute (hT _) am_entry_list_getattribute (F.args_list_getattribute_2 _ _) (meets_getattribute_miss_list a xs k sl "keys" _ QF (by decide+kernel) (by rw[zw];decide+kernel)) ⟨hx,hA,λh' q e z=>?_⟩)|wp_step))
 obtain⟨t1,u1,hE⟩:=z.there;show wpAny _ _ (getattributeRaised _ _ _ _ _ _ _) _ _ _;unfold getattributeRaised
 repeat (any_goals (first|assumption|wp_step))
 exact hq _ _ z.keeps
end
end PySem
namespace L2
open PySem PySem.Spec PyProof.Rows
variable{A:Around}{E:Value->Shared->Prop}{H:Hp}{K:Fg_}{P:Program}{Q:VK}{a b d it l:Addr}{e:Expr}{ep i:Nat}{es:Array DictEntry}{its:List Value}{kpos p pos:Pos}{kvs:List (Key×V)}{o:Obj}{s:Shared}{t:TA}{td tl:TE}{u:Value}{w:World}{α β:Type}{σ:St}
def Qm:entryFor table "dict.update.loop" =some Builtin.«dict.update.loop»:=entryFor_of_tree (by kernel_rfl)
section
variable{P:Program}{w:World}{A:Around}{E:Value->Shared->Prop}
abbrev ajC(ps:List (Key×Value×Value)):List (Key×Value):=ps.foldl (λa p=>stored a p.1 p.2.2) []
def Wn(kvs:List (Key×Value))(k:Key)(v:Value):(stored kvs k v).length<=kvs.length+1:=by
 unfold stored;split
 ·simp
 ·simp
def Vg(ps:List (Key×Value×Value)):(ajC ps).length<=ps.length:=by
 have:∀(ps:List (Key×Value×Value))(a:List (Key×Value)),(ps.foldl (λa p=>stored a p.1 p.2.2) a).length<=a.length+ps.length:=by
  intro ps
  induction ps with
  |nil=>intro a;exact zm _
  |cons p ps ih=>
   intro a;have h1:=ih (stored a p.1 p.2.2);have h2:=Wn a p.1 p.2.2;rw[yO,zG];lia
 simpa using this ps []
def Wh{ps:List (Key×Value×Value)}{R:Result->Shared->Prop}{s₀:Shared}(hA:A.handled=none)(ah:ps.length=its.length)(hz:its.length<=1000)(z:d≠it)(ae:d≠l)(ad:it≠l)
  (hl:s₀.heap.IsList l its.toArray) (hp:∀(i:Nat) p,ps[i]? =some p->∃b,its[i]? =some (.ref b)/\b≠d/\b≠it/\IsTup s₀.heap b #[p.2.1,p.2.2]/\(jU P w).is p.1 p.2.1=true)
  (hR:∀h' tk,(∀b u,b≠d->b≠it->s₀.heap.get? b=some u->h'.get? b=some u)->h'.DictOf (jU P w) d (ajC ps)->R (.ok (.ret .none)) {s₀ with heap:=h',toks:=tk}):
  ∀(m j:Nat) (h:Heap) (tk:Nat) (t:Tok),j+m=its.length->(∀b u,b≠d->b≠it->s₀.heap.get? b=some u->h.get? b=some u)->h.IsListIter it l j->h.DictOf (jU P w) d (ajC (ps.take j))->
   codeAny (model P w) A (.builtin "dict.update.loop" ⟨[.ref d,.ref it,.int j t,.none],[]⟩) R {s₀ with heap:=h,toks:=tk}:=by
 intro m
 induction m with
 |zero=>
  intro j h tk t hj hk hi hd;refine codeAny_builtin Qm ?_;unfold Builtin.«dict.update.loop»;dsimp only
  have aa:h.IsList l its.toArray:=by
   obtain⟨ol,e1,e2⟩:=hl;exact⟨ol,hk l ol ae.symm ad.symm e1,e2⟩
  refine ze (zzQ (by exact hA) hi aa (by simp;lia) λh' eb=>?_);refine ze (m:=Builtin.Dict.addKeywords d []) ?_;unfold Builtin.Dict.addKeywords;refine zA (zA (hR h' tk (λb u n1 n2 e=>eb b u n2 (hk b u n1 n2 e)) ?_));obtain⟨od,es,ep,h1,h2⟩:=hd;rw[z3 (by lia)]at h2;exact⟨od,es,ep,eb d od z h1,h2⟩
 |succ m ih=>
  intro j h tk t hj hk hi hd;refine codeAny_builtin Qm ?_;unfold Builtin.«dict.update.loop»;dsimp only
  have aa:h.IsList l its.toArray:=by
   obtain⟨ol,e1,e2⟩:=hl;exact⟨ol,hk l ol ae.symm ad.symm e1,e2⟩
  have ab:ps[j]? =some (ps[j]'(by lia)):=by simp
  obtain⟨b,e1,n1,n2,ht,q⟩:=hp j _ ab;generalize ps[j]'(by lia)=p at ab ht q;refine ze (zzL hi aa (x:=.ref b) (by simpa using e1) λh' af sb=>?_);obtain⟨ot,t1,t2,t3,t4⟩:=ht;have ht':h'.get? b=some ot:=(sb.2 b n2).trans (hk b ot n1 n2 t1);have hT:({s₀ with heap:=h',toks:=tk}:Shared).TypeIs (.ref b) "tuple" :=⟨_,ht',t2⟩;dsimp only;refine ze (yb (ze (zzr ?_)));unfold Builtin.Dict.pairItems;refine ze (yyp hT ?_);rw[zi (by decide)];unfold seqItems?;refine ze (ze (wpAny_load ht' ?_));rw[t4];refine zA (zA ?_);dsimp only[Option.getD_some];refine yb (wpAny_dictSet_pairs (kvs:=ajC (ps.take j)) q ?_ (λh2 ag ac=>?_) ?_)
  ·obtain⟨od,es,ep,q1,q2⟩:=hd
   exact⟨od,es,ep,(sb.2 d z).trans q1,q2⟩
  ·refine zA ⟨Code.quiet_builtin _ (by decide+kernel),?_⟩
   refine ih (j+1) h2 (tk+1) 0 (by lia) (λb u m1 m2 e=>(ac.2 b m1).trans ((sb.2 b m2).trans (hk b u m1 m2 e))) ?_ ?_
   ·obtain⟨oi,q1,q2⟩:=af
    exact⟨oi,(ac.2 it z.symm).trans q1,q2⟩
   ·have e:ps.take (j+1)=ps.take j++[p]:=by rw[zK,ab];rfl
    rw[ajC,e,List.foldl_append];exact ag
  ·have:=Vg (ps.take j)
   rw[zT]at this;rw[zw];lia
end
section
variable{X:Cx}
theorem PQ{α β:Type}{Pr:α->β->Prop}:∀{ys:List α},(∀y∈ys,∃p,Pr y p)->∃ps,Paired Pr ys ps
 |[],_=>⟨[],.nil⟩
 |y::ys,h=>by
  obtain⟨p,hp⟩:=h y zg;obtain⟨ps,q⟩:=PQ (ys:=ys) λz hz=>h z (zn _ hz);exact⟨p::ps,.cons hp q⟩
theorem vg{α β:Type}{Pr:α->β->Prop}:∀{ys:List α}{ps:List β}{i:Nat}{p:β},Paired Pr ys ps->ps[i]? =some p->∃y,ys[i]? =some y/\Pr y p
 |_,_,_,_,.nil,h=>by simp at h
 |_,_,0,_,.cons r _,h=>by cases h;exact⟨_,rfl,r⟩
 |_,_,i+1,_,.cons _ t,h=>vg (i:=i) t h
noncomputable def Nk(kf:V->Key)(vf:V->V)(ys:List V):List (Key×V):=ys.foldl (λa y=>putK a (kf y) (vf y)) []
theorem Xh{kf:V->Key}{z:V->V}{Pr:V->Key×Value×Value->Prop}(q:∀y p,Pr y p->p.1=kf y/\RelV (z y) p.2.2):∀{ys:List V}{ps:List (Key×Value×Value)}{a:List (Key×V)}{b:List (Key×Value)},Paired Pr ys ps->KV a b->
  KV (ys.foldl (λa y=>putK a (kf y) (z y)) a) (ps.foldl (λa p=>stored a p.1 p.2.2) b)
 |_,_,_,_,.nil,h=>h
 |y::ys,p::ps,a,b,.cons r t,h=>by
  obtain⟨e1,e2⟩:=q y p r;rw[yO,yO,e1];exact Xh q t (h.put (kf y) e2)
def Bs(K:Fg_):List V->Hp->VK->Prop:=λxs H Q=>∃(a:Addr)(ys:List V)(kf:V->Key)(vf:V->V),xs=[.ref a]/\SqL K H a ys/\ys.length<=1000/\(∀y∈ys,∃b,y=.ref b/\SqT K H b [kV (kf y),vf y])/\
 ∀p,H p=none->Q (.ref p) (upd H p (.dK (Nk kf vf ys)))
def Lr(hc:X.calm=true):nF X (.type "dict") (Bs X.K):=by
 intro pins s σ H xs us Q I r h;obtain⟨l,ys,kf,vf,rfl,hq,ap,hP,q⟩:=h;obtain⟨u,rfl,rx⟩:=vals1 r;cases rx;obtain⟨its,rv,pl,hz⟩:=I.list hq;have ak:ys.length=its.length:=rv.length;have hl:=pl.isList
 obtain ⟨ps,ae⟩:=PQ (Pr:=fun(y:V)(p:Key×Value×Value)=>p.1=kf y/\RelV (vf y) p.2.2/\∃b,y=.ref b/\IsTup s.heap b #[p.2.1,p.2.2]/\(jU X.prog X.w).is p.1 p.2.1=true) (ys:=ys) λy hy=>by
  obtain⟨b,rfl,hb⟩:=hP y hy;obtain⟨tv,rt,it,ar⟩:=I.tuple hb
  cases rt with
  |cons r1 rt=>cases rt with
   |cons r2 rt=>
    cases rt;exact⟨(kf (.ref b),_,_),rfl,r2,b,rfl,it,Ou r1⟩
 have aj:ps.length=its.length:=by rw[<-ak];exact(z7 ae).symm
 obtain⟨⟨oc,od,oo,aq⟩,nl,g1,g2,g3,g4⟩:=id pl;simp only at g2 g3 g4;subst g2 g3 g4;have af:l<s.heap.objs.size:=zv g1;refine callType_codes (Q₁:=λob s1=>ob=.ref s.heap.objs.size/\s1={s with heap:=s.heap.push {cls:=.type "dict",data:=.dict #[]}}) F.kt_called_dict (F.kt_typeCall_dict_1 _) F.entry_dict_init (kt_code_dict_new _ ⟨rfl,rfl⟩) ?_;rintro ob s1 ⟨rfl,rfl⟩;have ad:(s.heap.push {cls:=.type "dict",data:=.dict #[]}).DictOf (jU X.prog X.w) s.heap.objs.size []:=Heap.DictOf.new s.heap;refine⟨ad.typeIs,F.args_dict_init_2 _ _,?_⟩;unfold Builtin.«dict.__init__» Builtin.Dict.selfAndRest;refine ze (ze (wpAny_notOrdered_dict ad.typeIs ?_));show wpAny _ _ (pure (s.heap.objs.size,[Value.ref l])) _ _ _;refine zA ?_;show wpAny _ _ (Builtin.Dict.updateFrom "dict.__init__" s.heap.objs.size (.ref l) [] .none) _ _ _;have ac:∀b o,s.heap.get? b=some o->(s.heap.push {cls:=.type "dict",data:=.dict #[]}).get? b=some o:=λb o e=>zd _ e;have hT:({s with heap:=s.heap.push {cls:=.type "dict",data:=.dict #[]}}:Shared).TypeIs (.ref l) "list" :=⟨_,ac _ _ g1,rfl⟩;unfold Builtin.Dict.updateFrom;refine ze (yyp hT ?_);rw[zi (by decide)];refine ze (aku (ac _ _ g1) (by exact I.ok.hd hc) λh1 ag ah=>?_);have z:∀b o,s.heap.get? b=some o->h1.get? b=some o:=λb o e=>ah b o (ac b o e);have am:h1.IsList l its.toArray:=⟨_,z _ _ g1,rfl,_,rfl⟩;obtain⟨o0,ao,al,q1,q2⟩:=ad;have q1':=ah _ _ q1;have ab:s.heap.objs.size<h1.objs.size:=zv q1';rw[zi (show(none:Option Value).isNone=true from rfl)];refine ze (wpAny_rule (ze (yN am (zA ⟨Code.quiet_builtin _ (by decide+kernel),?_⟩))));have aa:∀b o,h1.get? b=some o->(h1.push {cls:=.type "list_iterator",data:=.fields #[.ref l,.int 0 0]}).get? b=some o:=λb o e=>zd _ e
 refine Wh (A:=X.A.in1) (s₀:={s with heap:=h1.push {cls:=.type "list_iterator",data:=.fields #[.ref l,.int 0 0]},toks:=ag}) (its:=its) (ps:=ps) (d:=s.heap.objs.size) (it:=h1.objs.size) (l:=l) (by exact I.ok.hd hc) aj (by lia) (zE ab) (yz af) (yz (zz3 af ab))
  ⟨_,aa _ _ (z _ _ g1),rfl,_,rfl⟩ (λi p hi=>?_) (λh' tk kp hD=>⟨rfl,?_⟩) its.length 0 _ ag 0 (by lia) (λb o _ _ e=>e) ⟨_,zB _ rfl,rfl,rfl⟩ ⟨o0,ao,al,aa _ _ q1',q2⟩
 ·obtain⟨y,hy,e1,e2,b,rfl,ht,hk⟩:=vg ae hi
  obtain⟨ot,t1,t2⟩:=ht;obtain⟨v,hv,rr⟩:=rv.get hy;cases rr;have hb:b<s.heap.objs.size:=zv t1;exact⟨b,hv,zE hb,zE (zz3 hb ab),⟨ot,aa _ _ (z _ _ t1),t2⟩,hk⟩
 ·have ai:KV (Nk kf vf ys) (ajC ps):=Xh (λy p h=>⟨h.1,h.2.1⟩) ae .nil
  have an:(Nk kf vf ys).length<=sizeLine:=by
   have e1:(Nk kf vf ys).length=(ajC ps).length:=z7 ai;have e2:=Vg ps;rw[e1,zw];lia
  exact⟨.ref s.heap.objs.size,_,I.laid (a:=s.heap.objs.size) (o:=.dK (Nk kf vf ys)) (t':=tk) (λb o e=>kp b o (zE (zv e)) (zE (zz3 (zv e) ab)) (aa _ _ (z b o e))) (zm _) (Qq an (beq_eq_false_iff_ne.mpr (Ne.symm (zE I.big))) ai hD),rfl,q _ (I.hok.fresh (zm _))⟩
end
noncomputable def Ba(v a:Addr):HO:=.ext λh=>h.IsValuesView v a
noncomputable def Itv(a:Addr)(o:Obj)(kvs:List (Key×V)):It:=⟨λi H=>H a=some (.frz o (.dK kvs))/\i<kvs.length,λi H x H'=>H'=H/\(kvs.map (·.2))[i]? =some x,λi H=>H a=some (.frz o (.dK kvs))/\kvs.length<=i⟩
def aio:entryFor table "dict_valueiterator.__iter__" =some Builtin.«dict_keyiterator.__iter__»:=entryFor_alias (id':= "dict_keyiterator.__iter__") (by kernel_rfl) (by decide+kernel) (by decide+kernel) (by kernel_rfl)
def YF{n:Nat}{Q:Value->Shared->Prop}(q:s.heap.IsValIter it d i n ep)(h:Q (.ref it) s):wpAny (model P w) A (pyIter (.ref it)) Q E s:=by
 refine yyf q.typeIs F.slot_dict_valueiterator_iter (zzd F.slot_dict_valueiterator_iter q.typeIs aio ?_ (F.args_dict_valueiterator_iter_1 _));show wpAny _ _ (ret (.ref it)) _ _ s;exact zA ⟨_,rfl, "dict_valueiterator",_,q.typeIs,F.slot_dict_valueiterator_next.lookup,h⟩
def Mj{X:Cx}{pins:List (Addr×Obj)}(I:Inv X pins σ H s)(e:H a=some (.frz o (.dK kvs)))(q:o.data=.dict es ep):
  ∃vs,KV kvs vs/\s.heap.DictAt (jU X.prog X.w) a vs ep:=by
 obtain⟨h0,_,_,vs,rel,o',ab,aa,q1,q2,z,q4⟩:=(show mO X.prog X.w H s.heap a (.frz o (.dK kvs))from I.hok a _ e);rw[h0]at q1;cases q1;rw[q]at z;cases z;exact⟨vs,rel,o,es,h0,q2,q,q4⟩
def Yi{tg:Expr}(aa:o.data=.dict es ep):Turn P w K tg (Itv a o kvs) [it] it (λi h=>h.IsValIter it a i kvs.length ep) where
 mem:=by simp
 obj:=λi h st b hb=>by
  obtain rfl:b=it:=by simpa using hb
  obtain⟨oi,e,c,dd⟩:=st;exact⟨oi,e,λv z=>by rw[dd]at z;cases z⟩
 keep:=λi h h' st k=>let⟨oi,e,r⟩:=st;⟨oi,k it (by simp) oi e,r⟩
 item:=by
  intro X hP hw hK hc i pins s σ H E I hf st hg;subst hP hw hK;obtain⟨ac,ae⟩:=hg;obtain⟨vs,rel,ab⟩:=Mj I ac aa;have q:kvs.length=vs.length:=z7 rel;obtain⟨f0,f1,f2,f3,f4,f5⟩:=hf it (by simp);have hx:vs[i]? =some (vs[i]'(by lia)):=by simp
  obtain⟨p,hp,e1,e2⟩:=vg rel hx;rw[q]at st;refine wpAny_pyNext_values_item st ab (k:=(vs[i]'(by lia)).1) (v:=(vs[i]'(by lia)).2) hx λh' ad sb=>?_;have I1:Inv X pins σ H {s with heap:=h'}:=I.turned (t':=s.toks) (λb o hb e=>(sb.2 b hb).trans e) f0 f1 f3 f4 f5;obtain⟨oi,e,c,dd⟩:=id ad;rw[<-q]at ad;exact⟨_,rfl,WY (s:={s with heap:=h'}) e c dd (by decide) ⟨p.2,H,I1,e2,⟨rfl,by rw[zo,hp];rfl⟩,ad,λb hb=>(hf b hb).1⟩⟩
 done:=by
  intro X hP hw hK hc i pins s σ H E I hf st hg;subst hP hw hK;obtain⟨ac,ae⟩:=hg;obtain⟨vs,rel,ab⟩:=Mj I ac aa;have q:kvs.length=vs.length:=z7 rel;obtain⟨f0,f1,f2,f3,f4,f5⟩:=hf it (by simp);rw[q]at st;exact wpAny_pyNext_values_end (I.ok.hd hc) st ab (by simp;lia) λh' eb=>⟨rfl,I.turned (t':=s.toks) (λb o hb e=>eb b o hb e) f0 f1 f3 f4 f5⟩
 self:=λ_ _ _ _ _ st h=>YF st h
section
variable{X:Cx}{tg:Expr}
def alu(tl:TE):TI:=λσ H R=>tl σ H λx H1=>∃v a kvs,x=.ref v/\H1 v=some (Ba v a)/\H1 a=some (.dK kvs)/\∀o,R (Itv a o kvs) (upd H1 a (.frz o (.dK kvs)))
def YT{l:Expr}(hl:PE X l tl):PI X tg l (alu tl):=by
 intro pins s σ H R I h;refine thn (hl pins s σ H _ I h) λu s1 ⟨x,H1,I1,r1,v,a,kvs,ex,hv,ha,q⟩=>?_;subst ex;cases r1;obtain⟨aa,_,_⟩:=(show mO X.prog X.w H1 s1.heap v (Ba v a)from I1.hok v _ hv);obtain⟨z,ab,vs,rel,o,es,ep,q1,q2,q3,q4⟩:=(show mO X.prog X.w H1 s1.heap a (.dK kvs)from I1.hok a _ ha);have ad:kvs.length=vs.length:=z7 rel;have ac:s1.heap.DictAt (jU X.prog X.w) a vs ep:=⟨o,es,q1,q2,q3,q4⟩;refine wpAny_pyIter_values aa ac ?_;have I2:Inv X pins σ (upd H1 a (.frz o (.dK kvs))) s1:=I1.write (t':=s1.toks) (h':=s1.heap) (by rw[ha];exact True.intro) (.inl rfl) (λb u _ e=>e) ⟨o,q1⟩ (show mO X.prog X.w _ s1.heap a (.frz o (.dK kvs))from⟨q1,z,ab,vs,rel,o,es,ep,q1,q2,q3,q4⟩);refine⟨s1.heap.objs.size,[s1.heap.objs.size],_,_,_,rfl,I2.kept (t':=s1.toks) λb o e=>zd _ e,Yi q3,⟨_,zB _ rfl,rfl,by rw[ad];rfl⟩,λb hb=>?_,q o⟩;obtain rfl:b=s1.heap.objs.size:=by simpa using hb
 exact I2.fpOk (zm _) (I2.hok.fresh (zm _))
def ajA:V->List V->Hp->VK->Prop:=λx vs H Q=>∃a kvs,x=.ref a/\vs=[]/\H a=some (.dK kvs)/\∀v,H v=none->Q (.ref v) (upd H v (Ba v a))
def PX:MtR X "dict.values" ajA:=by
 intro pins s σ H x vs v us Q I rx rv h;obtain⟨a,kvs,rfl,rfl,ha,q⟩:=h;cases rx;have ab:=rv.zero;subst ab;obtain⟨z,aa,ws,rel,dd⟩:=VL I.hok ha;refine zzg zzw dd.typeIs PySem.F.entry_dict_values (PySem.F.args_dict_values_1 _) (meets_dict_values (jU X.prog X.w) a aa) ⟨⟨ws,dd⟩,?_⟩;have hg:(s.heap.push {cls:=.type "dict_values",data:=.fields #[.ref a]}).IsValuesView s.heap.objs.size a:=⟨_,zB _ rfl,rfl,rfl⟩;exact⟨.ref s.heap.objs.size,_,I.laid (a:=s.heap.objs.size) (o:=Ba s.heap.objs.size a) (t':=s.toks) (λb o e=>zd _ e) (zm _) ⟨hg,⟨_,zB _ rfl⟩,λh1 h2 ⟨ov,e1,e2⟩ k=>⟨ov,k ov e1,e2⟩⟩,rfl,q _ (I.hok.fresh (zm _))⟩
end
section
variable{X:Cx}{K:Fg_}{σ:St}{H:Hp}{Q:VK}{R:It->Hp->Prop}{tl td ty:TE}{g:TG}{tt:TT}{te:TE}{cap:List (Option Nat)}{a:Addr}{o:Obj}{kvs:List (Key×V)}
def rR(q:X.calm=true)(z:X.K=K:=by rfl):nF X (.type "dict") (Bs K):=z▸Lr q
def ap_dictPairs:Bs K [.ref a] H Q=∃(ys:List V)(kf:V->Key)(vf:V->V),SqL K H a ys/\ys.length<=1000/\(∀y∈ys,∃b,y=.ref b/\SqT K H b [kV (kf y),vf y])/\∀p,H p=none->Q (.ref p) (upd H p (.dK (Nk kf vf ys))):=by simp[Bs]
def ap_iVals:alu tl σ H R=tl σ H λx H1=>∃v a kvs,x=.ref v/\H1 v=some (Ba v a)/\H1 a=some (.dK kvs)/\∀o,R (Itv a o kvs) (upd H1 a (.frz o (.dK kvs))):=rfl
def ap_rVals:ajA (.ref a) [] H Q=∃kvs,H a=some (.dK kvs)/\∀v,H v=none->Q (.ref v) (upd H v (Ba v a)):=by simp[ajA]
def ap_dget1:aje td ty σ H Q=td σ H λx H1=>∃a,x=.ref a/\IsD H1 a/\ty σ H1 λy H2=>∃o,Va H2 a y o/\Q (o.getD .non) H2:=rfl
def lU.vals(Sσ:St->Prop)(p:V->Bool)(F:V->V)(hH:H a=some (.frz o (.dK kvs)))(h0:Sσ (rD σ cap))(hz:kvs.length<=sizeLine)
  (hs:∀x∈kvs.map (·.2),∀(σ:St)(z:Hp)(R1:St->VK)(R2:St->Hp->Prop),Sσ σ->Same H z->(p x=true->∀q H6,Sσ q->Same z H6->R1 q (F x) H6)->(p x=false->∀q H6,Sσ q->Same z H6->R2 q H6)->
   g x σ z λq H4=>tt q H4 λb z=>if b=true then te q z (R1 q)else R2 q z)
  (k:∀D H',H D=Option.none->Same H H'->H' D=some (.lst (((kvs.map (·.2)).filter p).map F))->Q (.ref D) H'):lU cap (Itv a o kvs) g tt te σ H Q:=
 λD hD=>Ep (xs:=kvs.map (·.2)) (Itv a o kvs) Sσ p F hD h0 (by rw[za];exact hz) (λi x z hx sm=>⟨⟨sm _ _ hH,by simpa using (zk.mp hx).1⟩,λy H' hy=>⟨zy (hy.2.symm.trans hx),hy.1⟩⟩) (λz sm=>⟨sm _ _ hH,by simp⟩) hs λH' s e=>k D H' hD s e
end
open PySem.W
section
variable{X:Cx}{pins:List (Addr×Obj)}{σ:St}{H:Hp}{s:Shared}{h':Heap}
def Inv.adopt{t' c:Nat}{D:Addr}{zs:List V}{its:List Value}(I:Inv X pins σ H s)(hf:SQ X pins H D)(k:∀b o,b≠D->s.heap.get? b=some o->h'.get? b=some o)
  (hD:h'.get? D=some {cls:=.type "list",data:=.seq its.toArray c}) (hv:Vals zs its) (hz:zs.length<=sizeLine):Inv X pins σ (upd H D (.lst zs)) {s with heap:=h',toks:=t'}:=by
 obtain⟨hn,hL,ab,h1,h2,h3⟩:=hf;have aa:∀b u,H b=some u->b≠D:=λb u e z=>by rw[z,hn]at e;cases e
 refine I.step (g':=s.gens) (d':=s.drawn) (ch:=[D]) (λb hb=>?_) (λb o _ _ hc e _=>k b o (λz=>hc (by simp[z])) e) (λb o _ _ hc e _=>⟨o.slots,k b o (λz=>hc (by simp[z])) e⟩) (λb o hc e n=>(jn λz=>hc (by simp[z])).trans n)
  (λb o hc e=>⟨o,k b o (λz=>hc (by simp[z])) e⟩) (λb xs e=>(jn (aa b _ e)).trans e) (λb o u e=>(jn (aa b _ e)).trans e) (λb ps e=>⟨#[],by rw[jn (aa b _ e),e];simp⟩) (λm hm=>?_) (λb u e=>?_) I.bare
 ·have e:b=D:=by simpa using hb
  subst e;exact⟨h1,hL,h2,h3⟩
 ·obtain⟨o,es,ep,ho,r⟩:=hm
  exact⟨o,es,ep,k _ o (Ne.symm hL) ho,r⟩
 ·by_cases z:b=D
  ·subst z
   rw[jd]at e;cases e;exact⟨hz,its,c,hv,hD⟩
  ·rw[jn z]at e
   refine(I.hok b u e).stay (λc v hc q=>k c v ?_ q) (λc q=>?_) λc v q=>?_
   ·rcases hc with y|y
    ·rw[y];exact aa b u e
    ·exact aa c _ y
   ·exact(jn (aa c _ q)).trans q
   ·exact(jn (aa c _ q)).trans q
end
section
variable{X:Cx}{pins:List (Addr×Obj)}{σ:St}{H:Hp}{s:Shared}{k:Nat}{f:Addr}{fd:FuncData}{ps:List Str}{sp:Sp}
def aki{v:V}(F:kI X.prog X.w X.K X.mg X.base CX0 k f fd ps sp)(hr:qY (k+2) X.A)(hb:Binds X.K fd ps [])(I:Inv X pins σ H s)(r:RelV v u)(h:sp [v] H Q E0):
  wpAny (model X.prog X.w) X.A.in1.in1 (call (.ref f) [u]) (EP X pins σ Q) (λ_ _=>False) s:=by
 have r2:Vals [v] [u]:=.cons r .nil
 have z:([u]++([]:List Value)).length=ps.length:=by
  have:=F.len _ _ _ _ h;rw[<-this];rfl
 refine yyo (codeAny_mono (F.run X.A.in1.in1 X.stack s H ⟨[u],[]⟩ [u] [v] Q E0 hr.in1.in1 I.env0.in1.in1 (hb s [u] I.kIn z) r2 h) λr s' q=>?_)
 cases r with
 |error e=>exact q.elim
 |ok fl=>
  cases fl with
  |ret u=>exact I.after q
  |next=>exact False.elim q
  |brk=>exact False.elim q
  |cont=>exact False.elim q
theorem Paired.imp{α β:Type}{P P':α->β->Prop}(h:∀a b,P a b->P' a b):∀{xs:List α}{ys:List β},Paired P xs ys->Paired P' xs ys
 |_,_,.nil=> .nil
 |_,_,.cons a t=> .cons (h _ _ a) (Paired.imp h t)
def VG(kf:V->List Int)(H:Hp)(y v:V):Prop:=∃t,v=.ref t/\H t=some (.tup ((kf y).map V.int))
def VG.same{kf:V->List Int}{H':Hp}{y v:V}(h:VG kf H y v)(e:∀t xs,H t=some (.tup xs)->H' t=some (.tup xs)):VG kf H' y v:=let⟨t,a,b⟩:=h;⟨t,a,e _ _ b⟩
def ajD(sp:Sp)(kf:V->List Int)(H:Hp)(y:V):Prop:=∀H1,Same H H1->∀R:VK,(∀t H2,Same H1 H2->H2 t=some (.tup ((kf y).map V.int))->R (.ref t) H2)->sp [y] H1 R E0
theorem UV{E:Value->Shared->Prop}{kf:V->List Int}{H0:Hp}{kS:Addr}{Q':Shared->Prop}{ad:Value->PUnit->Sem (ForInStep PUnit)}(F:kI X.prog X.w X.K X.mg X.base CX0 k f fd ps sp)(hr:qY (k+2) X.A)(hb:Binds X.K fd ps [])
  (ac:∀x s (D':Shared->Prop),wpAny (model X.prog X.w) X.A.in1.in1 (call (.ref f) [x]) (λk s'=>∃its n,s'.heap.get? kS=some {cls:=.type "list",data:=.seq its n}/\its.size<64/\D' {s' with heap:=s'.heap.update kS (Obj.mapSeq (·.push k))}) (λ_ _=>False) s->
   wpAny (model X.prog X.w) X.A.in1.in1 (ad x ⟨⟩) (λr s'=>r=.yield ⟨⟩/\D' s') E s) (hS0:H0 kS=none):
  ∀(ys:List V) (us:List Value) (ys0 kvs:List V) (H1:Hp) (s1:Shared),Vals ys us->ys0.length+ys.length<64->Inv X pins σ H1 s1->H1 kS=some (.lst kvs)->Same H0 H1->(∀y∈ys,ajD sp kf H0 y)->Paired (VG kf H1) ys0 kvs->
   (∀aa H2 s2,Inv X pins σ H2 s2->H2 kS=some (.lst aa)->Same H0 H2->Paired (VG kf H2) (ys0++ys) aa->Q' s2)->wpAny (model X.prog X.w) X.A.in1.in1 (forIn us PUnit.unit ad) (λ_ s2=>Q' s2) E s1
 |_,_,ys0,kvs,H1,s1,.nil,hl,I,hH,sm,hk,hp,fin=>by
  rw[List.forIn_nil];rw[yk]at fin;exact zA (fin kvs H1 s1 I hH sm hp)
 |y::ys,u::us,ys0,kvs,H1,s1,.cons ru rus,hl,I,hH,sm,hk,hp,fin=>by
  rw[List.forIn_cons];rw[zG]at hl;have an:ys0.length=kvs.length:=z7 hp;have h1:=aki F hr hb I ru (hk y zg H1 sm (λv H2=>∃t,v=.ref t/\Same H1 H2/\H2 t=some (.tup ((kf y).map V.int))) λt H2 s2 ht=>⟨t,rfl,s2,ht⟩);refine ze (yi (ac u s1 (λs2=>∃ab H3,Inv X pins σ H3 s2/\H3 kS=some (.lst ab)/\Same H0 H3/\Paired (VG kf H3) (ys0++[y]) ab) (yi h1 (λkv s2 hq=>?_) λ_ _ x=>x)) (λr s2 hq=>?_) λ_ _ x=>x)
  ·obtain⟨v,H2,I2,rv,t,rfl,af,ht⟩:=hq
   have ae:=af _ _ hH;obtain⟨z,its,n,r,am,e⟩:=I2.lstM ae;refine⟨its.toArray,n,e,by rw[zt];lia,kvs++[.ref t],_,I2.lset (t':=s2.toks) (its':=its++[kv]) ae e (by simp) (r.append (.cons rv .nil)) (by rw[zC,yn,zw];lia),jd,?_,?_⟩
   ·exact(sm.trans af).upd hS0
   ·have up:∀b xs,H2 b=some (.tup xs)->(upd H2 kS (.lst (kvs++[V.ref t]))) b=some (.tup xs):=λb xs q=>(jn λz=>by rw[z,ae]at q;cases q).trans q
    exact Paired.snoc (Paired.imp (λa b q=>q.same λt xs h=>up _ _ (af _ _ h)) hp) ⟨t,rfl,up _ _ ht⟩
  ·obtain⟨rfl,ab,H3,I3,ai,al,ag⟩:=hq
   refine UV F hr hb ac hS0 ys us (ys0++[y]) ab H3 s2 rus (by rw[zC,yn];lia) I3 ai al (λz hz=>hk z (zn _ hz)) ag λaa H4 s4 I4 ah aj ak=>fin aa H4 s4 I4 ah aj ?_
   rwa [yL]at ak
end
section
variable{P:Program}{w:World}{A:Around}{E:Value->Shared->Prop}{s:Shared}
def YB{G:Array Nat->Prop}{ks us:List Value}{kS:Addr}{e1 nk:Nat}{R:PySem.Fin->Shared->Prop}(fs:Nat->List Int)(ac:ks.length=us.length)(ae:us.length<64)(hk:s.heap.get? kS=some (seqObj "list" ks.toArray nk)) (ho:s.heap.get? a=some (seqObj "list" #[] e1)) (aj:a≠kS)
  (hT:∀i,i<us.length->fs i≠[]/\∃b o xs m,ks.getD i Value.none=.ref b/\s.heap.get? b=some o/\o.cls=.type "tuple" /\o.data=.seq xs m/\Vals ((fs i).map V.int) xs.toList)
  (hG:0<us.length->Kok (λi j=>xH (fs i) (fs j) (decide ((fs i).length<(fs j).length))) us.length G (kas_sort us.length)) (am:us.length<2->G (List.range us.length).toArray) (ag:∀p,G p->Prm us.length p)
  (ao:∀p:Array Nat,G p->R (.done (.ret .none)) {s with heap:=(s.heap.update kS (Obj.mapSeq λ_=> #[])).update a (Obj.mapSeq λ_=>List.toArray (p.toList.map λi=>us.getD i Value.none))}):
  wpAny (model P w) A (ksk_end a false us.toArray e1 (.ref kS) ks.toArray) R E s:=by
 have ai:us.toArray.size=us.length:=by simp
 have aa:∀q (p:Array Nat),arrOf q=p.map (kas_item (ks.toArray.zip us.toArray))->failedOf q=none->G p->wpAny (model P w) A (ksk_tail a false e1 (.ref kS) q) R E s:=λq p ab hf hp=>by
  have ak:(p.toList.map λi=>us.getD i Value.none).length=us.length:=by rw[za,(ag p hp).length_eq];simp
  have af:(s.heap.update kS (Obj.mapSeq λ_=> #[])).get? a=some (seqObj "list" #[] e1):=(ym _ _ _ _ aj).trans ho;unfold ksk_tail
  try dsimp only
  rw[kat_snds ac ab];refine ze (listUpdate_at hk rfl ?_ (by rw[zt,zw];lia) (zM _));refine ze (yyg ?_);refine ze (seqEpoch_at af rfl ?_);refine ze (listUpdate_at af rfl ?_ (zM _) (by simp only[yp,if_false];rw[zt,ak,zw];lia));rw[hf];simp only[bne_self_eq_false,yp,if_false];exact zA (ao p hp)
 unfold ksk_end
 try dsimp only
 rw[zf (by decide)];by_cases h2:us.toArray.size<2
 ·rw[zi h2,zi h2]
  refine ze (zA ?_);rw[StateT.run_pure];refine ze (zA ?_);dsimp only;refine aa _ (List.range us.length).toArray ?_ rfl (am (by rw[<-ai];exact h2));have e:=kas_range (ks.toArray.zip us.toArray);rw[show(ks.toArray.zip us.toArray).size=us.length by simp[ac]]at e;exact e.symm
 ·rw[zf h2,zf h2]
  have hn:0<us.length:=by lia
  obtain ⟨ff,k1,k2,k3⟩:=Tz (h:=s.heap) (us:=ks) (by
   intro v hv;obtain⟨i,hi,e⟩:=z9 hv;obtain⟨g0,b,o,xs,m,g1,g3,g4,g5,g6⟩:=hT i (by lia);have e2:ks.getD i Value.none=v:=by rw[<-e];simp[hi]
   cases hq:fs i with
   |nil=>exact(g0 hq).elim
   |cons z zs=>
    rw[hq,zl]at g6
    cases hx:xs.toList with
    |nil=>rw[hx]at g6;cases g6
    |cons u ur=>
     rw[hx]at g6
     cases g6 with
     |cons r1 r2=>
     obtain⟨t,rfl⟩:=r1;refine⟨b,o,xs,m,z,t,e2.symm.trans g1,g3,g4,g5,?_⟩;rw[<-yG,hx];rfl)
  refine ze (kat_kind k1 (by lia) (λv hv=>?_) (T:=.type "int") rfl ?_)
  ·obtain⟨i,t,rfl⟩:=k3 v hv
   exact Looks.of_pure rfl
  refine ze (yi (kat_run (ks:=ks) (vs:=us) (Q:=λq s'=>∃p:Array Nat,arrOf q=p.map (kas_item (ks.toArray.zip us.toArray))/\failedOf q=none/\G p/\s'=s)
   (G:=λp s'=>G p/\s'=s) ac (by lia) ae (λp q s' a1 a2 a3 a4=>⟨p,a2,a3,a4.1,a4.2⟩)
   (Kok.wp (lt:=λi j=>xH (fs i) (fs j) (decide ((fs i).length<(fs j).length))) (λi j C hi hj hC=>?_) (hG hn) λp hp=>⟨hp,rfl⟩)) ?_ λ_ _ e=>e)
  ·obtain⟨_,b,o,xs,m,g1,g3,g4,g5,g6⟩:=hT i hi
   obtain⟨_,b',o',al,m',ah,ap,aq,an,ad⟩:=hT j hj;show wpAny _ _ (keyLt' _ (ks.getD i Value.none) (ks.getD j Value.none)) _ _ _;rw[g1,ah];refine kat_lt g3 g5 ap an (Nv g6 ad 0 ?_);have z1:(fs i).length=xs.size:=by simpa using g6.length
   have z2:(fs j).length=al.size:=by simpa using ad.length
   rw[<-z1,<-z2];exact hC
  ·rintro⟨⟨⟩,q⟩ s'⟨p,ab,hf,hp,rfl⟩
   dsimp only;exact aa q p ab hf hp
end
def ajY(a v:Value):argsOk "list.sort" ⟨[a],[(Str.ofString "key",v)]⟩:=by unfold argsOk;kernel_rfl
section
variable{X:Cx}{pins:List (Addr×Obj)}{σ:St}{H:Hp}{s:Shared}{k:Nat}{f:Addr}{fd:FuncData}{ps:List Str}{sp:Sp}
def Rw(K:Fg_)(sp:Sp):V->Hp->VK->Prop:=λx H Q=>∃(a:Addr)(ys:List V)(kf:V->List Int),x=.ref a/\SqL K H a ys/\ys.length<64/\(∀y∈ys,kf y≠[]/\ajD sp kf H y)/\
 ∀p zs H',Same H H'->H p=none->H' p=some (.lst zs)->zs.Perm ys->(∀m,(∀y∈ys,(kf y).length=m)->(ys.map kf).Nodup->zs.Pairwise λy z=>xH (kf y) (kf z) false=true)->Q (.ref p) H'
theorem JF{α β:Type}{Pr:α->β->Prop}{d1:α}{d2:β}:∀{xs:List α}{ys:List β}{i:Nat},Paired Pr xs ys->i<xs.length->Pr (xs.getD i d1) (ys.getD i d2)
 |_,_,_,.nil,h=>by simp at h
 |_,_,0,.cons r _,_=>r
 |_,_,i+1,.cons _ t,h=>by
  simp only[List.getD_cons_succ];exact JF t (by simpa using h)
def Ww{x:V}(F:kI X.prog X.w X.K X.mg X.base CX0 k f fd ps sp)(hr:qY (k+2) X.A)(hb:Binds X.K fd ps [])(I:Inv X pins σ H s)(rx:RelV x u)(h:Rw X.K sp x H Q):
  wpAny (model X.prog X.w) X.A (call (.builtin "sorted") [u] [(Str.ofString "key",.ref f)]) (EP X pins σ Q) X.xe s:=by
 obtain⟨a,ys,kf,rfl,hq,be,hK,q⟩:=h;cases rx;obtain⟨its,rv,pl,hz⟩:=I.list hq;have ae:ys.length=its.length:=rv.length;have hl:=pl.isList;refine call_function_entry_kw kind_sorted plain_sorted entry_sorted (ksk_s1 _ _) ?_;unfold Builtin.«sorted»;refine ze (m:=checkCount "sorted" 1 1 _) (zA ?_);refine ze (collect_list hl ?_ (by lia));refine ze (zzy ?_ (by lia));have hsz:((s.heap.push (seqObj "list" #[] 0)).update s.heap.objs.size (Obj.mapSeq (·++its.toArray))).objs.size=s.heap.objs.size+1:=by rw[yyl,size_push']
 have aa:(((s.heap.push (seqObj "list" #[] 0)).update s.heap.objs.size (Obj.mapSeq (·++its.toArray))).push (seqObj "list" its.toArray 0)).get? (s.heap.objs.size+1)=some (seqObj "list" its.toArray 0):=by rw[<-hsz];exact zB _ rfl
 have keep:∀b o,s.heap.get? b=some o->(((s.heap.push (seqObj "list" #[] 0)).update s.heap.objs.size (Obj.mapSeq (·++its.toArray))).push (seqObj "list" its.toArray 0)).get? b=some o:=λb o e=>
  zd _ ((ym _ _ _ _ (zE (zv e))).trans (zd _ e))
 have ag:(((s.heap.push (seqObj "list" #[] 0)).update s.heap.objs.size (Obj.mapSeq (·++its.toArray))).push (seqObj "list" its.toArray 0)).objs.size=s.heap.objs.size+2:=by rw[size_push',hsz]
 show wpAny _ _ _ _ _ {s with heap:=((s.heap.push (seqObj "list" #[] 0)).update s.heap.objs.size (Obj.mapSeq (·++its.toArray))).push (seqObj "list" its.toArray 0)};rw[hsz];generalize((s.heap.push (seqObj "list" #[] 0)).update s.heap.objs.size (Obj.mapSeq (·++its.toArray))).push (seqObj "list" its.toArray 0)=h2 at aa keep ag;obtain⟨D,aw⟩:∃D:Nat,s.heap.objs.size+1=D:=⟨_,rfl⟩;rw[aw]at aa⊢;refine ze (yb (wpAny_call_entry_kw slot_list_sort ⟨_,aa,rfl⟩ entry_list_sort ?body (ajY _ _)))
 case body=>
  show wpAny (model X.prog X.w) X.A.in1.in1 (Builtin.«list.sort» ⟨[.ref D],[(Str.ofString "key",.ref f)]⟩) _ _ _;rw[ksk_t1];unfold ksk_tree;refine ze (listItems_at aa rfl ?_);refine ze (listUpdate_at aa rfl ?_ (by rw[zt,zw];lia) (zM _));obtain⟨e1,af⟩:∃e1,(h2.update D (Obj.mapSeq λ_=> #[])).get? D=some (seqObj "list" #[] e1):=⟨_,get?_update_seq aa (λ_=> #[])⟩;refine ze (seqEpoch_at af rfl ?_);refine ze (wpAny_newTuple ?_ (by show its.length<=_;rw[zw];lia));refine ze (zzy ?_ (zM _));refine yb ?_;have ao:((h2.update D (Obj.mapSeq λ_=> #[])).push (seqObj "tuple" its.toArray 0)).objs.size=s.heap.objs.size+3:=by rw[size_push',yyl,ag]
  have ab:∀b o,s.heap.get? b=some o->(((h2.update D (Obj.mapSeq λ_=> #[])).push (seqObj "tuple" its.toArray 0)).push (seqObj "list" #[] 0)).get? b=some o:=λb o e=>by
   have h9:b<s.heap.objs.size:=zv e;have hb:b≠D:=zE (zz3 h9 (by lia));exact zd _ (zd _ ((ym _ _ _ _ hb).trans (keep b o e)))
  have am:(((h2.update D (Obj.mapSeq λ_=> #[])).push (seqObj "tuple" its.toArray 0)).push (seqObj "list" #[] 0)).get? D=some (seqObj "list" #[] e1):=zd _ (zd _ af);have ah:(((h2.update D (Obj.mapSeq λ_=> #[])).push (seqObj "tuple" its.toArray 0)).push (seqObj "list" #[] 0)).get? (s.heap.objs.size+3)=some (seqObj "list" #[] 0):=by rw[<-ao];exact zB _ rfl
  show wpAny _ _ _ _ _ {s with heap:=((h2.update D (Obj.mapSeq λ_=> #[])).push (seqObj "tuple" its.toArray 0)).push (seqObj "list" #[] 0)};dsimp only;rw[ao];generalize((h2.update D (Obj.mapSeq λ_=> #[])).push (seqObj "tuple" its.toArray 0)).push (seqObj "list" #[] 0)=h4 at ab am ah;obtain⟨kS,ar⟩:∃kS:Nat,s.heap.objs.size+3=kS:=⟨_,rfl⟩;rw[ar]at ah⊢;have ad:D≠kS:=zE (by lia);have ak:H D=none:=I.hok.fresh (by lia);have aj:H kS=none:=I.hok.fresh (by lia);have I4:Inv X pins σ (upd H kS (.lst [])) {s with heap:=h4,toks:=s.toks}:=I.laid (t':=s.toks) ab (by lia) ⟨zM _,[],0,.nil,ah⟩;have ac:SQ X pins (upd H kS (.lst [])) D:=I.fpOk (by lia) ((jn ad).trans ak)
  have I5:Inv X (pins++[(D,seqObj "list" #[] e1)]) σ (upd H kS (.lst [])) {s with heap:=h4,toks:=s.toks}:=I4.pins_of λp hp=>by
   rcases zD.mp hp with hp|hp
   ·exact I4.pin p (zF _ hp)
   ·obtain rfl:=zr.mp hp
    exact⟨am,ac.1,ac.2.1,ac.2.2.1,λv z=>by cases z⟩
  unfold ksk_rest;refine ze (wpAny_rule ?_)
  first|rw[List.forIn_toArray]|rw[<-Array.forIn_toList]
  refine ze (UV (kf:=kf) (H0:=H) (kS:=kS) F hr hb (λx s' D' hx=>?_) aj ys its [] [] _ _ rv (by rw[zzk];lia) I5 jd (ji aj) (λy hy=>(hK y hy).2) .nil λkvs H2 s2 I2 ap ax an=>?_)
  ·refine ze (wpAny_attempt (yi hx (λkv bf hk=>?_) λ_ _ hF=>hF.elim))
   obtain⟨its',n',e',bg,bb⟩:=hk
   try dsimp only
   refine ze (listUpdate_at e' rfl ?_ (by rw[zw];lia) (zS (yym (Array.size_push ..)) (by rw[zw];lia)));exact zA ⟨rfl,bb⟩
  ·obtain⟨z,ks,n,rk,bd,e⟩:=I2.lstM ap
   have bi:ys.length=kvs.length:=z7 an
   try dsimp only
   refine ze (listItems_at e rfl ?_);have al:=I2.pin (D,seqObj "list" #[] e1) (zF _ (zF _ (zr.mpr rfl)));refine YB (G:=λp=>Prm its.length p/\Yu ys kf p) (λi=>kf (ys.getD i .non)) (by lia) (by lia) e al.1 ad (λi hi=>?_) (λhn=>ae▸XS (by lia)) (λh2=>⟨zz7 _,λm _ _ a b ba hb=>absurd ba (by lia)⟩) (λp hp=>hp.1) λp au=>⟨_,rfl,zA ⟨_,rfl,?_⟩⟩
   ·have hm:ys.getD i .non∈ys:=by
     have:i<ys.length:=by lia
     simp[this]
    obtain⟨t,e2,e3⟩:=JF (d1:=V.non) (d2:=V.non) an (i:=i) (by rw[zzi];lia);rw[zzi]at e3;obtain⟨tv,rt,it,bh⟩:=I2.tuple (jE e3);obtain⟨o,ho,hc,m,hd⟩:=it;refine⟨(hK _ hm).1,t,o,tv.toArray,m,?_,ho,hc,hd,rt⟩;have:=Ea rk (i:=i) (by lia);rw[e2]at this;exact this
   ·obtain⟨hp,aq⟩:=au
    have bc:∀i∈p.toList,i<ys.length:=λi hi=>by
     have:=yA.mp (hp.mem_iff.mp hi);lia
    have ai:p.toList.length=its.length:=by rw[hp.length_eq];simp
    have ay:(p.toList.map λi=>ys.getD i V.non).Perm ys:=by
     have:=hp.map λi=>ys.getD i V.non;rw[<-ae,Kq]at this;exact this
    have I3:=(I2.lset (t':=s2.toks) (its':=[]) (f:=λ_=> #[]) ap e rfl .nil (zM _)).unpinned;have as:SQ X pins (upd H2 kS (.lst [])) D:=⟨(jn ad).trans al.2.1,ac.2⟩;have az:(s2.heap.update kS (Obj.mapSeq λ_=> #[])).get? D=some (seqObj "list" #[] e1):=(ym _ _ _ _ ad).trans al.1;obtain⟨c,hc⟩:∃c,((s2.heap.update kS (Obj.mapSeq λ_=> #[])).update D (Obj.mapSeq λ_=>List.toArray (p.toList.map λi=>its.getD i Value.none))).get? D=some (seqObj "list" (List.toArray (p.toList.map λi=>its.getD i Value.none)) c):=⟨_,get?_update_seq az _⟩;refine⟨.ref D,_,I3.adopt (t':=s2.toks) (zs:=p.toList.map λi=>ys.getD i V.non) as (λb o hb e=>(ym _ _ _ _ hb).trans e) hc (Jy rv bc) (by rw[za,ai,zw];lia),rfl,q _ _ _ ?_ ak jd ay λm h1 h2=>?_⟩
    ·exact((ax.upd aj).upd ak)
    ·refine yh.mpr λi j hi hj av=>?_
     rw[za,ai,<-ae]at hj;have h3:=aq m h1 h2 i j av hj;have hs:p.size=ys.length:=by rw[<-z8,ai,ae]
     have e1:p.getD i 0=p.toList[i]'(by rw[z8];lia):=by simp[Array.getD,show i<p.size by lia]
     have e2:p.getD j 0=p.toList[j]'(by rw[z8];lia):=by simp[Array.getD,show j<p.size by lia]
     rw[e1,e2]at h3;rw[ye,ye];exact h3
def Uj(K:Fg_)(sp:Sp)(t:TA):TE:=λσ H Q=>t σ H λvs H1=>∃x,vs=[x]/\Rw K sp x H1 Q
def Mm{e:Expr}{t:TA}{g:Str}{p kp kpos pos:Pos}(F:kI X.prog X.w X.K X.mg X.base CX0 k f fd ps sp)(hr:qY (k+2) X.A)(hb:Binds X.K fd ps [])(ad:Gl X "sorted") (ab:X.mg "sorted" =none) (aa:bootBuiltins "sorted" =some (.builtin "sorted"))
  (hg:Gl X g) (hm:X.mg g=some (.ref f)) (ha:PA X [e] t) (ac:(g==("__debug__" :Str))=false:=by decide)
  (he:backTo pos (starEach [e] X.env)=(false,eval e X.env)::backTo pos (starEach [] X.env):=by rfl) (hpl:(backTo pos (starEach [e] X.env)).any (·.1)=false:=by rfl):
  PE X (.Call (.Name "sorted" p) [e] [⟨some "key",.Name g kp,kpos⟩] pos) (Uj X.K sp t):=by
 intro pins s σ H Q I h;refine yq (BL I ad ab aa ?_);refine callWith_kw (thn (ha pos pins s σ H _ I h) λus s1 ⟨vs,H1,I1,r,x,ex,q⟩=>?_) he hpl;subst ex;obtain⟨u,rfl,rx⟩:=vals1 r;have hk:PK X [⟨some "key",.Name g kp,kpos⟩] (ql (tC (.ref f)) Vw):=YG (mY hg hm rfl ac) aja;refine thn (hk pos pins s1 σ H1 (λzs H2=>zs=[.ref f]/\H2=H1) I1 ⟨rfl,rfl⟩) λws s2 ⟨zs,H2,I2,rz,e1,e2⟩=>?_;subst e1 e2;obtain⟨w1,rfl,z⟩:=vals1 rz;cases z;exact Ww F hr hb I2 rx q
def Kd{g:Str}{kp:Pos}(q:X.K=K)(h:PE X (.Call (.Name "sorted" p) [e] [⟨some "key",.Name g kp,kpos⟩] pos) (Uj X.K sp t)):PE X (.Call (.Name "sorted" p) [e] [⟨some "key",.Name g kp,kpos⟩] pos) (Uj K sp t):=q▸h
def ap_tSortK:Uj K sp t σ H Q=t σ H λvs H1=>∃x,vs=[x]/\Rw K sp x H1 Q:=rfl
def ap_rSortK:Rw K sp (.ref a) H Q=∃(ys:List V)(kf:V->List Int),SqL K H a ys/\ys.length<64/\(∀y∈ys,kf y≠[]/\ajD sp kf H y)/\
  ∀p zs H',Same H H'->H p=none->H' p=some (.lst zs)->zs.Perm ys->(∀m,(∀y∈ys,(kf y).length=m)->(ys.map kf).Nodup->zs.Pairwise λy z=>xH (kf y) (kf z) false=true)->Q (.ref p) H':=by simp[Rw]
end
section
variable{X:Cx}
def akL:V->List V->Hp->VK->Prop:=λx vs H Q=>∃(l:Addr)(xs:List V)(i:Int)(y:V),x=.ref l/\vs=[.int i,y]/\H l=some (.lst xs)/\0<=i/\i<=xs.length/\i<1000000/\xs.length+1<=sizeLine/\Q .non (upd H l (.lst (xs.take i.toNat++y::xs.drop i.toNat)))
def aaj:MtM X "list.insert" akL:=by
 intro pins s σ H x vs v us Q I rx rv h;obtain⟨l,xs,i,y,rfl,rfl,hH,ac,hk,ab,hz,q⟩:=h;cases rx;obtain⟨iv,u,rfl,r1,ru⟩:=rv.two;obtain⟨t,rfl⟩:=r1;obtain⟨z,its,n,r,hl,e⟩:=I.lstM hH
 have aa:¬(!Builtin.List.listFitsIndex i)=true:=by
  rw[fitsIndex_both (Int.le_trans (by decide) ac) (yyn ab (by decide))];exact zO
 have hsz:its.toArray.size<=sizeLine:=by rw[zt,<-hl];exact z
 refine zzT F.slot_list_insert ⟨_,e,rfl⟩ F.entry_list_insert (F.args_list_insert_3 _ _ _) (PySem.AutoSeq1.list_insert_list_int_val_1 l its.toArray n i t u aa hsz) ⟨e,?_⟩;refine⟨.non,_,I.lset (its':=its.take i.toNat++u::its.drop i.toNat) hH e ?_ ((r.take i.toNat).append (.cons ru (r.drop i.toNat))) ?_,rfl,q⟩
 ·have hm:(if i<0 then(i+(its.toArray.size:Int)).toNat else min i.toNat its.toArray.size)=i.toNat:=by
   rw[zf (by lia),zt];lia
  show(its.toArray.extract 0 (if i<0 then(i+(its.toArray.size:Int)).toNat else min i.toNat its.toArray.size)).push u++its.toArray.extract (if i<0 then(i+(its.toArray.size:Int)).toNat else min i.toNat its.toArray.size)=_;rw[hm];apply Array.toList_inj.mp;simp;exact z3 (by rw[yI];lia)
 ·rw[zC,zG,zT,yI]
  lia
end
section
variable{X:Cx}
def amE(K:Fg_):R2:=λx y H Q=>∃(a b:Addr)(xs ys:List V),x=.ref a/\y=.ref b/\SqL K H a xs/\SqL K H b ys/\((xs.length≠ys.length/\Q (.bl false) H)\/(xs=ys/\(∀v∈xs,∃c,v=.ref c)/\Q (.bl true) H))
def amB(K:Fg_):R2:=λx y H Q=>∃(a b:Addr)(xs ys:List V),x=.ref a/\y=.ref b/\SqL K H a xs/\SqL K H b ys/\((xs.length≠ys.length/\Q (.bl true) H)\/(xs=ys/\(∀v∈xs,∃c,v=.ref c)/\Q (.bl false) H))
theorem JZ{A:Around}{s:Shared}:∀{xs:List V}{us us2:List Value},(∀v∈xs,∃c,v=.ref c)->Vals xs us->Vals xs us2->us=us2
 |_,_,_,_,.nil,.nil=>rfl
 |_,_,_,h,.cons r1 t1,.cons r2 t2=>by
  obtain⟨c,rfl⟩:=h _ zg;cases r1;cases r2;rw[JZ (A:=A) (s:=s) (λv q=>h v (zn _ q)) t1 t2]
def alX{k:Nat}(hr:qY k X.A):OpR X (compareOp .Eq) (amE X.K):=by
 intro pins s σ H x y v u Q I rx ry h;obtain⟨a,b,xs,ys,rfl,rfl,h1,h2,h⟩:=h;have hr':=hr.units;have hu':X.A.units<cLine:=by lia
 cases rx;cases ry;obtain⟨its,rv,p,_⟩:=I.list h1;obtain⟨aa,z,p2,_⟩:=I.list h2;have l1:=rv.length;have l2:=z.length;rcases h with⟨hn,q⟩|⟨rfl,hc,q⟩
 ·exact SeqAt.RcAt.lists_lengths p.isList p2.isList (by simp only[zt,bne_iff_ne];lia) hu' X.prog X.w X.xe _ ⟨.bl _,H,I,rfl,q⟩
 ·have e:=JZ (A:=X.A) (s:=s) hc rv z
  subst e;have:=SeqAt.RcAt.lists (A:=X.A) (e:=λ_=>true) p.isList p2.isList rfl hu' (λj _ _=>SeqAt.EqAt.same _);rw[show((List.range its.toArray.size).all λ_=>true)=true by simp]at this;exact this X.prog X.w X.xe _ ⟨.bl _,H,I,rfl,q⟩
def alJ{k:Nat}(hr:qY k X.A):OpR X (compareOp .NotEq) (amB X.K):=by
 intro pins s σ H x y v u Q I rx ry h;obtain⟨a,b,xs,ys,rfl,rfl,h1,h2,h⟩:=h;have hr':=hr.units;have hu':X.A.units<cLine:=by lia
 cases rx;cases ry;obtain⟨its,rv,p,_⟩:=I.list h1;obtain⟨aa,z,p2,_⟩:=I.list h2;have l1:=rv.length;have l2:=z.length;rcases h with⟨hn,q⟩|⟨rfl,hc,q⟩
 ·exact SeqAt.RcNeAt.lists_lengths p.isList p2.isList (by simp only[zt,bne_iff_ne];lia) hu' X.prog X.w X.xe _ ⟨.bl _,H,I,rfl,q⟩
 ·have e:=JZ (A:=X.A) (s:=s) hc rv z
  subst e;have:=SeqAt.RcNeAt.lists (A:=X.A) (e:=λ_=>true) p.isList p2.isList rfl hu' (λj _ _=>SeqAt.EqAt.same _);rw[show((List.range its.toArray.size).all λ_=>true)=true by simp]at this;exact this X.prog X.w X.xe _ ⟨.bl _,H,I,rfl,q⟩
def ajH{k:Nat}(q:qY k X.A)(z:X.K=K:=by rfl):OpR X (compareOp .Eq) (amE K):=z▸alX q
def ajW{k:Nat}(q:qY k X.A)(z:X.K=K:=by rfl):OpR X (compareOp .NotEq) (amB K):=z▸alJ q
def Ud(K:Fg_):List V->Hp->VK->Prop:=λxs H Q=>∃(a:Addr)(ns:List Int),xs=[.ref a]/\SqL K H a (ns.map V.int)/\ns.length<=1000/\∀l S n,H l=none->n<=ns.length->(ns.Nodup->n=ns.length)->Q (.ref l) (upd H l (.set S n))
theorem YM:∀(ns acc:List Int),(ns.foldl step_dedup acc).length<=acc.length+ns.length
 |[],acc=>zm _
 |n::ns,acc=>by
  rw[yO];refine zS (YM ns _) ?_;rw[zG];unfold step_dedup;split
  ·lia
  ·rw[zC,yn];lia
theorem Ym:∀(ns acc:List Int),ns.Nodup->(∀x∈ns,x∉acc)->(ns.foldl step_dedup acc).length=acc.length+ns.length
 |[],acc,_,_=>rfl
 |n::ns,acc,h,hd=>by
  have h':=zN.mp h;rw[yO]
  have e:step_dedup acc n=acc++[n]:=by
   unfold step_dedup;rw[zf];intro z;obtain⟨x,q,ex⟩:=yx.mp z;have:x=n:=by simpa using ex
   exact hd n zg (this▸q)
  rw[e,Ym ns _ h'.2,zC,yn,zG]
  ·lia
  ·intro x q hm
   rcases zD.mp hm with hm|hm
   ·exact hd x (zn _ q) hm
   ·obtain rfl:=zr.mp hm
    exact h'.1 q
def ajX(ns:List Int):(List.range ns.length).map (λi=>ns.getD i 0)=ns:=by
 refine zzt (by simp) λi h1 h2=>?_;simp at h1⊢;simp[h1]
def VN(hc:X.calm=true):nF X (.type "set") (Ud X.K):=by
 intro pins s σ H xs us Q I r h;obtain⟨a,ns,rfl,hq,hl,q⟩:=h;obtain⟨u,rfl,r1⟩:=vals1 r;cases r1;obtain⟨its,rv,pl,hz⟩:=I.list hq;have hi:IntsAre its ns:=intsAre_of rv;have l1:=rv.length;rw[za]at l1;refine call_set_list (I.ok.hd hc) pl.isList hi (by rw[zt,<-l1];show ns.length+1<4096;lia) λh' tk z hk=>?_;rw[show its.toArray.size=ns.length by rw[zt,l1]]at z;unfold firstMet at z;rw[ajX]at z;refine⟨.ref s.heap.objs.size,_,I.laid (t':=tk) (o:=.set _ _) (λb o e=>hk b o (zv e) e) (zm _) z,rfl,q _ _ _ (I.hok.fresh (zm _)) ?_ λhn=>?_⟩
 ·have:=YM ns []
  simpa using this
 ·have:=Ym ns [] hn (λ_ _=>by simp)
  simpa using this
def TJ(q:X.calm=true)(z:X.K=K:=by rfl):nF X (.type "set") (Ud K):=z▸VN q
def akN:List V->Hp->VK->Prop:=λxs H Q=>∃(a:Addr)(S:Int->Bool)(n:Nat),xs=[.ref a]/\H a=some (.set S n)/\Q (.int n) H
def Ze:nF X (.builtin "len") akN:=by
 intro pins s σ H xs us Q I r h;obtain⟨a,S,n,rfl,hq,q⟩:=h;obtain⟨u,rfl,z⟩:=vals1 r;cases z;have ho:=I.hok a _ hq;obtain⟨o,es,ep,t,e1,e2,e3,_,_,e4,e5,e6⟩:=(show s.heap.SetOf (intKind X.prog X.w) a S n from ho);refine call_len_set e1 e2 e3 e5 (by have:es.size<4096:=e4;lia) ?_;rw[e6];exact⟨.int n,H,I.kept (t':=s.toks+1+1) λb o e=>e,⟨_,rfl⟩,q⟩
def ap_setOf:Ud K [.ref a] H Q=∃ns:List Int,SqL K H a (ns.map V.int)/\ns.length<=1000/\∀l S n,H l=none->n<=ns.length->(ns.Nodup->n=ns.length)->Q (.ref l) (upd H l (.set S n)):=by simp[Ud]
def ap_lenSet:akN [.ref a] H Q=∃(S:Int->Bool)(n:Nat),H a=some (.set S n)/\Q (.int n) H:=by simp[akN]
def ap_eqR:amE K (.ref a) (.ref b) H Q=∃(xs ys:List V),SqL K H a xs/\SqL K H b ys/\((xs.length≠ys.length/\Q (.bl false) H)\/(xs=ys/\(∀v∈xs,∃c,v=.ref c)/\Q (.bl true) H)):=by simp[amE]
def ap_neR:amB K (.ref a) (.ref b) H Q=∃(xs ys:List V),SqL K H a xs/\SqL K H b ys/\((xs.length≠ys.length/\Q (.bl true) H)\/(xs=ys/\(∀v∈xs,∃c,v=.ref c)/\Q (.bl false) H)):=by simp[amB]
end
def aaw{xs:List V}{us:List Value}(h:Vals xs us):Vals xs.reverse us.reverse:=by
 induction h with
 |nil=>exact .nil
 |cons r _ ih=>
  rw[List.reverse_cons,List.reverse_cons];exact ih.append (.cons r .nil)
section
variable{K:Fg_}{a:Addr}{xs:List V}{g:TG}{tt:TT}{te:TE}{σ:St}{H:Hp}{Q:VK}{cap:List (Option Nat)}
def lU.enumI(Sσ:St->Prop)(p:Nat->Bool)(hS:SqL K H a xs)(h0:Sσ (rD σ cap))(hz:xs.length<=sizeLine)
  (hs:∀(i:Nat) x,xs[i]? =some x->∀(σ:St)(H5:Hp)(q:Addr)(R1:St->VK)(R2:St->Hp->Prop),Sσ σ->Same H H5->H5 q=some (.tup [.int i,x])->(p i=true->∀z H6,Sσ z->Same H5 H6->R1 z (.int i) H6)->(p i=false->∀z H6,Sσ z->Same H5 H6->R2 z H6)->
   g (.ref q) σ H5 λz H4=>tt z H4 λb H5=>if b=true then te z H5 (R1 z)else R2 z H5)
  (k:∀D H',H D=Option.none->Same H H'->H' D=some (.lst (((List.range xs.length).filter p).map λi:Nat=>V.int i))->Q (.ref D) H'):lU cap (Ite K a) g tt te σ H Q:=by
 intro D hD;refine⟨λi m acc σ H2=>m=xs.length - i/\i<=xs.length/\Sσ σ/\Same H H2/\acc=((List.range i).filter p).map λi:Nat=>V.int i,⟨xs.length,rfl,zM _,h0,ji hD,rfl⟩,?_⟩;rintro i m acc σ1 H2 ⟨rfl,hi,hσ,sm,rfl⟩ hA
 have ad:(((List.range i).filter p).map λi:Nat=>V.int i).length<=i:=by
  rw[za];exact zS (yo _ _) (by simp)
 by_cases ab:i<xs.length
 ·refine .inr ⟨⟨xs,xs[i],sm.seq hS,by simp[ab]⟩,λv H3 hy=>?_⟩
  obtain⟨q,x,hq,rfl,rfl,e1⟩:=hy;have hx:=e1 xs (sm.seq hS);have s3:=ji (o:=.tup [V.int i,x]) hq;refine hs i x hx σ1 _ q _ _ hσ (sm.trans s3) jd (λhp z H6 aa s6=>?_) λhp z H6 aa s6=>?_
  ·have ac:=(s3.trans s6) _ _ hA
   refine⟨_,ac,by lia,xs.length - (i+1),by lia,rfl,ab,aa,(sm.trans (s3.trans s6)).upd hD,?_⟩;rw[List.range_succ,yw,z5 (by simpa using hp),zp];rfl
  ·have ac:=(s3.trans s6) _ _ hA
   refine⟨xs.length - (i+1),by lia,_,ac,rfl,ab,aa,sm.trans (s3.trans s6),?_⟩;rw[List.range_succ,yw,z6 (by simpa using hp),zp];simp
 ·obtain rfl:i=xs.length:=by lia
  exact .inl ⟨⟨xs,sm.seq hS,zm _⟩,k D H2 hD sm hA⟩
end
open PySem.Calls
def Wb(Pt:Addr)(H H':Hp):Prop:=∀b o,b≠Pt->H b=some o->H' b=some o
def Wb.of{q:Addr}{H':Hp}(h:Same H H'):Wb q H H':=λb o _ e=>h b o e
def Wb.trans{q:Addr}{H1 H2:Hp}(h:Wb q H H1)(k:Wb q H1 H2):Wb q H H2:=λb o n e=>k b o n (h b o n e)
structure anp(z TI TO i1 i2 i3 l1 l2 l3:Addr):Prop where
 zz:TI≠z/\TO≠z/\i1≠z/\i2≠z/\i3≠z/\l1≠z/\l2≠z/\l3≠z
 to:TI≠TO/\i1≠TO/\i2≠TO/\i3≠TO/\l1≠TO/\l2≠TO/\l3≠TO
 ii:i1≠i2/\i1≠i3/\i2≠i3
 j1:TI≠i1/\l1≠i1/\l2≠i1/\l3≠i1
 j2:TI≠i2/\l1≠i2/\l2≠i2/\l3≠i2
 j3:TI≠i3/\l1≠i3/\l2≠i3/\l3≠i3
def ajr:typeLookup (.type "list_reverseiterator") "__len__" =pure none:=by rw[typeLookup_type,builtinLookup_eq_fast];kernel_rfl
def aiC:typeLookup (.type "list_reverseiterator") "__length_hint__" =pure (some (.builtin "list_reverseiterator.__length_hint__")):=by rw[typeLookup_type,builtinLookup_eq_fast];kernel_rfl
def ahT:isSubtype (.type "list_reverseiterator") (.type "list_reverseiterator")=pure true:=by rw[isSubtype_type];kernel_rfl
section
variable{prog:Program}{w:World}{A:Around}{s:Shared}{R:Result->Shared->Prop}
def WK{S:Addr}{items:Array Value}{c₀:Nat}{res:Value}(hh:A.in1.handled=none)(z:s.heap.IsRevIter it l ((items.size:Int) - 1))(hl:s.heap.IsList l items)(ae:l≠it)(ab:S≠it)(af:S≠l)(hn:items.size<=sizeLine)
  (hS:s.heap.get? S=some {cls:=.type "list",data:=.seq #[] c₀})
  (hR:∀s' q c',Moved [S,it] (λa b=>b=a) s s'->s'.heap.get? S=some {cls:=.type "list",dict:=none,data:=.seq q c',slots:= #[]}->ItemsOf (λi v=>items[items.size - 1 - i]? =some v) q items.size->R (.ok (.ret res)) s'):
  wpAny (model prog w) A.in1 (Builtin.List.listExtendWith (.ref S) (.ref it) res) (λac s'=>match ac with|.done f=>R (.ok f) s'|.again c'=>c'.quiet=true/\codeAny (model prog w) A c' R s') (λe s'=>R (.error e) s') s:=by
 have W:=Walks.listRev (prog:=prog) (w:=w) hh it l ae items;have hT:=z.typeIs;unfold Builtin.List.listExtendWith;refine ze (yyp hT ?_);have h1:Builtin.List.listSameRef (.ref S) (.ref it)=false:=by simp[Builtin.List.listSameRef,ab]
 have h2:(Value.type "list_reverseiterator" ==Value.type "list")=false:=by decide
 have h3:(Value.type "list_reverseiterator" ==Value.type "tuple")=false:=by decide
 simp only[h1,h2,h3,Bool.or_false,yp,if_false];refine ze (wpAny_pyIter_revIter z (ze (yb ?_)));unfold Builtin.List.listLengthHint;refine ze (zzZ hT ajr ?_);show wpAny _ A.in1 (specialOf (Value.ref it) (Str.ofString "__length_hint__")>>=_) _ _ _
 refine ze (zzZ hT aiC ?_);dsimp only;rw[show splitId "list_reverseiterator.__length_hint__" =some ("list_reverseiterator", "__length_hint__")from by kernel_rfl];dsimp only;refine ze (wpAny_isInstance (T:= "list_reverseiterator") (b:=true) hT ahT ?_);rw[zf (by decide),zi (by kernel_rfl),zf (by decide)];refine zA ?_;rw[zf (by decide+kernel)];refine zA ⟨plainId_quiet F.plain_extend_loop _,codeAny_extend_loopS W.toS hn S (by simp[ab,af]) res items.size 0 _ #[] c₀ rfl (zM _) ⟨zM _,?_,hl⟩ hS (ItemsOf.nil _) λs' q c' hm ad aa=>hR s' q c' hm ad aa⟩;rw[show((items.size:Int) - 1 - ((0:Nat):Int))=(items.size:Int) - 1 by lia];exact z
end
section
variable{prog:Program}{w:World}{A:Around}{E:Value->Shared->Prop}{s:Shared}
def Ny{items:Array Value}{Q:Value->Shared->Prop}(hh:A.in1.in1.handled=none)(ab:s.heap.IsRevIter it l ((items.size:Int) - 1))(hl:s.heap.IsList l items)(ad:l≠it)(hn:items.size<=sizeLine)
  (hQ:∀s' q c',(∀b o,b≠it->s.heap.get? b=some o->s'.heap.get? b=some o)->s'.gens=s.gens->s'.drawn=s.drawn->s'.os=s.os->
   s'.heap.get? s.heap.objs.size=some {cls:=.type "list",dict:=none,data:=.seq q c',slots:= #[]}->ItemsOf (λi v=>items[items.size - 1 - i]? =some v) q items.size->Q (.ref s.heap.objs.size) s'):
  wpAny (model prog w) A (call (.type "list") [.ref it]) Q E s:=by
 have ac:it<s.heap.objs.size:=by obtain⟨o,e,_⟩:=ab;exact zv e
 have lt2:l<s.heap.objs.size:=by obtain⟨o,e,_⟩:=hl;exact zv e
 refine callType_codes (Q₁:=λobj s₁=>obj=.ref s.heap.objs.size/\s₁={s with heap:=s.heap.push {cls:=.type "list",data:=.seq #[]}}) F.called_list (F.typeCall_list_1 _) F.entry_list_init (code_list_new _ ⟨rfl,rfl⟩) λobj s₁ h₁=>?_;obtain⟨rfl,rfl⟩:=h₁;have hS:(s.heap.push {cls:=.type "list",data:=.seq #[]}).get? s.heap.objs.size=some {cls:=.type "list",data:=.seq #[]}:=zB _ rfl;have ae:=Heap.get?_update_self (Obj.mapSeq (λ_=>(#[]:Array Value))) hS rfl
 have z:∀b o,b<s.heap.objs.size->s.heap.get? b=some o->((s.heap.push {cls:=.type "list",data:=.seq #[]}).update s.heap.objs.size (Obj.mapSeq (λ_=>(#[]:Array Value)))).get? b=some o:=λb o hb e=>
  (yQ _ _ (yz hb)).trans (zd _ e)
 refine⟨⟨_,hS,rfl⟩,F.args_list_init_2 _ _,?_⟩;show wpAny _ A.in1.in1 (do let old<-Builtin.List.listItems (.ref s.heap.objs.size);Builtin.List.listUpdate (.ref s.heap.objs.size) (λ_=> #[]);letGo old.toList.reverse;Builtin.List.listExtendWith (.ref s.heap.objs.size) (.ref it) .none) _ _ _;refine ze ?_;unfold Builtin.List.listItems;refine ze (yya hS rfl (zA ?_));show wpAny _ A.in1.in1 (updateSeq s.heap.objs.size (λ_=> #[])>>=λ_=>letGo (#[]:Array Value).toList.reverse>>=λ_=>Builtin.List.listExtendWith (.ref s.heap.objs.size) (.ref it) .none) _ _ _;refine ze (yys hS rfl (ze (yyg ?_)));refine WK (l:=l) (items:=items) hh (ab.at λo e=>z _ o ac e) (hl.at λo e=>z _ o lt2 e) ad (yz ac) (yz lt2) hn ae λs' q c' hm af aa=>?_;refine⟨rfl,hQ s' q c' (λb o hb e=>hm.heap b o (by simp[hb,zE (zv e)]) (z b o (zv e) e)) hm.gens hm.drawn hm.os af aa⟩
end
section
variable{X:Cx}
def Hu(K:Fg_)(t:TA):TE:=λσ H Q=>t σ H λvs H1=>∃a ys,vs=[.ref a]/\SqL K H1 a ys/\∀l,H1 l=none->Q (.ref l) (upd H1 l (.lst ys.reverse))
def VD{p p2 pos aa:Pos}(hc:X.calm=true)(ai:Gl X "list") (aj:X.mg "list" =none) (ag:Gl X "reversed") (ah:X.mg "reversed" =none) (ha:PA X [e] t)
  (hs:starEach [.Call (.Name "reversed" p2) [e] [] aa] X.env=[(false,eval (.Call (.Name "reversed" p2) [e] [] aa) X.env)]:=by rfl) (he:starEach [e] X.env=[(false,eval e X.env)]:=by rfl):
  PE X (.Call (.Name "list" p) [.Call (.Name "reversed" p2) [e] [] aa] [] pos) (Hu X.K t):=by
 intro pins s σ H Q I h;refine yq (BL I ai aj (show bootBuiltins "list" =some (.type "list")from by decide+kernel) ?_);refine PyProof.Rows.callWith_type1 (T:= "list") ?_ (by rw[hs];rfl) rfl;rw[hs];show wpAny _ _ (spliced ((false,eval (.Call (.Name "reversed" p2) [e] [] aa) X.env)::backTo pos [])) _ _ s;refine Calls.spliced_cons (yq (BL I ag ah (show bootBuiltins "reversed" =some (.type "reversed")from by decide+kernel) (PyProof.Rows.callWith_type1 (T:= "reversed") (thn (ha aa pins s σ H _ I h) λus s1 ⟨vs,H1,I1,r1,a,ys,ev,hq,q⟩=>?_) (by rw[he];rfl) rfl)));subst ev;obtain⟨u,rfl,ru⟩:=vals1 r1;cases ru;obtain⟨its,rv,pl,hz⟩:=I1.list hq;have hl:=pl.isList;have af:a<s1.heap.objs.size:=by obtain⟨o,e,_⟩:=hl;exact zv e
 refine call_reversed_list hl (Calls.spliced_nil ?_);have I2:Inv X pins σ H1 {s1 with heap:=s1.heap.push (revObj a ((its.toArray.size:Int) - 1))}:=I1.kept (t':=s1.toks) λb o e=>zd _ e;have ae:(s1.heap.push (revObj a ((its.toArray.size:Int) - 1))).IsRevIter s1.heap.objs.size a ((its.toArray.size:Int) - 1):=⟨_,zB _ rfl,rfl,rfl⟩;have hf:SQ X pins H1 s1.heap.objs.size:=I1.fpOk (zm _) (I1.hok.fresh (zm _));have hsz:its.toArray.size<=sizeLine:=by rw[zt,<-rv.length];exact hz
 refine Ny (s:={s1 with heap:=s1.heap.push (revObj a ((its.toArray.size:Int) - 1))}) (I.ok.hd hc) ae (hl.at λo e=>zd _ e) (zE af) hsz λs' acc c k1 k2 k3 k4 hS ab=>?_;obtain⟨h',g,d,tk,os⟩:=s';obtain rfl:g=s1.gens:=k2;obtain rfl:d=s1.drawn:=k3;obtain rfl:os=s1.os:=k4;have e1:(s1.heap.push (revObj a ((its.toArray.size:Int) - 1))).objs.size=s1.heap.objs.size+1:=zzE ..;rw[show(({s1 with heap:=s1.heap.push (revObj a ((its.toArray.size:Int) - 1))}:Shared).heap.objs.size)=s1.heap.objs.size+1 from e1]at hS⊢
 have ac:acc.toList=its.reverse:=by
  refine zzI λi=>?_;by_cases hi:i<its.length
  ·have ad:i<acc.size:=by rw[ab.1,zt];exact hi
   have h2:its.toArray[its.toArray.size - 1 - i]? =some acc[i]:=ab.2 i acc[i] (zzv ad);rw[yG,zzv ad,List.getElem?_reverse hi];rw[zzP,zt]at h2;exact h2.symm
  ·rw[yc (by rw[z8,ab.1,zt];lia),yc (by rw[List.length_reverse];lia)]
 refine⟨.ref (s1.heap.objs.size+1),_,I2.turnedT (t':=tk) (fp:=[s1.heap.objs.size]) (T:=s1.heap.objs.size+1) (o:=.lst ys.reverse) (λb hb=>by rw[zr.mp hb];exact hf) (yym e1) (λb o hb e=>k1 b o (λz=>hb (by simp[z])) e) ?_,rfl,q _ (I1.hok.fresh (yt _))⟩;refine⟨by rw[List.length_reverse];exact hz,its.reverse,c,aaw rv,?_⟩;rw[<-ac,zzV];exact hS
def RQ(q:X.K=K)(h:PE X e (Hu X.K t)):PE X e (Hu K t):=q▸h
def ap_tListRev:Hu K t σ H Q=t σ H λvs H1=>∃a ys,vs=[.ref a]/\SqL K H1 a ys/\∀l,H1 l=none->Q (.ref l) (upd H1 l (.lst ys.reverse)):=rfl
end
section
variable{prog:Program}{w:World}{A:Around}{R:Result->Shared->Prop}{I:Addr}{fp wr:List Addr}{G:Array GenState->Array GenState->Prop}{n:Nat}{P:Nat->Value->Prop}{St:Nat->Shared->Prop}
def XX(W:WalksS prog w A.in1 I fp wr G n P St)(bt:Nat->Nat->Bool)(ac:CmpOf prog w A.in1 .Lt P bt)(hb:∀j,0<j->j<n->bt j 0=false)(S:Addr)(aj:S∉fp)(dv v0:Value)(ah:P 0 v0):
  ∀(k j:Nat)(s:Shared)(c:Nat),n - (j+1)=k->j+1<=n->St (j+1) s->s.heap.get? S=some {cls:=.type "list",dict:=none,data:=.seq #[v0,v0] c,slots:= #[]}->
  (∀s',Moved (S::wr) G s s'->R (.ok (.ret v0)) s')->codeAny (model prog w) A (.builtin "min.loop" ⟨[.ref I,.none,.ref S],[("default",dv)]⟩) R s:=by
 have af:S∉wr:=λh=>aj (W.sub _ h);have q:∀b∈wr,b∈S::wr:=λb hb=>zn _ hb
 have ai:(toString "min" ++toString ".loop" :String)= "min.loop" :=by decide
 have ad:∀{b:Addr},b∉S::wr->S≠b:=λhb h=>hb (h▸zg);intro k
 induction k with
 |zero=>
  intro j s c hk hj aa hS hR;have ak:j+1=n:=by lia
  refine codeAny_builtin F.entry_min_loop ?_;rw[Around.under_plainId F.plain_min_loop _];show wpAny _ A.in1 (seqItems? (.ref S)>>=_) _ _ s
  refine ze (yya hS rfl ?_);show wpAny _ A.in1 (tryCatch (pyNext (.ref I)) _>>=_) _ _ s
  refine ze (zzr (W.done s _ _ (ak▸aa) λs' hm=>?_));have hS':=hm.heap S _ af hS;show wpAny _ A.in1 (updateSeq S (λ_=> #[])>>=_) _ _ _
  refine ze (yys hS' rfl (ze (yyg (zA (hR _ ((hm.mono q).then_heap (tk:=s'.toks) (zm _) λb o hb e=>(yQ _ _ (ad hb)).trans e))))))
 |succ k ih=>
  intro j s c hk hj aa hS hR;have z:j+1<n:=by lia
  refine codeAny_builtin F.entry_min_loop ?_;rw[Around.under_plainId F.plain_min_loop _];show wpAny _ A.in1 (seqItems? (.ref S)>>=_) _ _ s
  refine ze (yya hS rfl ?_);show wpAny _ A.in1 (tryCatch (pyNext (.ref I)) _>>=_) _ _ s
  refine ze (zzr (W.item (j+1) s _ _ z aa λv s' hP ae hm=>?_));have hS':=hm.heap S _ af hS;show wpAny _ A.in1 (tryCatch (holding [v,v] (richCompare .Lt v v0>>=_)) _>>=_) _ _ _
  refine ze (zzr (yb (ze (ac (j+1) 0 v v0 _ _ _ hP ah (ze (yb (yC (ze (yyg (zA ?_))))))))));rw[hb (j+1) (Nat.succ_pos _) z];simp only[yp,if_false];refine ze (yyg ?_);rw[ai];exact zA ⟨plainId_quiet F.plain_min_loop _,ih (j+1) _ c (by lia) z ae hS' λag ab=>hR ag (Moved.trans W.gtrans (hm.mono q) ab)⟩
def VP(W:WalksS prog w A.in1 I fp wr G n P St)(bt:Nat->Nat->Bool)(aa:CmpOf prog w A.in1 .Lt P bt)(hb:∀j,0<j->j<n->bt j 0=false)(S:Addr)(z:S∉fp)(dv:Value){c:Nat}(ad:St 0 s)(hS:s.heap.get? S=some {cls:=.type "list",dict:=none,data:=.seq #[] c,slots:= #[]})
  (hR:∀v s',(n=0->v=dv)->(0<n->P 0 v)->Moved (S::wr) G s s'->R (.ok (.ret v)) s'):codeAny (model prog w) A (.builtin "min.loop" ⟨[.ref I,.none,.ref S],[("default",dv)]⟩) R s:=by
 have ai:S∉wr:=λh=>z (W.sub _ h);have q:∀b∈wr,b∈S::wr:=λb hb=>zn _ hb
 have af:(toString "min" ++toString ".loop" :String)= "min.loop" :=by decide
 have ab:∀{b:Addr},b∉S::wr->S≠b:=λhb h=>hb (h▸zg);refine codeAny_builtin F.entry_min_loop ?_;rw[Around.under_plainId F.plain_min_loop _];show wpAny _ A.in1 (seqItems? (.ref S)>>=_) _ _ s
 refine ze (yya hS rfl ?_);show wpAny _ A.in1 (tryCatch (pyNext (.ref I)) _>>=_) _ _ s
 by_cases hn:n=0
 ·refine ze (zzr (W.done s _ _ (hn▸ad) λs' hm=>?_))
  show wpAny _ A.in1 (rule _>>=_) _ _ _;exact ze (wpAny_rule (zA (hR dv _ (λ_=>rfl) (λh=>absurd h (by lia)) (hm.mono q))))
 ·have hp:0<n:=by lia
  refine ze (zzr (W.item 0 s _ _ hp ad λv s' hP ac hm=>?_));have hS':=hm.heap S _ ai hS;show wpAny _ A.in1 (updateSeq S (λ_=> #[v,v])>>=_) _ _ _
  refine ze (yys hS' rfl ?_);rw[af];refine zA ⟨plainId_quiet F.plain_min_loop _,XX W bt aa hb S z dv v hP _ 0 _ _ rfl hp (W.frame _ s' _ s'.toks ac (zm _) λb ah o e=>(yQ _ _ (λh:S=b=>z (by rw[h];exact ah))).trans e) (Heap.get?_update_self _ hS' rfl) λag ae=>?_⟩;exact hR v ag (λh=>absurd h hn) (λ_=>hP) (Moved.trans W.gtrans ((hm.mono q).then_heap (by first|exact zm _|exact yt _|lia) λb o hb e=>(yQ _ _ (ab hb)).trans e) ae)
end
def anJ(a v:Value):argsOk "min" ⟨[a],[(Str.ofString "default",v)]⟩:=by unfold argsOk;kernel_rfl
section
variable{prog:Program}{w:World}{A:Around}{E:Value->Shared->Prop}{s:Shared}
def Ol{ns:List Int}{dv:Value}{Q:Value->Shared->Prop}(hh:A.in1.handled=none)(hl:s.heap.IsList l its.toArray)(hi:IntsAre its ns)(ad:ns.Pairwise (·<·))
  (hQ:∀v h' tk,(ns=[]->v=dv)->(∀n r,ns=n::r->∃t,v=.int n t)->(∀b o,s.heap.get? b=some o->h'.get? b=some o)->Q v {s with heap:=h',toks:=tk}):
  wpAny (model prog w) A (call (.builtin "min") [.ref l] [(Str.ofString "default",dv)]) Q E s:=by
 have ah:(toString "min" ++toString ".loop" :String)= "min.loop" :=by decide
 have ac:l<s.heap.objs.size:=by obtain⟨o,e,_⟩:=hl;exact zv e
 have aa:wpAny (model prog w) A.in1 (Builtin.«min» ⟨[.ref l],[(Str.ofString "default",dv)]⟩) (λai s'=>match ai with
   |.done f=>(match(Except.ok f:Result)with|.ok (.ret v)=>Q v s'|.ok _=>False|.error e=>E e s')
   |.again c'=>c'.quiet=true/\codeAny (model prog w) A c' (λr s'=>match r with|.ok (.ret v)=>Q v s'|.ok _=>False|.error e=>E e s') s') E s:=by
  show wpAny _ A.in1 (Builtin.Builtins.bindParams "min" ["key", "default"] 0 ⟨[],[(Str.ofString "default",dv)]⟩>>=_) _ _ s;refine ze (wpAny_of_eq (show Builtin.Builtins.bindParams "min" ["key", "default"] 0 ⟨[],[(Str.ofString "default",dv)]⟩=pure [none,some dv]from rfl) (ze (zA (ze (yN hl ?_)))))
  have ia:∀(i:Nat) v,its.toArray[i]? =some v->∃t,v=.int (ns.getD i 0) t:=λi v e=>by
   rw[zzP]at e;have rv:=xU hi;have aj:i<its.length:=(zk.mp e).1;have ag:i<ns.length:=by have:=rv.length;rw[za]at this;lia
   obtain⟨u,hu,ru⟩:=rv.get (show(ns.map V.int)[i]? =some (.int ns[i]) by rw[zo,zq ag];rfl);rw[e]at hu;obtain rfl:=zy hu;obtain⟨t,rfl⟩:=ru;exact⟨t,by simp[ag]⟩
  have q:its.length=ns.length:=by have:=(xU hi).length;rw[za]at this;exact this.symm
  refine ze (zzy ?_ (zM _));rw[ah];have W:=(Walks.list (prog:=prog) (w:=w) (A:=A.in1) hh s.heap.objs.size l (zE ac) its.toArray).toS;have e1:(s.heap.push {cls:=.type "list_iterator",data:=.fields #[.ref l,.int 0 0]}).objs.size=s.heap.objs.size+1:=zzE ..;refine zA ⟨plainId_quiet F.plain_min_loop _,VP W _ (CmpOf.ints_lt (λi=>ns.getD i 0) ia) (λj h0 hj=>?_) _ ?_ dv ?_ (zB _ rfl) λv s' h1 h2 hm=>?_⟩
  ·rw[zt,q]at hj
   have ae:0<ns.length:=by lia
   have:=yh.mp ad 0 j ae hj h0;have ej:ns.getD j 0=ns[j]:=by simp[hj]
   have e0:ns.getD 0 0=ns[0]:=by simp[ae]
   rw[ej,e0];exact zJ (by lia)
  ·show(s.heap.push _).objs.size∉[s.heap.objs.size,l]
   rw[e1];simp only[zx,zj,or_false,not_or];exact⟨Nat.succ_ne_self _,λz=>absurd ac (Nat.not_lt.mpr (z▸yt _))⟩
  ·exact⟨⟨_,zd _ (zB _ rfl),rfl,rfl⟩,hl.at λo e=>zd _ (zd _ e)⟩
  ·obtain⟨h',g,d,tk,os⟩:=s'
   obtain rfl:g=s.gens:=hm.gens;obtain rfl:d=s.drawn:=hm.drawn;obtain rfl:os=s.os:=hm.os;refine hQ v h' tk (λe=>h1 (by rw[zt,q,e];rfl)) (λn r e=>?_) λb o e=>hm.heap b o ?_ (zd _ (zd _ e))
   ·obtain⟨t,rfl⟩:=ia 0 v (h2 (by rw[zt,q,e];exact Nat.succ_pos _))
    exact⟨t,by rw[e];rfl⟩
   ·have ab:=zv e
    have e2:({s with heap:=s.heap.push {cls:=.type "list_iterator",data:=.fields #[.ref l,.int 0 0]}}:Shared).heap.objs.size=s.heap.objs.size+1:=e1;rw[e2];simp only[zx,zj,or_false,not_or];exact⟨λz=>absurd ab (Nat.not_lt.mpr (z▸yt _)),zE ab⟩
 refine yyo (codeAny_call_builtin F.plain_min F.entry_min ?_);simp only[checkBuiltinCall,F.kind_min]
 cases af:Manifest.signature? "min" with
 |none=>exact zA aa
 |some sig=>
  have ha':Bind.checkArgs "min" sig ⟨[.ref l],[(Str.ofString "default",dv)]⟩=pure ():=by simpa only[argsOk,af] using anJ (.ref l) dv
  simp only[ha'];exact zA aa
end
section
variable{X:Cx}
def aiB(K:Fg_)(t:TA)(td:TE):TE:=λσ H Q=>t σ H λvs H1=>td σ H1 λy H2=>∃(a:Addr)(ns:List Int)(i:Int),vs=[.ref a]/\[y]=[.int i]/\SqL K H2 a (ns.map V.int)/\ns.Pairwise (·<·)/\Q (.int (ns.headD i)) H2
def aky{d:Expr}{p kpos pos:Pos}(hc:X.calm=true)(hg:Gl X "min") (hm:X.mg "min" =none) (ha:PA X [e] t) (hd:PE X d td)
  (he:backTo pos (starEach [e] X.env)=(false,eval e X.env)::backTo pos (starEach [] X.env):=by rfl) (hpl:(backTo pos (starEach [e] X.env)).any (·.1)=false:=by rfl):
  PE X (.Call (.Name "min" p) [e] [⟨some "default",d,kpos⟩] pos) (aiB X.K t td):=by
 intro pins s σ H Q I h;refine yq (BL I hg hm (show bootBuiltins "min" =some (.builtin "min")from by decide+kernel) ?_);refine callWith_kw (thn (ha pos pins s σ H _ I h) λus s1 ⟨vs,H1,I1,r,q1⟩=>?_) he hpl;have hk:PK X [⟨some "default",d,kpos⟩] (ql td Vw):=YG hd aja;refine thn (hk pos pins s1 σ H1 (λzs H2=>∃(a:Addr)(ns:List Int)(i:Int),vs=[.ref a]/\zs=[.int i]/\SqL X.K H2 a (ns.map V.int)/\ns.Pairwise (·<·)/\Q (.int (ns.headD i)) H2) I1 q1) λws s2 ⟨zs,H2,I2,rz,a,ns,i,ev,ey,hS,z,q⟩=>?_;subst ev ey;obtain⟨u,rfl,ru⟩:=vals1 r;cases ru;obtain⟨v1,rfl,aa⟩:=vals1 rz;obtain⟨ab,rfl⟩:=aa;obtain⟨its,rv,pl,hz⟩:=I2.list hS;refine Ol (ns:=ns) (I.ok.hd hc) pl.isList (intsAre_of rv) z λv h' tk h1 h2 k=>⟨.int (ns.headD i),H2,I2.kept (t':=tk) k,?_,q⟩
 cases ns with
 |nil=>rw[h1 rfl];exact⟨_,rfl⟩
 |cons n r=>obtain⟨t,rfl⟩:=h2 n r rfl;exact⟨_,rfl⟩
def ap_tMinD:aiB K t td σ H Q=t σ H λvs H1=>td σ H1 λy H2=>∃(a:Addr)(ns:List Int)(i:Int),vs=[.ref a]/\[y]=[.int i]/\SqL K H2 a (ns.map V.int)/\ns.Pairwise (·<·)/\Q (.int (ns.headD i)) H2:=rfl
def ahV(q:X.K=K)(h:PE X e (aiB X.K t td)):PE X e (aiB K t td):=q▸h
end
def ap_break{D:Ends}:ajn D σ H=D.bk σ H:=rfl
section
variable{X:Cx}
def Ue(K:Fg_):List V->Hp->VK->Prop:=λxs H Q=>∃(a:Addr)(ns:List Int),xs=[.ref a]/\SqL K H a (ns.map V.int)/\ns.length<64/\
 ∀p (ms:List Int),H p=none->ms.Perm ns->(ms.Pairwise λx y=>x<=y)->Q (.ref p) (upd H p (.lst (ms.map V.int)))
def Wt:nF X (.builtin "sorted") (Ue X.K):=by
 intro pins s σ H xs us Q I r h;obtain⟨a,ns,rfl,hq,aa,q⟩:=h;obtain⟨u,rfl,rx⟩:=vals1 r;cases rx;obtain⟨its,z,pl,hz⟩:=I.list hq;have hi:IntsAre its ns:=intsAre_of z;have ab:its.length=ns.length:=by rw[<-z.length,za]
 refine sorted_ints pl.isList hi (by lia) λout ms h1 h2 h3=>?_;obtain⟨c,hc⟩:=sortedAll_at s.heap its out;refine⟨.ref (s.heap.objs.size+1),_,I.laid (t':=s.toks) (o:=.lst (ms.map V.int)) (λb o e=>sortedAll_old e) (yt _) ?_,rfl,q _ _ (I.hok.fresh (yt _)) h2 h3⟩;refine⟨by rw[za,h2.length_eq,zw];lia,out.toList,c,xU h1,?_⟩;rw[hc,zzV]
def Ss(q:X.K=K:=by rfl):nF X (.builtin "sorted") (Ue K):=q▸Wt
def ap_rSortI:Ue K [.ref a] H Q=∃(ns:List Int),SqL K H a (ns.map V.int)/\ns.length<64/\
 ∀p (ms:List Int),H p=none->ms.Perm ns->(ms.Pairwise λx y=>x<=y)->Q (.ref p) (upd H p (.lst (ms.map V.int))):=by simp[Ue]
end
noncomputable def Ho(v a:Addr):HO:=.ext λh=>h.IsItemsView v a
noncomputable def Iti(a:Addr)(o:Obj)(kvs:List (Key×V)):It:=⟨λi H=>H a=some (.frz o (.dK kvs))/\i<kvs.length,λi H x H'=>∃p k v,H p=none/\x=.ref p/\H'=upd H p (.tup [kV k,v])/\kvs[i]? =some (k,v),λi H=>H a=some (.frz o (.dK kvs))/\kvs.length<=i⟩
def aaD:entryFor table "dict_itemiterator.__iter__" =some Builtin.«dict_keyiterator.__iter__»:=entryFor_alias (id':= "dict_keyiterator.__iter__") (by kernel_rfl) (by decide+kernel) (by decide+kernel) (by kernel_rfl)
def Sg{n:Nat}{ok ov:Value}{Q:Value->Shared->Prop}(z:IsItemIter s.heap it d i n ep ok ov)(h:Q (.ref it) s):wpAny (model P w) A (pyIter (.ref it)) Q E s:=by
 have q:s.TypeIs (.ref it) "dict_itemiterator" :=⟨_,z,rfl⟩;refine yyf q F.slot_dict_itemiterator_iter (zzd F.slot_dict_itemiterator_iter q aaD ?_ (F.args_dict_itemiterator_iter_1 _));show wpAny _ _ (ret (.ref it)) _ _ s;exact zA ⟨_,rfl, "dict_itemiterator",_,q,F.slot_dict_itemiterator_next.lookup,h⟩
def Zv{k:Key}(h:(jU P w).is k u=true):RelV (kV k) u:=by
 rcases mj h with⟨i,t,rfl,rfl⟩|⟨x,t,rfl,rfl⟩
 ·exact⟨t,rfl⟩
 ·exact⟨t,rfl⟩
def Wa{elts:List Expr}{x1:Nat}(ad:o.data=.dict es ep):Turn P w K (.Tuple elts x1 pos) (Iti a o kvs) [it] it (λi h=>∃ok ov,IsItemIter h it a i kvs.length ep ok ov) where
 mem:=by simp
 obj:=λi h st b hb=>by
  obtain rfl:b=it:=by simpa using hb
  obtain⟨ok,ov,e⟩:=st;exact⟨_,e,λv z=>by cases z⟩
 keep:=λi h h' st k=>let⟨ok,ov,e⟩:=st;⟨ok,ov,k it (by simp) _ e⟩
 item:=by
  intro X hP hw hK hc i pins s σ H E I hf st hg;subst hP hw hK;obtain⟨ag,am⟩:=hg;obtain⟨vs,rel,af⟩:=Mj I ag ad;have ac:kvs.length=vs.length:=z7 rel;obtain⟨⟨k0,v0⟩,hx⟩:∃q,vs[i]? =some q:=⟨_,zq (by lia)⟩;obtain⟨p,hp,e1,e2⟩:=vg rel hx;obtain⟨ok,ov,aa⟩:=st;rw[ac]at aa;refine wpAny_pyNext_items_item aa af (k:=k0) (v:=v0) hx λkey h' al ah aj hsz ae=>?_;refine⟨_,rfl,wpAny_letOwnedTupleGo_items (s:={s with heap:=h'}) ah λak ab sb=>?_⟩;have an:s.heap.objs.size≠it:=yz (zv aa)
  have k:∀c o,c∉[it]->s.heap.get? c=some o->ak.get? c=some o:=λc o hc e=>by
   have hc':c≠it:=by simpa using hc
   exact(sb.2 c hc').trans (ae c o hc' e)
  have ai:ak.get? s.heap.objs.size=some {cls:=.type "tuple",data:=.seq #[key,v0]}:=(sb.2 _ an).trans aj;rw[<-ac]at ab
  refine ⟨.ref s.heap.objs.size,upd H s.heap.objs.size (.tup [kV p.1,p.2]),I.turnedT (t':=s.toks) hf (zm _) k ⟨by rw[zw];simp,[key,v0],.cons (Zv (by rw[show p.1=k0 from e1];exact al)) (.cons e2 .nil),_,ai,rfl,_,rfl⟩,rfl,
   ⟨_,p.1,p.2,I.hok.fresh (zm _),rfl,rfl,hp⟩,⟨_,_,ab⟩,λc hb=>?_⟩
  obtain rfl:c=it:=by simpa using hb
  rw[jn (zE (zv aa))];exact(hf c hb).1
 done:=by
  intro X hP hw hK hc i pins s σ H E I hf st hg;subst hP hw hK;obtain⟨ag,am⟩:=hg;obtain⟨vs,rel,af⟩:=Mj I ag ad;have ac:kvs.length=vs.length:=z7 rel;obtain⟨ok,ov,aa⟩:=st;rw[ac]at aa;obtain⟨f0,f1,f2,f3,f4,f5⟩:=hf it (by simp);exact wpAny_pyNext_items_end (I.ok.hd hc) aa af (by simp;lia) λh' eb=>⟨rfl,I.turned (t':=s.toks) (λb o hb e=>eb b o hb e) f0 f1 f3 f4 f5⟩
 self:=λ_ _ _ _ _ ⟨_,_,st⟩ h=>Sg st h
section
variable{X:Cx}{elts:List Expr}{x1:Nat}{tpos:Pos}
def aiV(tl:TE):TI:=λσ H R=>tl σ H λx H1=>∃v a kvs,x=.ref v/\H1 v=some (Ho v a)/\H1 a=some (.dK kvs)/\∀o,R (Iti a o kvs) (upd H1 a (.frz o (.dK kvs)))
def Vm{l:Expr}(hl:PE X l tl):PI X (.Tuple elts x1 tpos) l (aiV tl):=by
 intro pins s σ H R I h;refine thn (hl pins s σ H _ I h) λu s1 ⟨x,H1,I1,r1,v,a,kvs,ex,hv,ha,q⟩=>?_;subst ex;cases r1;obtain⟨aa,_,_⟩:=(show mO X.prog X.w H1 s1.heap v (Ho v a)from I1.hok v _ hv);obtain⟨z,ab,vs,rel,o,es,ep,q1,q2,q3,q4⟩:=(show mO X.prog X.w H1 s1.heap a (.dK kvs)from I1.hok a _ ha);have ad:kvs.length=vs.length:=z7 rel;have ac:s1.heap.DictAt (jU X.prog X.w) a vs ep:=⟨o,es,q1,q2,q3,q4⟩;refine wpAny_pyIter_items aa ac ?_;have I2:Inv X pins σ (upd H1 a (.frz o (.dK kvs))) s1:=I1.write (t':=s1.toks) (h':=s1.heap) (by rw[ha];exact True.intro) (.inl rfl) (λb u _ e=>e) ⟨o,q1⟩ (show mO X.prog X.w _ s1.heap a (.frz o (.dK kvs))from⟨q1,z,ab,vs,rel,o,es,ep,q1,q2,q3,q4⟩);refine⟨s1.heap.objs.size,[s1.heap.objs.size],_,_,_,rfl,I2.kept (t':=s1.toks) λb o e=>zd _ e,Wa q3,⟨.none,.none,by rw[ad];exact zB _ rfl⟩,λb hb=>?_,q o⟩;obtain rfl:b=s1.heap.objs.size:=by simpa using hb
 exact I2.fpOk (zm _) (I2.hok.fresh (zm _))
def Xk:V->List V->Hp->VK->Prop:=λx vs H Q=>∃a kvs,x=.ref a/\vs=[]/\H a=some (.dK kvs)/\∀v,H v=none->Q (.ref v) (upd H v (Ho v a))
def Vo:MtR X "dict.items" Xk:=by
 intro pins s σ H x vs v us Q I rx rv h;obtain⟨a,kvs,rfl,rfl,ha,q⟩:=h;cases rx;have ab:=rv.zero;subst ab;obtain⟨z,aa,ws,rel,dd⟩:=VL I.hok ha;refine zzg zzB dd.typeIs PySem.F.entry_dict_items (PySem.F.args_dict_items_1 _) (meets_dict_items (jU X.prog X.w) a aa) ⟨⟨ws,dd⟩,?_⟩;have hg:(s.heap.push {cls:=.type "dict_items",data:=.fields #[.ref a]}).IsItemsView s.heap.objs.size a:=⟨_,zB _ rfl,rfl,rfl⟩;exact⟨.ref s.heap.objs.size,_,I.laid (a:=s.heap.objs.size) (o:=Ho s.heap.objs.size a) (t':=s.toks) (λb o e=>zd _ e) (zm _) ⟨hg,⟨_,zB _ rfl⟩,λh1 h2 ⟨ov,e1,e2⟩ k=>⟨ov,k ov e1,e2⟩⟩,rfl,q _ (I.hok.fresh (zm _))⟩
end
section
variable{K:Fg_}{σ:St}{H:Hp}{Q:VK}{R:It->Hp->Prop}{tl:TE}{g:TG}{tt:TT}{te:TE}{cap:List (Option Nat)}{a:Addr}{o:Obj}{kvs:List (Key×V)}
def ap_iItems:aiV tl σ H R=tl σ H λx H1=>∃v a kvs,x=.ref v/\H1 v=some (Ho v a)/\H1 a=some (.dK kvs)/\∀o,R (Iti a o kvs) (upd H1 a (.frz o (.dK kvs))):=rfl
def ap_rItems:Xk (.ref a) [] H Q=∃kvs,H a=some (.dK kvs)/\∀v,H v=none->Q (.ref v) (upd H v (Ho v a)):=by simp[Xk]
def lU.itemsF(Sσ:St->Prop)(q:Key×V->Bool)(F:Key×V->V->Hp->Prop)(hH:H a=some (.frz o (.dK kvs)))(h0:Sσ (rD σ cap))(hz:kvs.length<=sizeLine)
  (hs:∀(D:Addr)(i:Nat)(z:Key×V),kvs[i]? =some z->∀(σ:St)(H5:Hp)(p:Addr)(R1:St->VK)(R2:St->Hp->Prop),Sσ σ->Same H H5->H D=Option.none->(∃acc,H5 D=some (.lst acc))->H5 p=Option.none->
   (q z=true->∀v σ4 H6,Sσ σ4->Same (upd H5 p (.tup [kV z.1,z.2])) H6->(∀H',But D H6 H'->F z v H')->R1 σ4 v H6)->(q z=false->∀σ4 H6,Sσ σ4->Same (upd H5 p (.tup [kV z.1,z.2])) H6->R2 σ4 H6)->
   g (.ref p) σ (upd H5 p (.tup [kV z.1,z.2])) λσ4 H4=>tt σ4 H4 λb H5=>if b=true then te σ4 H5 (R1 σ4)else R2 σ4 H5)
  (k:∀D H' acc,H D=Option.none->Same H H'->H' D=some (.lst acc)->acc.length=(kvs.filter q).length->(∀(i:Nat) v,acc[i]? =some v->∃z,(kvs.filter q)[i]? =some z/\F z v H')->Q (.ref D) H'):lU cap (Iti a o kvs) g tt te σ H Q:=by
 intro D hD;refine⟨λi m acc σ H2=>m=kvs.length - i/\i<=kvs.length/\Sσ σ/\Same H H2/\acc.length=((kvs.take i).filter q).length/\∀(j:Nat) v,acc[j]? =some v->∃z,((kvs.take i).filter q)[j]? =some z/\∀H',But D H2 H'->F z v H',⟨kvs.length,rfl,zM _,h0,ji hD,rfl,λj v e=>by simp at e⟩,?_⟩;rintro i m acc σ1 H2 ⟨rfl,hi,hσ,sm,ad,hF⟩ hA;by_cases af:i<kvs.length
 ·refine .inr ⟨⟨sm _ _ hH,af⟩,λy H3 hy=>?_⟩
  obtain⟨p,k0,v0,hp,rfl,rfl,ag⟩:=hy;have htk:kvs.take (i+1)=kvs.take i++[(k0,v0)]:=by rw[zK,ag];rfl
  have al:((kvs.take i).filter q).length<=i:=zS (yo _ _) (by rw[zT];lia);have sn:=ji (o:=.tup [kV k0,v0]) hp;refine hs D i (k0,v0) ag σ1 H2 p _ _ hσ sm hD ⟨_,hA⟩ hp (λhf v σ4 H6 ae s6 ak=>?_) λhf σ4 H6 ae s6=>?_
  ·have aa:=sn.trans s6
   have ai:=aa _ _ hA;have ac:(kvs.take (i+1)).filter q=(kvs.take i).filter q++[(k0,v0)]:=by rw[htk,yw,z5 hf];rfl
   refine⟨acc,ai,by lia,kvs.length - (i+1),by lia,rfl,af,ae,(sm.trans aa).upd hD,by rw[zC,ad,ac,zC];rfl,λj u hj=>?_⟩;rw[ac];by_cases aj:j<acc.length
   ·rw[ya aj]at hj
    obtain⟨z,h1,h2⟩:=hF j u hj;refine⟨z,?_,λH' hb=>h2 H' λb o ab e=>hb b o ab ((jn ab).trans (aa _ _ e))⟩;rw[ya (by lia)];exact h1
   ·rw[z4 (by lia)]at hj
    have ah:j - acc.length=0:=by
     have:=(zk.mp hj).1;simp at this;lia
    rw[ah]at hj;cases hj;refine⟨(k0,v0),?_,λH' hb=>ak H' λb o ab e=>hb b o ab ((jn ab).trans e)⟩;rw[z4 (by lia),show j - ((kvs.take i).filter q).length=0 by lia];rfl
  ·have aa:=sn.trans s6
   have ac:(kvs.take (i+1)).filter q=(kvs.take i).filter q:=by rw[htk,yw,z6 (by rw[hf];decide)];simp
   refine⟨kvs.length - (i+1),by lia,acc,aa _ _ hA,rfl,af,ae,sm.trans aa,by rw[ac,ad],λj u hj=>?_⟩;rw[ac];obtain⟨z,h1,h2⟩:=hF j u hj;exact⟨z,h1,λH' hb=>h2 H' λb o ab e=>hb b o ab (aa _ _ e)⟩
 ·obtain rfl:i=kvs.length:=by lia
  rw[zX]at ad hF;refine .inl ⟨⟨sm _ _ hH,zm _⟩,k D H2 acc hD sm hA ad λj v e=>?_⟩;obtain⟨z,h1,h2⟩:=hF j v e;exact⟨z,h1,h2 H2 λb o _ e=>e⟩
end
def Alike(ka kb:List (Key×V)):Prop:=ka.length=kb.length/\∀kv∈ka,∃i:Int,kv.2=.int i/\oM kb kv.1=some (.int i)
def akg{kb:List (Key×V)}{vb:List (Key×Value)}(rb:KV kb vb):∀{ka:List (Key×V)}{va:List (Key×Value)},KV ka va->(∀kv∈ka,∃i:Int,kv.2=.int i/\oM kb kv.1=some (.int i))->PySem.W.KeqHits A s vb va true:=by
 intro ka va r
 induction r with
 |nil=>intro _;exact .nil
 | @cons p q ps qs h t ih=>
  intro z;obtain⟨i,e1,e2⟩:=z p zg;obtain⟨h1,h2⟩:=h;rw[e1]at h2;obtain⟨t1,e3⟩:=(show∃t,q.2=Value.int i t from h2);obtain⟨y,hy,ry⟩:=KH.some_of (v:=.int i) (o:=valueAt vb p.1) (by rw[<-e2];exact rb.val p.1);obtain⟨t2,e4⟩:=(show∃t,y=Value.int i t from ry);subst e4;have hh:PySem.W.KeqHits A s vb ((q.1,q.2)::qs) ((i==i) && true):=.hit (by rw[<-h1];exact hy) (by rw[e3];exact SeqAt.EqAt.int_int i t1 i t2) (ih λkv aa=>z kv (zn _ aa))
  simpa using hh
section
variable{X:Cx}
def amS:R2:=λx y H Q=>∃(a b:Addr)(ka kb:List (Key×V)),x=.ref a/\y=.ref b/\Rd H a (.dK ka)/\Rd H b (.dK kb)/\Alike ka kb/\Q (.bl false) H
def aiQ{k:Nat}(hr:qY k X.A):OpR X (compareOp .NotEq) amS:=by
 intro pins s σ H x y v u Q I rx ry h;obtain⟨a,b,ka,kb,rfl,rfl,h1,h2,⟨hl,z⟩,q⟩:=h;have hr':=hr.units;cases rx;cases ry;obtain⟨_,s1,va,ra,da⟩:=Ku I.hok h1;obtain⟨_,s2,vb,rb,db⟩:=Ku I.hok h2;refine PySem.W.keq_ne s1 s2 da db (by lia) (λ_=>akg rb ra z) ⟨.bl false,H,I,?_,q⟩;rw[<-ra.length,<-rb.length,hl];simp;rfl
def ap_neM:amS (.ref a) (.ref b) H Q=∃(ka kb:List (Key×V)),Rd H a (.dK ka)/\Rd H b (.dK kb)/\Alike ka kb/\Q (.bl false) H:=by simp[amS]
end
noncomputable def Itk(a:Addr)(o:Obj)(kvs:List (Key×V)):It:=⟨λi H=>H a=some (.frz o (.dK kvs))/\i<kvs.length,λi H x H'=>H'=H/\∃kv,kvs[i]? =some kv/\x=kV kv.1,λi H=>H a=some (.frz o (.dK kvs))/\kvs.length<=i⟩
def ZV{n:Nat}{Q:Value->Shared->Prop}(q:s.heap.IsKeyIter it d i n ep)(h:Q (.ref it) s):wpAny (model P w) A (pyIter (.ref it)) Q E s:=by
 refine yyf q.typeIs F.slot_dict_keyiterator_iter (zzd F.slot_dict_keyiterator_iter q.typeIs F.entry_dict_keyiterator_iter ?_ (F.args_dict_keyiterator_iter_1 _));show wpAny _ _ (ret (.ref it)) _ _ s;exact zA ⟨_,rfl, "dict_keyiterator",_,q.typeIs,F.slot_dict_keyiterator_next.lookup,h⟩
def Zd{tg:Expr}(ab:o.data=.dict es ep):Turn P w K tg (Itk a o kvs) [it] it (λi h=>h.IsKeyIter it a i kvs.length ep) where
 mem:=by simp
 obj:=λi h st b hb=>by
  obtain rfl:b=it:=by simpa using hb
  obtain⟨oi,e,c,dd⟩:=st;exact⟨oi,e,λv z=>by rw[dd]at z;cases z⟩
 keep:=λi h h' st k=>let⟨oi,e,r⟩:=st;⟨oi,k it (by simp) oi e,r⟩
 item:=by
  intro X hP hw hK hc i pins s σ H E I hf st hg;subst hP hw hK;obtain⟨ad,ag⟩:=hg;obtain⟨vs,rel,ac⟩:=Mj I ad ab;have aa:kvs.length=vs.length:=z7 rel;obtain⟨f0,f1,f2,f3,f4,f5⟩:=hf it (by simp);obtain⟨⟨k0,v0⟩,hx⟩:∃q,vs[i]? =some q:=⟨_,zq (by lia)⟩;obtain⟨p,hp,e1,e2⟩:=vg rel hx;rw[aa]at st;refine wpAny_pyNext_dict_item st ac (k:=k0) (v:=v0) hx λkey h' af ae sb=>?_;have I1:Inv X pins σ H {s with heap:=h'}:=I.turned (t':=s.toks) (λb o hb e=>(sb.2 b hb).trans e) f0 f1 f3 f4 f5;obtain⟨oi,e,c,dd⟩:=id ae;rw[<-aa]at ae;exact⟨_,rfl,WY (s:={s with heap:=h'}) e c dd (by decide) ⟨kV p.1,H,I1,Zv (by rw[show p.1=k0 from e1];exact af),⟨rfl,p,hp,rfl⟩,ae,λb hb=>(hf b hb).1⟩⟩
 done:=by
  intro X hP hw hK hc i pins s σ H E I hf st hg;subst hP hw hK;obtain⟨ad,ag⟩:=hg;obtain⟨vs,rel,ac⟩:=Mj I ad ab;have aa:kvs.length=vs.length:=z7 rel;obtain⟨f0,f1,f2,f3,f4,f5⟩:=hf it (by simp);rw[aa]at st;exact wpAny_pyNext_dict_end (I.ok.hd hc) st ac (by simp;lia) λh' eb=>⟨rfl,I.turned (t':=s.toks) (λb o hb e=>eb b o hb e) f0 f1 f3 f4 f5⟩
 self:=λ_ _ _ _ _ st h=>ZV st h
section
variable{X:Cx}{tg:Expr}
def amd(tl:TE):TI:=λσ H R=>tl σ H λx H1=>∃a kvs,x=.ref a/\H1 a=some (.dK kvs)/\∀o,R (Itk a o kvs) (upd H1 a (.frz o (.dK kvs)))
def akc{l:Expr}(hl:PE X l tl):PI X tg l (amd tl):=by
 intro pins s σ H R I h;refine thn (hl pins s σ H _ I h) λu s1 ⟨x,H1,I1,r1,a,kvs,ex,ha,q⟩=>?_;subst ex;cases r1;obtain⟨z,aa,vs,rel,o,es,ep,q1,q2,q3,q4⟩:=(show mO X.prog X.w H1 s1.heap a (.dK kvs)from I1.hok a _ ha);have ac:kvs.length=vs.length:=z7 rel;have ab:s1.heap.DictAt (jU X.prog X.w) a vs ep:=⟨o,es,q1,q2,q3,q4⟩;refine wpAny_pyIter_dict aa ab ?_;have I2:Inv X pins σ (upd H1 a (.frz o (.dK kvs))) s1:=I1.write (t':=s1.toks) (h':=s1.heap) (by rw[ha];exact True.intro) (.inl rfl) (λb u _ e=>e) ⟨o,q1⟩ (show mO X.prog X.w _ s1.heap a (.frz o (.dK kvs))from⟨q1,z,aa,vs,rel,o,es,ep,q1,q2,q3,q4⟩);refine⟨s1.heap.objs.size,[s1.heap.objs.size],_,_,_,rfl,I2.kept (t':=s1.toks) λb o e=>zd _ e,Zd q3,⟨_,zB _ rfl,rfl,by rw[ac];rfl⟩,λb hb=>?_,q o⟩;obtain rfl:b=s1.heap.objs.size:=by simpa using hb
 exact I2.fpOk (zm _) (I2.hok.fresh (zm _))
end
section
variable{K:Fg_}{σ:St}{H:Hp}{R:It->Hp->Prop}{tl:TE}{g:TG}{tb:TS}{D:Ends}{a:Addr}{o:Obj}{kvs:List (Key×V)}
def ap_iKeys:amd tl σ H R=tl σ H λx H1=>∃a kvs,x=.ref a/\H1 a=some (.dK kvs)/\∀o,R (Itk a o kvs) (upd H1 a (.frz o (.dK kvs))):=rfl
def Eg.keys(q:Nat->St->Hp->Prop)(h0:q 0 σ H)(hl:∀i σ H,i<=kvs.length->q i σ H->H a=some (.frz o (.dK kvs)))
  (hs:∀(i:Nat)(kv:Key×V) σ H,kvs[i]? =some kv->q i σ H->g (kV kv.1) σ H λσ2 H2=>tb {D with nx:=q (i+1),ct:=q (i+1),bk:=D.nx} σ2 H2) (hd:∀σ H,q kvs.length σ H->D.nx σ H):Eg (Itk a o kvs) g tb D σ H:=by
 refine⟨λi m σ H=>m=kvs.length - i/\i<=kvs.length/\q i σ H,⟨kvs.length,by simp,zM _,h0⟩,?_⟩;rintro i m σ H ⟨rfl,hi,p⟩;have q1:=hl i σ H hi p;by_cases z:i<kvs.length
 ·refine .inr ⟨⟨q1,z⟩,q (i+1),λσ' H' p'=>⟨kvs.length - (i+1),by lia,rfl,z,p'⟩,λv H' y=>?_⟩
  obtain⟨rfl,kv,e1,rfl⟩:=y;exact hs i kv σ _ e1 p
 ·have e:i=kvs.length:=by lia
  subst e;exact .inl ⟨⟨q1,zm _⟩,hd σ H p⟩
end
section
variable{X:Cx}
def Inv.thaw{pins:List (Addr×Obj)}(I:Inv X pins σ H s)(hH:H a=some (.frz o (.dK kvs)))(hn:∀o u,X.H₀ a≠some (.frz o u)):Inv X pins σ (upd H a (.dK kvs)) s:=by
 have ne:∀b,H b=none->b≠a:=λb n z=>by rw[z,hH]at n;cases n
 have nt:∀b xs,H b=some (.tup xs)->b≠a:=λb xs n z=>by rw[z,hH]at n;cases n
 have nw:∀b y,H b=some (.own y)->b≠a:=λb y n z=>by rw[z,hH]at n;cases n
 have aa:∀b ps,H b=some (.tbl ps)->b≠a:=λb y n z=>by rw[z,hH]at n;cases n
 refine⟨I.ok,I.os,I.bare,⟨I.base.keep,I.base.slot,λb ob q n hx=>?_,I.base.there,λb xs q=>?_,λb ob u q=>?_,λb ps q=>?_⟩,I.loc,I.cell,?_,λx c e=>?_,λp hp=>?_,λb u e=>?_,I.len⟩
 ·have h:=I.base.free b ob q n hx;rw[jn (ne b h)];exact h
 ·have h:=I.base.tups b xs q;rw[jn (nt b xs h)];exact h
 ·have h:=I.base.frzs b ob u q;rw[jn (λz:b=a=>hn ob u (by rw[<-z];exact q))];exact h
 ·obtain⟨m,h⟩:=I.base.tbls b ps q;exact⟨m,by rw[jn (aa b _ h)];exact h⟩
 ·rw[jn (ne _ I.free)];exact I.free
 ·rw[jn (ne _ (I.freeC x c e))];exact I.freeC x c e
 ·obtain⟨p1,p2,p3⟩:=I.pin p hp;exact⟨p1,by rw[jn (ne _ p2)];exact p2,p3⟩
 ·by_cases hb:b=a
  ·subst hb
   rw[jd]at e;cases e;obtain⟨_,q⟩:=(show mO X.prog X.w H s.heap b (.frz o (.dK kvs))from I.hok b _ hH);exact mO.stay q (λ_ _ _ q=>q) (λc q=>by rw[jn (nw c _ q)];exact q) λc xs q=>by rw[jn (nt c xs q)];exact q
  ·rw[jn hb]at e
   exact(I.hok b u e).stay (λ_ _ _ q=>q) (λc q=>by rw[jn (nw c _ q)];exact q) λc xs q=>by rw[jn (nt c xs q)];exact q
end
section
variable{prog:Program}{w:World}{A:Around}{E:Value->Shared->Prop}{h:Heap}{g:Array GenState}{d:Drawn}{t:Nat}{os:OsState}{a:Addr}{o:Obj}
 {nm q:Str} {C N:Addr} {bs bm bmB:List Value} {hdct:Bool} {sn:List Str} {sub:List Value} {ab:Bool} {col:Option Bool} {dd:Option Addr} {k0 k1 k2 k3 k5:Option Value} {B newId initId:String} {K:Fg_}
end
structure anK(K:Fg_)(C fI:Addr):Prop where
 ex:∃(nm qn:Str)(N:Addr)(bs bm:List Value)(sn:List Str)(sub:List Value)(ab:Bool)(col:Option Bool)(dd:Option Addr)(k0 k1 k2 k3 k5:Option Value),K.lookup C=some (excClassObj nm qn C N bs bm true sn sub ab col dd k0 k1 k2 k3 k5 "ValueError.__new__")/\PySem.W.tailIn K [.type "ValueError",.type "Exception",.type "BaseException",.type "object"] bm=true
 ini:PySem.W.findIn K (.ref C) "__init__" =some (some (.ref fI))
 fn:PySem.W.isFn K (.ref fI)=true
 sa:PySem.W.findIn K (.ref C) "__setattr__" =some (some (.builtin "object.__setattr__"))
 kp:PySem.W.keepIn K (.ref C)=true
section
variable{X:Cx}{CX:CXT}{k:Nat}{f C:Addr}{fd:FuncData}{ps ks:List Str}{sp:Sp}{dvs:List V}{ds:List Value}{E:XK}{x m fn:Str}{p np cpos pos apos:Pos}{e o:Expr}{es:List Expr}{ta tv:TE}{t tk:TA}
structure anU(K:Fg_)(B:Addr):Prop where
 ga:PySem.W.specialIn K (.ref B) "__getattribute__" =some (some (.builtin "type.__getattribute__"))
 rd:PySem.W.readsIn K B (.type "type")=true
 fi:PySem.W.findCls K (.ref B) (.type "type") "__init__" =some (.val (.builtin "ValueError.__init__"))
end
section
variable{X:Cx}
theorem Vc(f:Nat->Int):∀k:Nat,argBest (λi j=>decide (f i<f j)) k<=k/\∀i,i<=k->f (argBest (λi j=>decide (f i<f j)) k)<=f i
 |0=>⟨by simp[argBest],λi hi=>by rw[show i=0 by lia];simp[argBest]⟩
 |k+1=>by
  obtain⟨h1,h2⟩:=Vc f k;rw[argBest];by_cases h:f (k+1)<f (argBest (λi j=>decide (f i<f j)) k)
  ·rw[zi (zH h)]
   refine⟨zm _,λi hi=>?_⟩;rcases Nat.lt_or_ge i (k+1)with q|q
   ·have:=h2 i (by lia);lia
   ·have:i=k+1:=by lia
    subst this;exact yR _
  ·rw[zf (by simpa using h)]
   refine⟨by lia,λi hi=>?_⟩;rcases Nat.lt_or_ge i (k+1)with q|q
   ·exact h2 i (by lia)
   ·have:i=k+1:=by lia
    subst this;lia
def aip(K:Fg_):List V->Hp->VK->Prop:=λxs H Q=>∃(a:Addr)(ns:List Int),xs=[.ref a]/\SqL K H a (ns.map V.int)/\ns≠[]/\∀m,m∈ns->(∀x∈ns,m<=x)->Q (.int m) H
def ZZ(hc:X.calm=true):nF X (.builtin "min") (aip X.K):=by
 intro pins s σ H xs us Q I r h;obtain⟨a,ns,rfl,hq,ad,q⟩:=h;obtain⟨u,rfl,rx⟩:=vals1 r;cases rx;obtain⟨its,rv,pl,hz⟩:=I.list hq;have ae:its.length=ns.length:=by rw[<-rv.length,za]
 have hl:=pl.isList;have aa:a<s.heap.objs.size:=by obtain⟨o,e,_⟩:=hl;exact zv e
 have af:0<ns.length:=yP.mpr ad
 have ia:∀(i:Nat) v,its.toArray[i]? =some v->∃t,v=.int (ns.getD i 0) t:=λi v e=>by
  rw[zzP]at e;have hi:i<its.length:=(zk.mp e).1;have ab:i<ns.length:=by lia
  obtain⟨u,hu,ru⟩:=rv.get (show(ns.map V.int)[i]? =some (.int ns[i]) by rw[zo,zq ab];rfl);rw[e]at hu;obtain rfl:=zy hu;obtain⟨t,rfl⟩:=ru;exact⟨t,by simp[ab]⟩
 refine call_min_walk (yN hl ?_);refine⟨_,_,_,_,_,_,_,rfl,Walks.list (prog:=X.prog) (w:=X.w) (A:=X.A.in1) (I.ok.hd hc) s.heap.objs.size a (zE aa) its.toArray,?_,?_,by rw[zt];lia,CmpOf.ints_lt (λi=>ns.getD i 0) ia,λv h' tk hP hk=>?_⟩
 ·exact⟨⟨_,zB _ rfl,rfl,rfl⟩,hl.at λo e=>zd _ e⟩
 ·intro b hb
  rw[zzE];simp only[zx,zj,or_false]at hb;rcases hb with rfl|rfl
  ·exact zzR _
  ·exact zzH aa
 ·obtain⟨t,rfl⟩:=ia _ v hP
  have hb:=Vc (λi=>ns.getD i 0) (its.toArray.size - 1);rw[zt]at hb;have ac:argBest (λi j=>decide (ns.getD i 0<ns.getD j 0)) (its.length - 1)<ns.length:=by have:=hb.1;lia
  refine⟨.int _,H,I.kept (t':=tk) (λb o e=>hk b o (λz=>?_) (zd _ e)),⟨_,rfl⟩,q _ ?_ λx hx=>?_⟩
  ·simp only[zx,zj,or_false]at z
   subst z;exact absurd (zv e) (yu _)
  ·rw[zt]
   have e:∀k0,k0<ns.length->ns.getD k0 0∈ns:=λk0 h=>by
    have:ns.getD k0 0=ns[k0]:=by simp[h]
    rw[this];exact yT h
   exact e _ ac
  ·obtain⟨j,hj,ej⟩:=z9 hx
   have:=hb.2 j (by lia);rw[zt];have e:ns.getD j 0=x:=by simp[hj,ej]
   rw[<-e];exact this
def Wm(q:X.calm=true)(z:X.K=K:=by rfl):nF X (.builtin "min") (aip K):=z▸ZZ q
def ap_rMinL:aip K [.ref a] H Q=∃(ns:List Int),SqL K H a (ns.map V.int)/\ns≠[]/\∀m,m∈ns->(∀x∈ns,m<=x)->Q (.int m) H:=by simp[aip]
end
section
variable{prog:Program}{w:World}{A:Around}{E:Value->Shared->Prop}{s:Shared}{T:String}{r d:Addr}{n:Nat}{P:Nat->Value->Prop}{OK:Heap->Prop}
def aay{R:List Value->Shared->Prop}(S:KdlSrc prog w T r d n P OK)(hh:A.handled=none)(hok:OK s.heap)(hn:n<=sizeLine)
  (h:∀(h':Heap)(tk:Nat)(acc:Array Value),(∀b o,s.heap.get? b=some o->h'.get? b=some o)->s.heap.objs.size<h'.objs.size->ItemsOf P acc n->R acc.toList {s with heap:=h',toks:=tk}):
  wpAny (model prog w) A (collect (.ref r)) R E s:=by
 obtain⟨t1,t2⟩:=S.there _ hok;have g0:(s.heap.push {cls:=.type "list",data:=.seq ([]:List Value).toArray}).get? s.heap.objs.size=some {cls:=.type "list",data:=.seq #[]}:=zB _ rfl
 have key:∀(q:Value->Sem (List Value)),(∀(s':Shared),(∃h' tk acc c,s'={s with heap:=h',toks:=tk}/\(∀b o,s.heap.get? b=some o->h'.get? b=some o)/\h'.get? s.heap.objs.size=some {cls:=.type "list",dict:=none,data:=.seq acc c,slots:= #[]}/\ItemsOf P acc n)->wpAny (model prog w) A (q (.ref s.heap.objs.size)) R E s')->
   wpAny (model prog w) A (runValue (.builtin "proto.collect" ⟨[.ref r],[]⟩)>>=q) R E s:=λq hq=>by
  refine ze (wpAny_runValue (codeAny_builtin entry_proto_collect' ?_));rw[Around.under_plainId PySem.F.plain_proto_collect _];refine ze (m:=newList []) (y4 (zA ⟨plainId_quiet PySem.F.plain_list_iadd _,codeAny_builtin entry_list_iadd' ?_⟩));rw[Around.under_plainId PySem.F.plain_list_iadd _]
  refine yi (kdl_extend (A:=A) (s:={s with heap:=s.heap.push {cls:=.type "list",data:=.seq ([]:List Value).toArray}})
   (R:=fun(z:Result)(s':Shared)=>z=.ok (.ret (.ref s.heap.objs.size))/\∃h' tk acc c,s'={s with heap:=h',toks:=tk}/\(∀b o,s.heap.get? b=some o->h'.get? b=some o)/\h'.get? s.heap.objs.size=some {cls:=.type "list",dict:=none,data:=.seq acc c,slots:= #[]}/\ItemsOf P acc n)
   S hh (S.keep _ _ hok λb _ o e=>zd _ e) s.heap.objs.size (yz t1) (yz t2) (.ref s.heap.objs.size) 0 g0
   (λh' tk acc c k1 k2 k3=>⟨rfl,h',tk,acc,c,rfl,λb o e=>k1 b o (zE (zv e)) (zd _ e),k2,k3⟩) hn) (λaa s' x=>?_) λe s' x=>?_
  ·cases aa with
   |done f=>
    obtain⟨e,x⟩:=x;cases e;exact hq s' x
   |again c=>exact⟨x.1,codeAny_mono x.2 λz s2 ⟨e,y⟩=>by subst e;exact hq s2 y⟩
  ·cases x.1
 unfold collect;refine key _ λs' ⟨h',tk,acc,c,e,k1,k2,k3⟩=>?_;subst e;refine ze (m:=load s.heap.objs.size) (wpAny_load k2 (zA (h h' tk acc k1 (zv k2) k3)))
end
section
variable{X:Cx}
def Tv:List V->Hp->VK->Prop:=λxs H Q=>∃(a:Addr)(kvs:List (Str×V)),xs=[.ref a]/\H a=some (.dK (kvs.map λkv=>(Sum.inr kv.1,kv.2)))/\kvs.length<60/\
 ∀p (ss:List Str),H p=none->ss.Perm (kvs.map (·.1))->sortedS ss=true->Q (.ref p) (upd H p (.lst (ss.map V.str)))
theorem OD:∀{us:List Value}{ss:List Str},StrsAre us ss->Vals (ss.map V.str) us
 |_,_,.nil=> .nil
 |_,_,.cons x t r=> .cons ⟨t,rfl⟩ (OD r)
def RK(hc:X.calm=true):nF X (.builtin "sorted") Tv:=by
 intro pins s σ H xs us Q I r h;obtain⟨a,kvs,rfl,hq,al,q⟩:=h;obtain⟨u,rfl,rx⟩:=vals1 r;cases rx;obtain⟨z,af,vs,rel,o,es,ep,q1,q2,q3,q4⟩:=(show mO X.prog X.w H s.heap a (.dK (kvs.map λkv=>(Sum.inr kv.1,kv.2)))from I.hok a _ hq);have ag:kvs.length=vs.length:=by have:=z7 rel;rw[za]at this;exact this
 have ab:(kvs.map λkv=>(Sum.inr kv.1:Key))=vs.map (·.1):=by
  have:=KV.keys rel;rw[zu]at this;exact this
 have ah:s.heap.DictAt (jU X.prog X.w) a vs ep:=⟨o,es,q1,q2,q3,q4⟩;refine Calls.call_function_entry kind_sorted plain_sorted entry_sorted (args_sorted1 _) ?_;unfold Builtin.«sorted»;refine ze (m:=checkCount "sorted" 1 1 _) (zA ?_);refine ze (aay (A:=X.A.in1) (kdl_dict (knd:=jU X.prog X.w) (kvs:=vs) (ep:=ep) af) (I.ok.hd hc) ah (by rw[<-ag,zw];lia) λh' tk acc hk hsz aa=>?_);have hl:acc.toList.length=kvs.length:=by rw[z8,aa.1,ag]
 have hS:StrsAre acc.toList (kvs.map (·.1)):=by
  have ae:∀(l:List Value)(ks:List Str),l.length=ks.length->(∀(i:Nat) v x,l[i]? =some v->ks[i]? =some x->∃t,v=.str x t)->StrsAre l ks:=by
   intro l
   induction l with
   |nil=>intro ks h1 _;cases ks with
    |nil=>exact .nil
    |cons _ _=>simp at h1
   |cons v l ih=>intro ks h1 h2;cases ks with
    |nil=>simp at h1
    |cons x ks=>
     obtain⟨t,rfl⟩:=h2 0 v x rfl rfl;exact .cons x t (ih ks (by simpa using h1) λi v' x' e1 e2=>h2 (i+1) v' x' e1 e2)
  refine ae _ _ (by rw[hl,za]) λi v x e1 e2=>?_;obtain⟨k,y,g1,g2⟩:=aa.2 i v (by rw[<-yG];exact e1);have e3:(vs.map (·.1))[i]? =some k:=by rw[zo,g1];rfl
  have e4:(kvs.map λkv=>(Sum.inr kv.1:Key))[i]? =some (Sum.inr x):=by
   rw[zo]at e2⊢
   cases e:kvs[i]? with
   |none=>rw[e]at e2;cases e2
   |some q=>rw[e]at e2;cases e2;rfl
  rw[ab,e3]at e4;cases zy e4;have:=Zv (k:=(Sum.inr x:Key)) g2;obtain⟨t,e⟩:=(show RelV (.str x) v from this);exact⟨t,e⟩
 refine ze (zzy ?_ (by rw[hl,zw];lia));have ac:(h'.push (seqObj "list" acc.toList.toArray 0)).get? h'.objs.size=some (seqObj "list" acc.toList.toArray 0):=zB _ rfl;refine ze (yb (zzd slot_list_sort ⟨_,ac,rfl⟩ entry_list_sort (list_sort_treeK (n:=0) strKind_oneLt ac hS.keysOf (λv1 v2 rest e=>keyKind_strs (by rw[<-e];exact hS)) (by lia) λai hp hs=>⟨_,rfl,?_⟩) (args_list_sort _)));obtain⟨ak,h1,h2,h3⟩:=sorted_out_str hS hp hs;obtain⟨c,aj⟩:=sortedHeap_at (out:=(arrOf ai).map (·.2)) ac;refine zA ⟨_,rfl,.ref h'.objs.size,_,I.laid (t':=tk) (o:=.lst (ak.map V.str)) (λb o' e=>?_) (zzC hsz) ?_,rfl,q _ _ (I.hok.fresh (zzC hsz)) h2 h3⟩
 ·have ad:=zv (hk b o' e)
  rw[sortedHeap_old (zE ad) (by rw[size_push'];exact zzH ad)];exact zd _ (hk b o' e)
 ·exact⟨by rw[za,h2.length_eq,za,zw];lia,_,c,OD h1,by rw[zzV];exact aj⟩
def ap_rSortDK:Tv [.ref a] H Q=∃(kvs:List (Str×V)),H a=some (.dK (kvs.map λq=>(Sum.inr q.1,q.2)))/\kvs.length<60/\
 ∀p (ss:List Str),H p=none->ss.Perm (kvs.map (·.1))->sortedS ss=true->Q (.ref p) (upd H p (.lst (ss.map V.str))):=by simp[Tv]
end
section
variable{X:Cx}{K:Fg_}{a:Addr}{kvs:List (Key×V)}{pins:List (Addr×Obj)}{σ:St}{H:Hp}{s:Shared}
def Wf{t:TS}{z aa:List Stmt}{x:Option Expr}{n:Option Str}{ab:Pos}(h:PSs X.nox z t):PS X.nox (.Try z [.ExceptHandler x n aa ab] [] [] pos) t:=by
 intro pins s σ H D I hw;refine wpAny_Try_except (yi (h pins s σ H D I hw) (λf s1 q=>?_) λev s' hx=>hx.elim)
 cases f with
 |next=>exact zzz q
 |brk=>exact q
 |cont=>exact q
 |ret u=>exact q
variable{td ty:TE}{Q:VK}{w:World}
end
end L2
namespace HT
open PySem PyProof.Rows
noncomputable def lexLe:List Int->List Int->Bool
 |[],_=>true
 |_::_,[]=>false
 |x::xs,y::ys=>if x=y then lexLe xs ys else decide (x<=y)
def ahP(A:Around)(s:Shared)(a:Int)(t:Tok)(c:Int)(u:Tok)(prog:Program)(w:World)(E:Value->Shared->Prop)(Q:Value->Shared->Prop)(h:Q (.bool (decide (a<=c))) s):
  wpAny (model prog w) A (richCompare .LtE (.int a t) (.int c u)) Q E s:=
 (PyProof.Rows.le_int h:wpAny (model prog w) A (compareOp .LtE (.int a t) (.int c u)) Q E s)
section
open PySem.SeqAt
open PySem.AutoSeq1 (wpAny_loadPart')
open PySem.MeetsSeq PySem.MeetsSeq2 PySem.MeetsSeq3
def Nf(l b:Addr)(xa xb:Array Value)(na nb:Nat)(da db:Option Addr)(sa sb:Array (Option Value))(ns ms:List Int)(hi:IntsAre xa.toList ns)(hj:IntsAre xb.toList ms):
  Meets (Builtin.«tuple.__le__» ⟨[.ref l,.ref b],[]⟩)
   (λ_ R s=>s.heap.get? l=some {cls:=.type "tuple",dict:=da,data:=.seq xa na,slots:=sa}/\s.heap.get? b=some {cls:=.type "tuple",dict:=db,data:=.seq xb nb,slots:=sb}/\
    R (.ok (.ret (.bool (lexLe ns ms)))) s):=
 .of_wp λprog w A R s h=>by
  obtain⟨hp,g,d,tk,os⟩:=s;obtain⟨hl,hb,h⟩:=h;have f2:=AutoSeq1.sub_tuple_tuple;have z1:xa.size=ns.length:=by rw[<-hi.length];simp
  have z2:xb.size=ms.length:=by rw[<-hj.length];simp
  wp_walk using wpAny_loadPart' hl,wpAny_loadPart' hb,wpAny_forIn_list _ (λrest b s'=>b.1=none/\s'=⟨hp,g,d,tk,os⟩/\∃(vs ws:List Value)(np mp:List Int),rest=vs.zip ws/\
   IntsAre vs np/\IntsAre ws mp/\np.length+xb.size=mp.length+xa.size/\R (.ok (.ret (.bool (lexLe np mp)))) ⟨hp,g,d,tk,os⟩) _
  case turn=>
   rintro⟨y,x⟩ rest b s'⟨ad,rfl,vs,ws,np,mp,hz,ab,ac,z,hR⟩
   cases ab with
   |nil=>rw[List.zip_nil_left]at hz;cases hz
   |cons a t hvi'=>cases ac with
    |nil=>rw[List.zip_nil_right]at hz;cases hz
    |cons c u hwi'=>
     rw[zz6]at hz;injection hz with hyx hrest
     injection hyx with hy hx
     subst hy hx;unfold lexLe at hR;simp only[zG]at z;obtain⟨e,he,aa⟩:=ahX A.in1 ⟨hp,g,d,tk,os⟩ a t c u;refine ze (he prog w _ _ ?_)
     cases e with
     |true=>
      rw[zi (aa.mp rfl)]at hR
      wp_walk
      exact⟨rfl,rfl,_,_,_,_,hrest,hvi',hwi',by lia,hR⟩
     |false=>
      rw[zf (λq=>absurd (aa.mpr q) zO)]at hR;have ae:=ahP A.in1 ⟨hp,g,d,tk,os⟩ a t c u prog w
      wp_walk using ae
      exact⟨_,rfl,by simpa using hR⟩
  case fin=>
   rintro⟨b1,b2⟩ s'⟨ad,rfl,vs,ws,np,mp,hz,ab,ac,z,hR⟩;simp only at ad;subst ad
   have hv:lexLe np mp=decide (xa.size<=xb.size):=by
    cases ab with
    |nil=>
     simp only[zzk]at z;unfold lexLe;exact(zH (by lia)).symm
    |cons a t hv=>cases ac with
     |nil=>
      simp only[zzk,zG]at z;unfold lexLe;exact(zJ (by lia)).symm
     |cons c u hw=>rw[zz6]at hz;cases hz
   rw[hv]at hR
   wp_walk
   exact⟨_,rfl,by simpa [Builtin.Tuple.tupleCompareSizes] using hR⟩
  case h=>exact⟨rfl,rfl,xa.toList,xb.toList,ns,ms,rfl,hi,hj,by lia,h⟩
end
section
variable{prog:Program}{w:World}{A:Around}{E:Value->Shared->Prop}{s:Shared}
def le_tupInts{l b:Addr}{xa xb:Array Value}{ns z:List Int}{Q:Value->Shared->Prop}(hl:IsTup s.heap l xa)(hb:IsTup s.heap b xb)(hi:IntsAre xa.toList ns)(hj:IntsAre xb.toList z)(hu:A.units<cLine)
  (h:Q (.bool (lexLe ns z)) s):wpAny (model prog w) A (compareOp .LtE (.ref l) (.ref b)) Q E s:=by
 obtain⟨⟨cls,dd,data,sl⟩,ho,hc,n,hd⟩:=id hl;obtain⟨⟨af,ae,ac,ad⟩,aa,ab,n2,q⟩:=id hb;simp only at hc hd ab q;subst hc hd ab q
 exact richCompare_meets_room (op:=.LtE) ⟨_,ho,rfl⟩ ⟨_,aa,rfl⟩ PySem.F.slot_tuple_le PySem.F.entry_tuple_le (PySem.F.args_tuple_le_2 _ _) (Nf l b xa xb n n2 dd ae sl ad ns z hi hj)
  ⟨ho,aa,show Value.bool (lexLe ns z)≠Value.notImplemented/\Q (.bool (lexLe ns z)) s from⟨(λx=>nomatch x),h⟩⟩ hu
end
end HT
namespace L2
open PySem PySem.W PySem.Spec PySem.Calls PyProof.Rows
variable{C dx:Addr}{CX:CXT}{es:List Expr}{o:Expr}{pos:Pos}{sp:Sp}{x:Str}{α:Type}
section
variable{X:Cx}
def anS(K:Fg_):R2:=λx y H Q=>∃a b ns ms,x=.ref a/\y=.ref b/\SqT K H a (ns.map V.int)/\SqT K H b (ms.map V.int)/\Q (.bl (HT.lexLe ns ms)) H
theorem akj{K:Fg_}{k:Nat}(hr:qY k X.A)(hK:X.K=K:=by rfl):OpR X (compareOp .LtE) (anS K):=by
 subst hK;intro pins s σ H x y v u Q I rx ry h;obtain⟨a,b,ns,ms,rfl,rfl,ha,hb,q⟩:=h;cases rx;cases ry;obtain⟨its,r1,p1,_⟩:=I.tuple ha;obtain⟨z,r2,p2,_⟩:=I.tuple hb;exact HT.le_tupInts p1 p2 (show IntsAre its.toArray.toList ns from intsAre_of r1) (show IntsAre z.toArray.toList ms from intsAre_of r2) hr.units0 ⟨.bl (HT.lexLe ns ms),H,I,rfl,q⟩
def ajo(H0:Hp)(t:TE):TE:=λσ H Q=>t σ H λv H1=>∃a o kvs,H1 a=some (.frz o (.dK kvs))/\(∀o u,H0 a≠some (.frz o u))/\Q v (upd H1 a (.dK kvs))
def Sy{e:Expr}{t:TE}(h:PE X e t):PE X e (ajo X.H₀ t):=by
 intro pins s σ H Q I q;exact thn (h pins s σ H _ I q) λv s1 ⟨x,H1,I1,z,a,o,kvs,h1,h2,h3⟩=>⟨x,_,I1.thaw h1 h2,z,h3⟩
def ap_thawV{H0:Hp}{t:TE}{σ:St}{H:Hp}{Q:VK}:ajo H0 t σ H Q=t σ H λv H1=>∃a o kvs,H1 a=some (.frz o (.dK kvs))/\(∀o u,H0 a≠some (.frz o u))/\Q v (upd H1 a (.dK kvs)):=rfl
end
section
variable{K:Fg_}{H:Hp}{Q:VK}{σ:St}{v:V}{a0 a1 a2 a3 a4 a5 a6 a7 a8 a9:Option V}
def rd{x:Addr}{fs:List (Str×V)}{f:Str}{R:V->Prop}(h:H x=some (.ins C dx fs))(c:Cls K C)(n:jt K C f)(l:List.lookup f fs=some v)(k:R v):∃C dx fs,H x=some (.ins C dx fs)/\Cls K C/\jt K C f/\∃v,List.lookup f fs=some v/\R v:=⟨C,dx,fs,h,c,n,v,l,k⟩
def sw{x:Addr}{fs:List (Str×V)}{f:Str}{R:Addr->Addr->List (Str×V)->Prop}(h:H x=some (.ins C dx fs))(c:Cls K C)(n:jt K C f)(l:fs.length<1000)(k:R C dx fs):∃C dx fs,H x=some (.ins C dx fs)/\Cls K C/\jt K C f/\fs.length<1000/\R C dx fs:=⟨C,dx,fs,h,c,n,l,k⟩
def sz{n:Nat}(h:n<=1000:=by decide):n<=sizeLine:=by rw[zw];lia
def md{x:Addr}{fs:List (Str×V)}{m:Str}{tab:List (Addr×Sp)}{R:Sp->Prop}(h:H x=some (.ins C dx fs))(i:(C,sp)∈tab)(l:List.lookup m fs=Option.none)(k:R sp):∃C dx fs,H x=some (.ins C dx fs)/\∃sp,(C,sp)∈tab/\List.lookup m fs=Option.none/\R sp:=⟨C,dx,fs,h,sp,i,l,k⟩
def ln0{P:List α->Prop}(h:P []):∀us:List α,us.length=0->P us:=by
 intro us e
 cases us with
 |nil=>exact h
 |cons=>cases e
def lnS{P:List α->Prop}{n:Nat}(h:∀a us,us.length=n->P (a::us)):∀us:List α,us.length=n+1->P us:=by
 intro us e
 cases us with
 |nil=>cases e
 |cons a us=>exact h a us (Nat.succ.inj e)
def ln1{P:List α->Prop}(h:∀a0,P [a0]):∀us:List α,us.length=1->P us:=lnS λa=>ln0 (h a)
def ln2{P:List α->Prop}(h:∀a0 a1,P [a0,a1]):∀us:List α,us.length=2->P us:=lnS λa=>ln1 (h a)
def ln3{P:List α->Prop}(h:∀a0 a1 a2,P [a0,a1,a2]):∀us:List α,us.length=3->P us:=lnS λa=>ln2 (h a)
def ln4{P:List α->Prop}(h:∀a0 a1 a2 a3,P [a0,a1,a2,a3]):∀us:List α,us.length=4->P us:=lnS λa=>ln3 (h a)
def ln5{P:List α->Prop}(h:∀a0 a1 a2 a3 a4,P [a0,a1,a2,a3,a4]):∀us:List α,us.length=5->P us:=lnS λa=>ln4 (h a)
def ln6{P:List α->Prop}(h:∀a0 a1 a2 a3 a4 a5,P [a0,a1,a2,a3,a4,a5]):∀us:List α,us.length=6->P us:=lnS λa=>ln5 (h a)
def ln7{P:List α->Prop}(h:∀a0 a1 a2 a3 a4 a5 a6,P [a0,a1,a2,a3,a4,a5,a6]):∀us:List α,us.length=7->P us:=lnS λa=>ln6 (h a)
def ln8{P:List α->Prop}(h:∀a0 a1 a2 a3 a4 a5 a6 a7,P [a0,a1,a2,a3,a4,a5,a6,a7]):∀us:List α,us.length=8->P us:=lnS λa=>ln7 (h a)
end
section
variable{X:Cx}{K:Fg_}{H:Hp}{Q:VK}{σ:St}{v:V}{a0 a1 a2 a3 a4 a5 a6 a7 a8 a9 a10 a11 a12 a13 a14:Option V}{P:V->Prop}{R:Addr->Prop}{i:Nat}{f m:Str}{tab:List (Addr×Sp)}{E:XK}{t:TA}{tv:TE}{D:Ends}{e:Expr}{tg:Expr}{st:Stmt}{a:Addr}
def atV(σ:St)(i:Nat)(P:V->Prop):Prop:=match σ[i]? with
 |some (some v)=>P v
 |_=>False
def onR(x:V)(P:Addr->Prop):Prop:=match x with
 |.ref a=>P a
 |_=>False
def atV_iff:atV σ i P=∃v,σ[i]? =some (some v)/\P v:=by
 unfold atV;split
 ·next v e=>exact propext ⟨λh=>⟨v,e,h⟩,fun⟨w,q,h⟩=>by rw[e]at q;cases q;exact h⟩
 ·next n=>exact propext ⟨λh=>h.elim,fun⟨w,q,_⟩=>(n w q).elim⟩
def Nt{x:V}:onR x R=∃a,x=.ref a/\R a:=propext ⟨λh=>by
 cases x<;>first|exact h.elim|exact⟨_,rfl,h⟩,fun⟨a,e,h⟩=>by rw[e];exact h⟩
def tV(i:Nat):TE:=λσ H Q=>atV σ i λv=>Q v H
def tFV(K:Fg_)(i:Nat)(f:Str):TE:=λσ H Q=>atV σ i λx=>onR x λa=>∃C dx fs,H a=some (.ins C dx fs)/\Cls K C/\jt K C f/\∃v,List.lookup f fs=some v/\Q v H
def tMV(tab:List (Addr×Sp))(m:Str)(E:XK)(i:Nat)(t:TA):TE:=λσ H Q=>atV σ i λx=>onR x λa=>∃C dx fs,H a=some (.ins C dx fs)/\∃sp,(C,sp)∈tab/\List.lookup m fs=none/\t σ H λvs H2=>sp (.ref a::vs) H2 Q E
def sFV(K:Fg_)(i:Nat)(tv:TE)(f:Str):TS:=λD σ H=>tv σ H λy H1=>atV σ i λx=>onR x λa=>∃C dx fs,H1 a=some (.ins C dx fs)/\Cls K C/\jt K C f/\fs.length<1000/\D.nx σ (upd H1 a (.ins C dx (Fe f y fs)))
def iLV(K:Fg_)(i:Nat):TI:=λσ H R=>atV σ i λx=>onR x λa=>(∃xs,SqL K H a xs)/\R (Itl K a) H
def ane:Ro i=tV i:=funext λσ=>funext λH=>funext λQ=>atV_iff.symm
def als:ala K (Ro i) f=tFV K i f:=by
 funext σ H Q;unfold tFV ala Ro;rw[atV_iff];simp only[Nt,exists_and_left]
def ajp:Rz tab m E (Ro i) t=tMV tab m E i t:=by
 funext σ H Q;unfold tMV Rz Ro;rw[atV_iff];simp only[Nt];refine propext ⟨fun⟨v,e,a,C,dx,fs,sp,q,h1,h2,h3,z⟩=>⟨v,e,a,q,C,dx,fs,h1,sp,h2,h3,q▸z⟩,fun⟨v,e,a,q,C,dx,fs,h1,sp,h2,h3,z⟩=>⟨v,e,a,C,dx,fs,sp,q,h1,h2,h3,q▸z⟩⟩
def amx:alg K (Ro i) tv f=sFV K i tv f:=by
 funext D σ H;unfold sFV alg Ro;simp only[atV_iff,Nt,exists_and_left]
def alC:ZL K (Ro i)=iLV K i:=by
 funext σ H R;unfold iLV ZL Ro;rw[atV_iff];simp only[Nt]
noncomputable def akU(x:Str):Bool:=!(x==("__debug__" :Str)) && !(x==("__classdict__" :Str))
def orl{α:Sort _}{a:α}{p:Prop}:a=a\/p:=Or.inl rfl
def orr{α:Sort _}{a:α}{p:Prop}:p\/a=a:=Or.inr rfl
def nd1:[x].Nodup:=zN.mpr ⟨zj,List.nodup_nil⟩
def nm1(h:akU x=true):(x==("__debug__" :Str))=false:=by unfold akU at h;revert h;cases x==("__debug__" :Str)<;>simp
def nm2(h:akU x=true):(x==("__classdict__" :Str))=false:=by unfold akU at h;revert h;cases x==("__classdict__" :Str)<;>simp
def pvD(i:Nat)(q:X.N[i]? =some x:=by rfl)(hv:Vis X.env.scope x:=by walk_at "o") (hd:akU x=true:=by rfl):PE X (.Name x pos) (tV i):=ane▸pv i q hv (nm1 hd) (nm2 hd)
def pav(i:Nat)(q:PA X es t)(z:X.N[i]? =some x:=by rfl)(hv:Vis X.env.scope x:=by walk_at "o") (hd:akU x=true:=by rfl) (hs:starEach (.Name x pos::es) X.env=(false,eval (.Name x pos) X.env)::starEach es X.env:=by rfl):PA X (.Name x pos::es) (ql (tV i) t):=iY (pvD i z hv hd) q hs
theorem ajI(q:PE X e (Ro i))(z:attributeBase e f X.env (eval e X.env)=eval e X.env)(hK:X.K=K:=by rfl):PE X (.Attribute e f pos) (tFV K i f):=als▸ake q z hK
theorem jJ{value:Expr}{pos':Pos}(ha:PE X o (Ro i))(q:PE X value tv)(z:swapsWith value (some (.Attribute o f pos')) pos.line X.env=pure false)(hK:X.K=K:=by rfl):PS X (.Assign [.Attribute o f pos'] value pos) (sFV K i tv f):=amx▸ajz ha q z hK
def jP(q:PE X e (Ro i))(z:X.K=K:=by rfl):PI X tg e (iLV K i):=alC▸lM q z
def jN{pos apos:Pos}{pl:Sem Bool}(z:PE X o (Ro i))(T:XR X CX m tab)(hx:BW CX X E)(ha:PA X (e::es) t)
  (q:starEach (e::es) X.env=(false,eval e X.env)::starEach es X.env:=by rfl) (hpl:(backTo pos (starEach es X.env)).any (·.1)=false:=by rfl)
  (ht:eval (.Call (.Attribute o m apos) (e::es) [] pos) X.env=(do
   let ov<-eval o X.env
   standAt apos.atName
   let(f,first)<-holding [ov] (getMethod ov m pl)
   callWith pos f first (backTo pos (starEach (e::es) X.env)) (backToKw pos (keywordEach [] X.env))):=by rfl):
  PE X (.Call (.Attribute o m apos) (e::es) [] pos) (tMV tab m E i t):=ajp▸ail (pl:=pl) z T hx ha q hpl ht
def mG{pos apos:Pos}{pl:Sem Bool}(q:PE X o (Ro i))(T:XR X CX m tab)(hx:BW CX X E)
  (z:eval (.Call (.Attribute o m apos) [] [] pos) X.env=(do
   let ov<-eval o X.env
   standAt apos.atName
   let(f,first)<-holding [ov] (getMethod ov m pl)
   callWith pos f first (backTo pos (starEach [] X.env)) (backToKw pos (keywordEach [] X.env))):=by rfl):
  PE X (.Call (.Attribute o m apos) [] [] pos) (tMV tab m E i Vw):=ajp▸Zz (pl:=pl) q T hx z
def av_V:tV i σ H Q=atV σ i λv=>Q v H:=rfl
def av_F:tFV K i f σ H Q=atV σ i λx=>onR x λa=>∃C dx fs,H a=some (.ins C dx fs)/\Cls K C/\jt K C f/\∃v,List.lookup f fs=some v/\Q v H:=rfl
def av_M:tMV tab m E i t σ H Q=atV σ i λx=>onR x λa=>∃C dx fs,H a=some (.ins C dx fs)/\∃sp,(C,sp)∈tab/\List.lookup m fs=none/\t σ H λvs H2=>sp (.ref a::vs) H2 Q E:=rfl
def av_S:sFV K i tv f D σ H=tv σ H λy H1=>atV σ i λx=>onR x λa=>∃C dx fs,H1 a=some (.ins C dx fs)/\Cls K C/\jt K C f/\fs.length<1000/\D.nx σ (upd H1 a (.ins C dx (Fe f y fs))):=rfl
def av_L{R:It->Hp->Prop}:iLV K i σ H R=atV σ i λx=>onR x λa=>(∃xs,SqL K H a xs)/\R (Itl K a) H:=rfl
def av_r:onR (.ref a) R=R a:=rfl
def av0:atV (some v::σ) 0 P=P v:=rfl
def av1:atV (a0::some v::σ) 1 P=P v:=rfl
def av2:atV (a0::a1::some v::σ) 2 P=P v:=rfl
def av3:atV (a0::a1::a2::some v::σ) 3 P=P v:=rfl
def av4:atV (a0::a1::a2::a3::some v::σ) 4 P=P v:=rfl
def av5:atV (a0::a1::a2::a3::a4::some v::σ) 5 P=P v:=rfl
def av6:atV (a0::a1::a2::a3::a4::a5::some v::σ) 6 P=P v:=rfl
def av7:atV (a0::a1::a2::a3::a4::a5::a6::some v::σ) 7 P=P v:=rfl
def av8:atV (a0::a1::a2::a3::a4::a5::a6::a7::some v::σ) 8 P=P v:=rfl
def av9:atV (a0::a1::a2::a3::a4::a5::a6::a7::a8::some v::σ) 9 P=P v:=rfl
def av10:atV (a0::a1::a2::a3::a4::a5::a6::a7::a8::a9::some v::σ) 10 P=P v:=rfl
def av11:atV (a0::a1::a2::a3::a4::a5::a6::a7::a8::a9::a10::some v::σ) 11 P=P v:=rfl
def av12:atV (a0::a1::a2::a3::a4::a5::a6::a7::a8::a9::a10::a11::some v::σ) 12 P=P v:=rfl
def av13:atV (a0::a1::a2::a3::a4::a5::a6::a7::a8::a9::a10::a11::a12::some v::σ) 13 P=P v:=rfl
def av14:atV (a0::a1::a2::a3::a4::a5::a6::a7::a8::a9::a10::a11::a12::a13::some v::σ) 14 P=P v:=rfl
def av15:atV (a0::a1::a2::a3::a4::a5::a6::a7::a8::a9::a10::a11::a12::a13::a14::some v::σ) 15 P=P v:=rfl
def mc{f:Addr}{fd:FuncData}{ps:List Str}{k n:Nat}{r:List (Addr×Sp)}(c:Cls X.K C)(hm:Meth X.K C m f)(F:kI X.prog X.w X.K X.mg X.base CX k f fd ps sp)(z:qY n X.A)(hb:Binds X.K fd ps [])(t:XR X CX m r)(q:k<=n:=by decide):XR X CX m ((C,sp)::r):=.cons c hm F (z.mono q) hb t
end
structure FG(K:Fg_)(mg:Str->Option Value)(x:Str)(st:Stmt)(f:Addr)(fd:FuncData):Prop where
 m:mg x=some (.ref f)
 k:PySem.W.keepIn K (.ref f)=true
 F:Fun K x x st f fd
section
variable{X:Cx}{t:TA}{e:Expr}
def pcg{k n:Nat}{f:Addr}{fd:FuncData}{ps:List Str}{st:Stmt}{p pos:Pos}(F:kI X.prog X.w X.K X.mg X.base CX0 k f fd ps sp)(z:qY n X.A)(g:FG X.K X.mg x st f fd)(hb:Binds X.K fd ps [])(ha:PA X (e::es) t)(q:k<=n:=by decide)(hg:Gl X x:=by rfl)(hd:(x==("__debug__" :Str))=false:=by decide)
  (hst:starEach (e::es) X.env=(false,eval e X.env)::starEach es X.env:=by rfl) (hpl:(backTo pos (starEach es X.env)).any (·.1)=false:=by rfl):PE X (.Call (.Name x p) (e::es) [] pos) (aiE sp [] E0 t):=akz F (z.mono q) hg g.m g.k hb .nil jR ha hd hst hpl
end
section
variable{X:Cx}
def amO:R2:=λx y H Q=>∃(a b:Addr)(ka:List (Key×V)),x=.ref a/\y=.ref b/\Rd H a (.dK ka)/\Rd H b (.dK [])/\Q (.bl (decide (ka.length=0))) H
def amm{k:Nat}(hr:qY k X.A):OpR X (compareOp .Eq) amO:=by
 intro pins s σ H x y v u Q I rx ry h;obtain⟨a,b,ka,rfl,rfl,h1,h2,q⟩:=h;have hr':=hr.units;cases rx;cases ry;obtain⟨_,s1,z,ra,da⟩:=Ku I.hok h1;obtain⟨_,s2,vb,rb,db⟩:=Ku I.hok h2;cases rb;refine PySem.W.keq_eq (r:=true) s1 s2 da db (by lia) (λe=>?_) ⟨.bl (decide (ka.length=0)),H,I,?_,q⟩
 ·cases z with
  |nil=>exact .nil
  |cons _ _=>cases e
 ·rw[ra.length]
  cases z<;>rfl
def ap_eqE{a b:Addr}{H:Hp}{Q:VK}:amO (.ref a) (.ref b) H Q=∃(ka:List (Key×V)),Rd H a (.dK ka)/\Rd H b (.dK [])/\Q (.bl (decide (ka.length=0))) H:=by simp[amO]
end
end L2
local macro_rules | `(tactic| walk_at "u") => `(tactic| (rename_i h; first | (cases h; subst_vars; rfl) | (obtain ⟨e, _⟩ := h; subst e; rfl) | (obtain ⟨_, h⟩ := h; walk_at "u")))
local macro_rules | `(tactic| walk_at "v") => `(tactic| (intros; walk_at "u"))
local macro_rules | `(tactic| walk_at "k") => `(tactic| first | exact L2.CapOk.nil | (refine L2.CapOk.own ?_; walk_at "k") | (refine L2.CapOk.take (by with_unfolding_all rfl) (by first | exact Or.inl (by with_unfolding_all rfl) | exact Or.inr (by with_unfolding_all rfl)) (by first | exact Or.inl (by with_unfolding_all rfl) | exact Or.inr (by with_unfolding_all rfl)) (by with_unfolding_all rfl) ?_; walk_at "k"))
local macro_rules | `(tactic| walk_at "c") => `(tactic| (refine ⟨?c1, ?c3, ?c0, ?c4, ?c5, ?c6, ?c7⟩; (case c1 => with_unfolding_all rfl); (case c3 => walk_at "k"); (case c0 => rfl); (case c4 => decide +kernel); (case c5 => decide +kernel); (case c6 => with_unfolding_all rfl); (case c7 => (intro _; rfl))))
local macro_rules | `(tactic| walk_at "q") => do
  let x ← ("↓av_V ↓av_F ↓av_M ↓av_S ↓av_L ↓av0 ↓av1 ↓av2 ↓av3 ↓av4 ↓av5 ↓av6 ↓av7 ↓av8 ↓av9 ↓av10 ↓av11 ↓av12 ↓av13 ↓av14 ↓av15 av_r ap_iStr ap_fldK ap_sFld ap_methD ap_make ap_dget2 ap_dget ap_dput ap_dnewK ap_dpop1 ap_dictOf ap_leS ap_rIsC ap_ixT ap_ixS ap_slT ap_lenS ap_rSortT ap_new0 ap_dictPairs ap_iVals ap_rVals ap_dget1 ap_tSortK ap_rSortK ap_setOf ap_lenSet ap_eqR ap_neR ap_tListRev ap_tMinD ap_break ap_rSortI ap_iItems ap_rItems ap_neM ap_iKeys ap_rMinL ap_rSortDK ap_thawV ap_eqE ap_iZip ap_iEnum ap_next ap_asg ap_name ap_var ap_c ap_op ap_un ap_rI ap_rI0 ap_rU ap_rEq ap_rNe ap_ret ap_retN ap_drop ap_if ap_test ap_tB ap_and ap_or ap_not ap_andV ap_notV ap_ifE ap_call ap_nil ap_cons ap_cb ap_lst ap_tup ap_chain ap_sl ap_noPart ap_part ap_gNil ap_gCons ap_gLst ap_gTup ap_bm ap_bm0 ap_ixL ap_slL ap_rLen ap_rSum ap_rAny ap_rAll ap_rListOf ap_rIsT ap_append ap_rCat ap_comp ap_iList ap_iRng1 ap_noIf ap_rMax ap_rMin scal_int scal_str scal_bl start_eq !List.map_cons !List.map_nil !List.length_cons !List.length_nil !List.cons_append !List.nil_append !List.append_nil !List.replicate_succ !List.replicate_zero !Nat.reduceAdd !Nat.reduceSub !Nat.sub_self !List.set_cons_zero !List.set_cons_succ !List.getElem?_cons_zero !List.getElem?_cons_succ !Option.some.injEq V.int.injEq V.bl.injEq V.str.injEq V.ref.injEq V.ty.injEq !List.cons.injEq !exists_eq_left' !exists_eq_left !exists_and_left !exists_eq' !exists_eq !true_and !and_true !and_assoc !exists_const !Bool.not_true !Bool.not_false !if_true !if_false !Bool.false_eq_true !decide_true !decide_false !reduceCtorEq !Bool.not_eq_true' !decide_eq_true_eq !decide_eq_false_iff_not".splitOn " ").toArray.mapM fun s => do
    let r := (s.drop 1).toString
    if s.front = '↓' then `(Lean.Parser.Tactic.simpLemma| ↓$(Lean.mkIdent ("L2." ++ r).toName):ident) else if s.front = '!' then `(Lean.Parser.Tactic.simpLemma| $(Lean.mkIdent r.toName):ident) else `(Lean.Parser.Tactic.simpLemma| $(Lean.mkIdent ("L2." ++ s).toName):ident)
  `(tactic| simp only [$[$x:simpLemma],*])
local macro_rules | `(tactic| walk_at "i") => `(tactic| try walk_at "q")
local macro_rules | `(tactic| walk_at "a") => `(tactic| (repeat (first | simp only [L2.ap_seq, L2.ap_for] | walk_at "q")))
namespace L2
open PySem PySem.Spec PyProof.Rows
theorem fv{X:Cx}(K:Fg_)(i:Nat){x f:Str}{pos pos':PySem.Pos}(q:X.N[i]? =some x:=by rfl)(hv:Vis X.env.scope x:=by first|exact Or.inl rfl|exact Or.inr (Or.inl rfl)|exact Or.inr (Or.inr rfl))(hd:(x==("__debug__" :Str))=false:=by decide) (hcd:(x==("__classdict__" :Str))=false:=by decide) (hb:PySem.attributeBase (.Name x pos') f X.env (PySem.eval (.Name x pos') X.env)=PySem.eval (.Name x pos') X.env:=by rfl) (hK:X.K=K:=by rfl):PE X (.Attribute (.Name x pos') f pos) (tFV K i f):=ajI (pv i q hv hd hcd) hb hK
end L2
namespace My
open PySem L2 PyProof.Rows
open PySem.W (codeIn findCls findIn fnOf hasDictIn isFn keepIn kitOne makesIn mg_none_of mg_of mroIn nsIn plainGet plainOver readsIn specialIn takesIn)
noncomputable def top(i:Nat):Stmt:=PySem.Challenge.pw_lotledger_k90_whole_sums.main.body.getD i (.Pass ⟨0,0,0,0⟩)
abbrev oZ:Stmt:=top 88
abbrev nu:Stmt:=top 91
abbrev wA:Stmt:=top 83
abbrev um:Stmt:=top 82
abbrev Bk:Stmt:=top 86
abbrev Ay:Stmt:=top 87
abbrev xM:Stmt:=top 84
abbrev Al:Stmt:=top 85
abbrev uH:Stmt:=top 89
abbrev ug:Stmt:=top 41
abbrev Fx:Stmt:=top 40
abbrev Fz:Stmt:=top 39
abbrev Cp:Stmt:=top 35
abbrev qx:Stmt:=top 36
abbrev pU:Stmt:=inClass (top 21) 3
abbrev pK:Stmt:=top 37
abbrev oR:Stmt:=inClass (top 22) 3
abbrev pC:Stmt:=inClass (top 23) 3
abbrev pA:Stmt:=inClass (top 24) 3
abbrev oG:Stmt:=inClass (top 25) 3
abbrev nJ:Stmt:=inClass (top 26) 3
abbrev Ao:Stmt:=top 42
abbrev sV:Stmt:=top 92
abbrev pJ:Stmt:=top 27
abbrev uF:Stmt:=top 28
abbrev Ie:Stmt:=top 30
abbrev Ag:Stmt:=top 29
abbrev qG:Stmt:=inClass (top 20) 0
abbrev wD:Stmt:=top 32
abbrev Am:Stmt:=top 33
abbrev mD:Stmt:=inClass (top 24) 0
abbrev wz:Stmt:=top 31
abbrev nj:Stmt:=inClass (top 21) 0
abbrev sI:Stmt:=inClass (top 23) 0
abbrev qL:Stmt:=inClass (top 25) 0
abbrev pB:Stmt:=inClass (top 26) 0
abbrev mH:Stmt:=inClass (top 22) 0
abbrev CW:Stmt:=top 90
abbrev rA:Stmt:=top 73
abbrev JW:Stmt:=top 53
abbrev Cy:Stmt:=inClass (top 69) 1
abbrev Di:Stmt:=inClass (top 70) 17
abbrev vZ:Stmt:=top 93
abbrev Dg:Stmt:=top 52
abbrev CZ:Stmt:=inClass (top 70) 13
abbrev vV:Stmt:=inClass (top 70) 14
abbrev qw:Stmt:=top 94
abbrev rQ:Stmt:=inClass (top 69) 0
abbrev uO:Stmt:=top 72
abbrev Bg:Stmt:=inClass (top 70) 15
abbrev ut:Stmt:=inClass (top 69) 2
abbrev qD:Stmt:=top 95
abbrev rW:Stmt:=inClass (top 70) 12
abbrev uE:Stmt:=top 50
abbrev uN:Stmt:=inClass (top 48) 0
abbrev rH:Stmt:=inClass (top 48) 3
abbrev Fv:Stmt:=top 49
abbrev Fp:Stmt:=inClass (top 70) 10
abbrev vO:Stmt:=inClass (top 70) 4
abbrev uz:Stmt:=top 78
abbrev nO:Stmt:=inClass (top 77) 2
abbrev uL:Stmt:=top 79
abbrev oE:Stmt:=inClass (top 77) 1
abbrev vQ:Stmt:=inClass (top 70) 3
abbrev uD:Stmt:=inClass (top 70) 5
abbrev qC:Stmt:=top 46
abbrev Jk:Stmt:=top 44
abbrev RN:Stmt:=top 45
abbrev HX:Stmt:=top 71
abbrev uw:Stmt:=inClass (top 59) 0
abbrev sJ:Stmt:=inClass (top 63) 1
abbrev Dj:Stmt:=inClass (top 48) 2
abbrev vP:Stmt:=top 51
abbrev rZ:Stmt:=top 65
abbrev uy:Stmt:=inClass (top 60) 1
abbrev uK:Stmt:=inClass (top 61) 1
abbrev rO:Stmt:=inClass (top 48) 4
abbrev rE:Stmt:=top 66
abbrev rN:Stmt:=inClass (top 62) 1
abbrev Cz:Stmt:=top 67
abbrev qK:Stmt:=inClass (top 70) 11
abbrev uI:Stmt:=inClass (top 70) 6
abbrev uh:Stmt:=inClass (top 70) 7
abbrev uM:Stmt:=top 56
abbrev Cr:Stmt:=top 55
abbrev rB:Stmt:=inClass (top 70) 8
abbrev Ar:Stmt:=top 57
abbrev pM:Stmt:=inClass (top 70) 9
abbrev pQ:Stmt:=inClass (top 70) 2
abbrev JL:Stmt:=inClass (top 70) 1
abbrev sS:Stmt:=top 75
abbrev rY:Stmt:=inClass (top 70) 0
abbrev Kp:Stmt:=top 74
abbrev nH:Stmt:=inClass (top 77) 0
abbrev qI:Stmt:=top 80
abbrev vL:Stmt:=inClass (top 60) 0
abbrev wu:Stmt:=inClass (top 61) 0
abbrev uJ:Stmt:=inClass (top 62) 0
abbrev Dl:Stmt:=inClass (top 63) 0
abbrev Ni:Stmt:=top 64
abbrev aic:Stmt:=top 96
set_option genInjectivity false in
structure Adr where
 (aa ab ac ad ae af ag ah ai aj ak al am an ao ap aq ar as au av aw ax ay az aA aB aC aD aE aF aG aH aI aJ aK aL aM aN aO aP aQ aR aS aT aU aV aW aX aY aZ a0 a1 a2 a3 a4 a5 a6 a7 a8 a9 ba bb bc bd be bf bg bh bi bj bk bl bm bn bo bp bq br bs bt bu bv bw bx bz bA bB bC bD bE bF bG bH bI bJ bK bL bM bN law bO bP bQ bR bS bT bU bV bW bX bY bZ b0 b1 b2 b3 b4:Addr)
 b5:Tok
 b6:Tok
 b7:Tok
 b8:Tok
 b9:Tok
 ca:Tok
 cb:Tok
 cc:Tok
 cd:Tok
set_option genInjectivity false in
structure Fds where
 (aa ab ac ad ae af ag ah ai aj ak al am an ao ap aq ar as au av aw ax ay az aA aB aC aD aE aF aG aH aI aJ aK aL aM aN aO aP aQ aR aS aT aU aV aW aX aY aZ a0 a1 a2 a3 a4 a5 a6 a7 a8 a9 ba bb bc bd be bf bg bh bi bj bk bl bm bn bo bp bq br bs bt bu bv bw bx bz bA bB bC bD bE bF bG bH bI bJ bK bL bM bN law:FuncData)
structure Txt(K:Fg_)(mg:Str->Option Value)(A:Adr)(D:Fds):Prop where
 ce:FG K mg "_law_held_behind" oZ A.aa D.aa
 cf:FG K mg "_law_without_givings" nu A.ab D.ab
 cg:FG K mg "_law_digits" wA A.ac D.ac
 ch:FG K mg "_law_cell_at" um A.ad D.ad
 ci:FG K mg "_law_wares" Bk A.ae D.ae
 cj:FG K mg "_law_entry" Ay A.af D.af
 ck:FG K mg "_law_mixed" xM A.ag D.ag
 cl:FG K mg "_law_cells" Al A.ah D.ah
 cm:FG K mg "_law_history" uH A.ai D.ai
 cn:FG K mg "refuse_twice" ug A.aj D.aj
 co:FG K mg "place_of" Fx A.ak D.ak
 cp:FG K mg "in_order" Fz A.al D.al
 cq:FG K mg "held_with" Cp A.am D.am
 cr:FG K mg "held_with_more" qx A.an D.an
 cs:Fun K "held_behind" "Buy.held_behind" pU A.ao D.ao
 ct:FG K mg "held_with_fewer" pK A.ap D.ap
 cu:Fun K "held_behind" "Sell.held_behind" oR A.aq D.aq
 cv:Fun K "held_behind" "Gift.held_behind" pC A.ar D.ar
 cw:Fun K "held_behind" "Give.held_behind" pA A.as D.as
 cx:Fun K "held_behind" "Split.held_behind" oG A.au D.au
 cy:Fun K "held_behind" "Parting.held_behind" nJ A.av D.av
 cz:FG K mg "held_after" Ao A.aw D.aw
 cA:FG K mg "_law_sold_out" sV A.ax D.ax
 cB:FG K mg "is_whole_number" pJ A.ay D.ay
 cC:FG K mg "check_number" uF A.az D.az
 cD:FG K mg "is_name" Ie A.aA D.aA
 cE:FG K mg "check_name" Ag A.aB D.aB
 cF:Fun K "__init__" "Entry.__init__" qG A.aC D.aC
 cG:FG K mg "check_named" wD A.aD D.aD
 cH:FG K mg "named_copy" Am A.aE D.aE
 cI:aao K "__init__" "Give.__init__" mD A.aF D.aF [V.non]
 cJ:FG K mg "check_trade" wz A.aG D.aG
 cK:aao K "__init__" "Buy.__init__" nj A.aH D.aH [V.int 0]
 cL:Fun K "__init__" "Gift.__init__" sI A.aI D.aI
 cM:Fun K "__init__" "Split.__init__" qL A.aJ D.aJ
 cN:Fun K "__init__" "Parting.__init__" pB A.aK D.aK
 cO:aao K "__init__" "Sell.__init__" mH A.aL D.aL [V.int 0,V.non]
 cP:FG K mg "_law_made" CW A.aM D.aM
 cQ:FG K mg "cost_of_parts" rA A.aN D.aN
 cR:FG K mg "cost_in" JW A.aO D.aO
 cS:Fun K "gain" "Sale.gain" Cy A.aP D.aP
 cT:Fun K "sums" "Book.sums" Di A.aQ D.aQ
 cU:FG K mg "_law_summed" vZ A.aR D.aR
 cV:FG K mg "pieces_in" Dg A.aS D.aS
 cW:Fun K "held" "Book.held" CZ A.aT D.aT
 cX:Fun K "row_of" "Book.row_of" vV A.aU D.aU
 cY:FG K mg "_law_rows_good" qw A.aV D.aV
 cZ:Fun K "__init__" "Sale.__init__" rQ A.aW D.aW
 c0:FG K mg "copy_of_sale" uO A.aX D.aX
 c1:Fun K "sales" "Book.sales" Bg A.aY D.aY
 c2:Fun K "counted" "Sale.counted" ut A.aZ D.aZ
 c3:FG K mg "_law_book_good" qD A.a0 D.a0
 c4:Fun K "keep_row" "Book.keep_row" rW A.a1 D.a1
 c5:FG K mg "place_in_row" uE A.a2 D.a2
 c6:Fun K "__init__" "Lot.__init__" uN A.a3 D.a3
 c7:Fun K "with_more" "Lot.with_more" rH A.a4 D.a4
 c8:FG K mg "row_with" Fv A.a5 D.a5
 c9:Fun K "put" "Book.put" Fp A.a6 D.a6
 da:Fun K "lay_on" "Book.lay_on" vO A.a7 D.a7
 db:FG K mg "is_open_loss" uz A.a8 D.a8
 dc:Fun K "may_take" "LayingBook.may_take" nO A.a9 D.a9
 dd:FG K mg "sale_laid_on" uL A.ba D.ba
 de:Fun K "lay_on" "LayingBook.lay_on" oE A.bb D.bb
 df:Fun K "do_buy" "Book.do_buy" vQ A.bc D.bc
 dg:Fun K "do_gift" "Book.do_gift" uD A.bd D.bd
 dh:FG K mg "sum_of_weights" qC A.be D.be
 di:FG K mg "part_of" Jk A.bf D.bf
 dj:FG K mg "dealt" RN A.bg D.bg
 dk:FG K mg "sale_of" HX A.bh D.bh
 dl:Fun K "levelled" "Way.levelled" uw A.bi D.bi
 dm:Fun K "levelled" "Mean.levelled" sJ A.bj D.bj
 dn:Fun K "taken" "Lot.taken" Dj A.bk D.bk
 dp:FG K mg "row_without" vP A.bl D.bl
 dq:FG K mg "picks_in_turn" rZ A.bm D.bm
 dr:Fun K "picks" "Eldest.picks" uy A.bn D.bn
 ds:Fun K "picks" "Newest.picks" uK A.bo D.bo
 dt:Fun K "is_dearer" "Lot.is_dearer" rO A.bp D.bp
 du:FG K mg "dearest_first" rE A.bq D.bq
 dv:Fun K "picks" "Dearest.picks" rN A.br D.br
 dw:FG K mg "gone_from" Cz A.bs D.bs
 dx:Fun K "taken_for" "Book.taken_for" qK A.bt D.bt
 dy:Fun K "do_sell" "Book.do_sell" uI A.bu D.bu
 dz:Fun K "do_give" "Book.do_give" uh A.bv D.bv
 dA:FG K mg "pieces_split" uM A.bw D.bw
 dB:FG K mg "row_split" Cr A.bx D.bx
 dC:Fun K "do_split" "Book.do_split" rB A.bz D.bz
 dD:FG K mg "row_parted" Ar A.bA D.bA
 dE:Fun K "do_parting" "Book.do_parting" pM A.bB D.bB
 dF:Fun K "do_by_kind" "Book.do_by_kind" pQ A.bC D.bC
 dG:Fun K "do" "Book.do" JL A.bD D.bD
 dH:FG K mg "with_all_done" sS A.bE D.bE
 dI:Fun K "__init__" "Book.__init__" rY A.bF D.bF
 dJ:FG K mg "book_of" Kp A.bG D.bG
 dK:Fun K "__init__" "LayingBook.__init__" nH A.bH D.bH
 dL:FG K mg "laying_book_of" qI A.bI D.bI
 dM:Fun K "word" "Eldest.word" vL A.bJ D.bJ
 dN:Fun K "word" "Newest.word" wu A.bK D.bK
 dO:Fun K "word" "Dearest.word" uJ A.bL D.bL
 dP:Fun K "word" "Mean.word" Dl A.bM D.bM
 dQ:FG K mg "way_by" Ni A.bN D.bN
 dR:FG K mg "law" aic A.law D.law
 dS:mg "dict" =none
 dT:mg "len" =none
 dU:mg "int" =none
 dV:mg "min" =none
 dW:mg "max" =none
 dX:mg "range" =none
 dY:mg "enumerate" =none
 dZ:mg "sorted" =none
 d0:mg "zip" =none
 d1:mg "isinstance" =none
 d2:mg "bool" =none
 d3:mg "all" =none
 d4:mg "str" =none
 d5:mg "list" =none
 d6:mg "sum" =none
 d7:mg "set" =none
 d8:mg "any" =none
 d9:mg "reversed" =none
 ea:mg "Buy" =some (.ref A.bO)
 eb:mg "Sell" =some (.ref A.bP)
 ec:mg "Gift" =some (.ref A.bQ)
 ed:mg "Give" =some (.ref A.bR)
 ee:mg "Split" =some (.ref A.bS)
 ef:mg "Parting" =some (.ref A.bT)
 eg:mg "Entry" =some (.ref A.bU)
 eh:mg "Sale" =some (.ref A.bV)
 ei:mg "Book" =some (.ref A.bW)
 ej:mg "LayingBook" =some (.ref A.bX)
 ek:mg "Lot" =some (.ref A.bY)
 el:mg "Mean" =some (.ref A.b0)
 em:mg "Eldest" =some (.ref A.b1)
 en:mg "Newest" =some (.ref A.b2)
 eo:mg "Dearest" =some (.ref A.b3)
 ep:mg "MOST_LETTERS" =some (.int 8 A.b5)
 eq:mg "MOST_DAY" =some (.int 1000000 A.b6)
 er:mg "MOST_NUMBER" =some (.int 1000000 A.b7)
 es:mg "MOST_PIECES" =some (.int 1000000000 A.b8)
 et:mg "MOST_PRICE" =some (.int 1000000000 A.b9)
 eu:mg "MOST_FEE" =some (.int 1000000000 A.ca)
 ev:mg "MOST_GIFT_COST" =some (.int 1000000000000000000 A.cb)
 ew:mg "MOST_SPLIT" =some (.int 1000 A.cc)
 ex:mg "MOST_WHOLE" =some (.int 1000000 A.cd)
 ey:Cls K A.bO
 ez:Rk K A.bO
 eA:jt K A.bO "day"
 eB:jt K A.bO "number"
 eC:jt K A.bO "ware"
 eD:jt K A.bO "pieces"
 eE:jt K A.bO "price"
 eF:jt K A.bO "fee"
 eG:jt K A.bO "cost"
 eH:Cls K A.bP
 eI:Rk K A.bP
 eJ:jt K A.bP "day"
 eK:jt K A.bP "number"
 eL:jt K A.bP "ware"
 eM:jt K A.bP "pieces"
 eN:jt K A.bP "price"
 eO:jt K A.bP "fee"
 eP:jt K A.bP "named"
 eQ:jt K A.bP "proceeds"
 eR:Cls K A.bQ
 eS:Rk K A.bQ
 eT:jt K A.bQ "day"
 eU:jt K A.bQ "number"
 eV:jt K A.bQ "ware"
 eW:jt K A.bQ "pieces"
 eX:jt K A.bQ "cost"
 eY:jt K A.bQ "since"
 eZ:Cls K A.bR
 e0:Rk K A.bR
 e1:jt K A.bR "day"
 e2:jt K A.bR "number"
 e3:jt K A.bR "ware"
 e4:jt K A.bR "pieces"
 e5:jt K A.bR "named"
 e6:Cls K A.bS
 e7:Rk K A.bS
 e8:jt K A.bS "day"
 e9:jt K A.bS "number"
 fa:jt K A.bS "ware"
 fb:jt K A.bS "many"
 fc:jt K A.bS "of"
 fd:Cls K A.bT
 fe:Rk K A.bT
 ff:jt K A.bT "day"
 fg:jt K A.bT "number"
 fh:jt K A.bT "ware"
 fi:jt K A.bT "other"
 fj:jt K A.bT "share"
 fk:jt K A.bT "whole"
 fl:Cls K A.bV
 fm:jt K A.bV "number"
 fn:jt K A.bV "day"
 fo:jt K A.bV "ware"
 fp:jt K A.bV "proceeds"
 fq:jt K A.bV "parts"
 fr:jt K A.bV "laid_on"
 fs:Cls K A.bW
 ft:jt K A.bW "way"
 fu:jt K A.bW "rows"
 fv:jt K A.bW "last_place"
 fw:jt K A.bW "paid"
 fx:jt K A.bW "brought"
 fy:jt K A.bW "sales_done"
 fz:jt K A.bW "givings_done"
 fA:Cls K A.bX
 fB:jt K A.bX "way"
 fC:jt K A.bX "rows"
 fD:jt K A.bX "last_place"
 fE:jt K A.bX "paid"
 fF:jt K A.bX "brought"
 fG:jt K A.bX "sales_done"
 fH:jt K A.bX "givings_done"
 fI:jt K A.bX "days"
 fJ:jt K A.bX "layings"
 fK:Cls K A.bY
 fL:jt K A.bY "number"
 fM:jt K A.bY "since"
 fN:jt K A.bY "pieces"
 fO:jt K A.bY "cost"
 fP:Cls K A.b0
 fQ:Cls K A.b1
 fR:Cls K A.b2
 fS:Cls K A.b3
 fT:Mk K A.bR A.aF
 fU:Mk K A.bO A.aH
 fV:Mk K A.bQ A.aI
 fW:Mk K A.bS A.aJ
 fX:Mk K A.bT A.aK
 fY:Mk K A.bP A.aL
 fZ:Mk K A.bV A.aW
 f0:Mk K A.bY A.a3
 f1:Mk K A.bW A.bF
 f2:Mk K A.bX A.bH
 f3:Mk0 K A.b1
 f4:Mk0 K A.b2
 f5:Mk0 K A.b3
 f6:Mk0 K A.b0
 f7:Meth K A.bO "held_behind" A.ao
 f8:Meth K A.bP "held_behind" A.aq
 f9:Meth K A.bQ "held_behind" A.ar
 ga:Meth K A.bR "held_behind" A.as
 gb:Meth K A.bS "held_behind" A.au
 gc:Meth K A.bT "held_behind" A.av
 gd:Meth K A.bV "gain" A.aP
 ge:Meth K A.bW "held" A.aT
 gf:Meth K A.bX "held" A.aT
 gg:Meth K A.bW "row_of" A.aU
 gh:Meth K A.bX "row_of" A.aU
 gi:Meth K A.bW "sums" A.aQ
 gj:Meth K A.bX "sums" A.aQ
 gk:Meth K A.bW "sales" A.aY
 gl:Meth K A.bX "sales" A.aY
 gm:Meth K A.bV "counted" A.aZ
 gn:Meth K A.bY "with_more" A.a4
 go:Meth K A.bW "keep_row" A.a1
 gp:Meth K A.bX "keep_row" A.a1
 gq:Meth K A.bX "may_take" A.a9
 gr:Meth K A.bW "put" A.a6
 gs:Meth K A.bX "put" A.a6
 gt:Meth K A.bW "lay_on" A.a7
 gu:Meth K A.bX "lay_on" A.bb
 gv:Meth K A.bY "taken" A.bk
 gw:Meth K A.bY "is_dearer" A.bp
 gx:Meth K A.b1 "levelled" A.bi
 gy:Meth K A.b2 "levelled" A.bi
 gz:Meth K A.b3 "levelled" A.bi
 gA:Meth K A.b0 "levelled" A.bj
 gB:Meth K A.b1 "picks" A.bn
 gC:Meth K A.b2 "picks" A.bo
 gD:Meth K A.b3 "picks" A.br
 gE:Meth K A.b0 "picks" A.bn
 gF:Meth K A.bW "taken_for" A.bt
 gG:Meth K A.bX "taken_for" A.bt
 gH:Meth K A.bW "do_buy" A.bc
 gI:Meth K A.bX "do_buy" A.bc
 gJ:Meth K A.bW "do_gift" A.bd
 gK:Meth K A.bX "do_gift" A.bd
 gL:Meth K A.bW "do_sell" A.bu
 gM:Meth K A.bX "do_sell" A.bu
 gN:Meth K A.bW "do_give" A.bv
 gO:Meth K A.bX "do_give" A.bv
 gP:Meth K A.bW "do_split" A.bz
 gQ:Meth K A.bX "do_split" A.bz
 gR:Meth K A.bW "do_parting" A.bB
 gS:Meth K A.bX "do_parting" A.bB
 gT:Meth K A.bW "do_by_kind" A.bC
 gU:Meth K A.bX "do_by_kind" A.bC
 gV:Meth K A.bW "do" A.bD
 gW:Meth K A.bX "do" A.bD
 gX:Meth K A.b1 "word" A.bJ
 gY:Meth K A.b2 "word" A.bK
 gZ:Meth K A.b3 "word" A.bL
 g0:Meth K A.b0 "word" A.bM
 g1:akn K A.bU "__init__" A.aC
 g2:akn K A.bW "__init__" A.bF
 g3:kitOne K (.ref A.bO) (.ref A.bP)=some false/\kitOne K (.ref A.bO) (.ref A.bQ)=some false/\kitOne K (.ref A.bO) (.ref A.bR)=some false/\kitOne K (.ref A.bO) (.ref A.bS)=some false/\kitOne K (.ref A.bO) (.ref A.bT)=some false
 g4:kitOne K (.ref A.bP) (.ref A.bO)=some false/\kitOne K (.ref A.bP) (.ref A.bQ)=some false/\kitOne K (.ref A.bP) (.ref A.bR)=some false/\kitOne K (.ref A.bP) (.ref A.bS)=some false/\kitOne K (.ref A.bP) (.ref A.bT)=some false
 g5:kitOne K (.ref A.bQ) (.ref A.bO)=some false/\kitOne K (.ref A.bQ) (.ref A.bP)=some false/\kitOne K (.ref A.bQ) (.ref A.bR)=some false/\kitOne K (.ref A.bQ) (.ref A.bS)=some false/\kitOne K (.ref A.bQ) (.ref A.bT)=some false
 g6:kitOne K (.ref A.bR) (.ref A.bO)=some false/\kitOne K (.ref A.bR) (.ref A.bP)=some false/\kitOne K (.ref A.bR) (.ref A.bQ)=some false/\kitOne K (.ref A.bR) (.ref A.bS)=some false/\kitOne K (.ref A.bR) (.ref A.bT)=some false
 g7:kitOne K (.ref A.bS) (.ref A.bO)=some false/\kitOne K (.ref A.bS) (.ref A.bP)=some false/\kitOne K (.ref A.bS) (.ref A.bQ)=some false/\kitOne K (.ref A.bS) (.ref A.bR)=some false/\kitOne K (.ref A.bS) (.ref A.bT)=some false
 g8:kitOne K (.ref A.bT) (.ref A.bO)=some false/\kitOne K (.ref A.bT) (.ref A.bP)=some false/\kitOne K (.ref A.bT) (.ref A.bQ)=some false/\kitOne K (.ref A.bT) (.ref A.bR)=some false/\kitOne K (.ref A.bT) (.ref A.bS)=some false
local macro_rules | `(tactic| walk_at "s") => `(tactic| exact ⟨rfl, rfl, rfl, by decide +kernel, rfl, by decide +kernel, by decide +kernel⟩)
def jT:jj ["_law_held", "_law_told", "_law_found", "_law_ware", "_law_there", "_law_pieces"] ["_law_held", "_law_told"] (jg oZ):=by walk_at "s"
def jV:jj ["_law_told", "_law_kept", "_law_held", "_law_row", "_law_behind"] ["_law_told"] (jg nu):=by walk_at "s"
def qd:jj ["_law_cell", "_law_bases", "_law_row", "_law_base"] ["_law_cell", "_law_bases"] (jg wA):=by walk_at "s"
def Kl:jj ["_law_script", "_law_k"] ["_law_script", "_law_k"] (jg um):=by walk_at "s"
def oU:jj ["_law_script", "_law_word", "_law_cell", "_law_many"] ["_law_script"] (jg Bk):=by walk_at "s"
def jM:jj ["_law_cell", "_law_day", "_law_number", "_law_wares_here", "_law_held", "_law_kind", "_law_at", "_law_size", "_law_pieces", "_law_price", "_law_fee", "_law_many", "_law_ware", "_law_there", "_law_whole", "_law_other"] ["_law_cell", "_law_day", "_law_number", "_law_wares_here", "_law_held"] (jg Ay):=by walk_at "s"
def wF:jj ["_law_cell", "_law_k", "_law_number", "_law_other"] ["_law_cell", "_law_k"] (jg xM):=by walk_at "s"
def Ek:jj ["_law_script", "_law_many"] ["_law_script"] (jg Al):=by walk_at "s"
def jF:jj ["_law_script", "_law_most", "_law_wares_here", "_law_low", "_law_step", "_law_told", "_law_held", "_law_day", "_law_k", "_law_cell", "_law_way", "_law_more", "_law_entry_here", "_law_behind"] ["_law_script", "_law_most"] (jg uH):=by walk_at "s"
def oX:jj ["numbers", "rising", "ahead", "behind"] ["numbers"] (jg ug):=by walk_at "s"
def Te:jj ["entry"] ["entry"] (jg Fx):=by walk_at "s"
def RZ:jj ["entries"] ["entries"] (jg Fz):=by walk_at "s"
def Gi:jj ["held", "ware", "pieces", "changed"] ["held", "ware", "pieces"] (jg Cp):=by walk_at "s"
def Fy:jj ["held", "ware", "pieces"] ["held", "ware", "pieces"] (jg qx):=by walk_at "s"
def Es:jj ["self", "held"] ["self", "held"] (jg pU):=by walk_at "s"
def tK:jj ["held", "ware", "pieces", "before"] ["held", "ware", "pieces"] (jg pK):=by walk_at "s"
def CN:jj ["self", "held"] ["self", "held"] (jg oR):=by walk_at "s"
def Cv:jj ["self", "held"] ["self", "held"] (jg pC):=by walk_at "s"
def Dk:jj ["self", "held"] ["self", "held"] (jg pA):=by walk_at "s"
def nZ:jj ["self", "held", "before", "behind"] ["self", "held"] (jg oG):=by walk_at "s"
def xu:jj ["self", "held"] ["self", "held"] (jg nJ):=by walk_at "s"
def oY:jj ["entries", "held", "entry", "behind"] ["entries"] (jg Ao):=by walk_at "s"
def jK:jj ["_law_script", "_law_told", "_law_held", "_law_day", "_law_row", "_law_more", "_law_ware", "_law_left", "_law_some", "_law_price", "_law_number"] ["_law_script", "_law_told"] (jg sV):=by walk_at "s"
def En:jj ["value"] ["value"] (jg pJ):=by walk_at "s"
def JN:jj ["what", "value", "least", "most"] ["what", "value", "least", "most"] (jg uF):=by walk_at "s"
def Vy:jj ["value"] ["value"] (jg Ie):=by walk_at "s"
def MN:jj ["what", "value"] ["what", "value"] (jg Ag):=by walk_at "s"
def Fw:jj ["self", "day", "number", "ware"] ["self", "day", "number", "ware"] (jg qG):=by walk_at "s"
def Lp:jj ["named", "pieces", "seen", "lot", "lot_pieces"] ["named", "pieces"] (jg wD):=by walk_at "s"
def MK:jj ["named"] ["named"] (jg Am):=by walk_at "s"
def Gn:jj ["self", "day", "number", "ware", "pieces", "named"] ["self", "day", "number", "ware", "pieces", "named"] (jg mD):=by walk_at "s"
def Lb:jj ["pieces", "price", "fee"] ["pieces", "price", "fee"] (jg wz):=by walk_at "s"
def JK:jj ["self", "day", "number", "ware", "pieces", "price", "fee"] ["self", "day", "number", "ware", "pieces", "price", "fee"] (jg nj):=by walk_at "s"
def Gu:jj ["self", "day", "number", "ware", "pieces", "cost", "since"] ["self", "day", "number", "ware", "pieces", "cost", "since"] (jg sI):=by walk_at "s"
def Ft:jj ["self", "day", "number", "ware", "many", "of"] ["self", "day", "number", "ware", "many", "of"] (jg qL):=by walk_at "s"
def Cu:jj ["self", "day", "number", "ware", "other", "share", "whole"] ["self", "day", "number", "ware", "other", "share", "whole"] (jg pB):=by walk_at "s"
def Gk:jj ["self", "day", "number", "ware", "pieces", "price", "fee", "named"] ["self", "day", "number", "ware", "pieces", "price", "fee", "named"] (jg mH):=by walk_at "s"
def tO:jj ["_law_told", "_law_rest", "_law_named"] ["_law_told"] (jg CW):=by walk_at "s"
def Gm:jj ["parts"] ["parts"] (jg rA):=by walk_at "s"
def VR:jj ["lots"] ["lots"] (jg JW):=by walk_at "s"
def QC:jj ["self"] ["self"] (jg Cy):=by walk_at "s"
def PN:jj ["self"] ["self"] (jg Di):=by walk_at "s"
def qb:jj ["_law_told", "_law_paid", "_law_brought", "_law_proceeds"] ["_law_told"] (jg vZ):=by walk_at "s"
def PJ:jj ["lots"] ["lots"] (jg Dg):=by walk_at "s"
def Qk:jj ["self"] ["self"] (jg CZ):=by walk_at "s"
def La:jj ["self", "ware"] ["self", "ware"] (jg vV):=by walk_at "s"
def mL:jj ["_law_book", "_law_held", "_law_ware", "_law_row", "_law_places", "_law_pieces"] ["_law_book", "_law_held"] (jg qw):=by walk_at "s"
def GR:jj ["self", "number", "day", "ware", "proceeds", "parts", "laid_on"] ["self", "number", "day", "ware", "proceeds", "parts", "laid_on"] (jg rQ):=by walk_at "s"
def Jz:jj ["sale"] ["sale"] (jg uO):=by walk_at "s"
def Oe:jj ["self"] ["self"] (jg Bg):=by walk_at "s"
def Ju:jj ["self"] ["self"] (jg ut):=by walk_at "s"
def mK:jj ["_law_book", "_law_told", "_law_held", "_law_sums", "_law_come", "_law_laid", "_law_gain"] ["_law_book", "_law_told", "_law_held"] (jg qD):=by walk_at "s"
def Hh:jj ["self", "ware", "row"] ["self", "ware", "row"] (jg rW):=by walk_at "s"
def Jl:jj ["lot"] ["lot"] (jg uE):=by walk_at "s"
def Jx:jj ["self", "number", "since", "pieces", "cost"] ["self", "number", "since", "pieces", "cost"] (jg uN):=by walk_at "s"
def Gr:jj ["self", "pieces", "cost"] ["self", "pieces", "cost"] (jg rH):=by walk_at "s"
def RP:jj ["lots", "lot"] ["lots", "lot"] (jg Fv):=by walk_at "s"
def vY:jj ["self", "ware", "lots", "row", "lot"] ["self", "ware", "lots"] (jg Fp):=by walk_at "s"
def KY:jj ["self", "entry"] ["self", "entry"] (jg vO):=by walk_at "s"
def Jc:jj ["sale"] ["sale"] (jg uz):=by walk_at "s"
def xK:jj ["self", "entry", "sale"] ["self", "entry", "sale"] (jg nO):=by walk_at "s"
def Jv:jj ["sale", "number"] ["sale", "number"] (jg uL):=by walk_at "s"
def qN:jj ["self", "entry", "taken"] ["self", "entry"] (jg oE):=by walk_at "s"
def BJ:jj ["self", "entry", "cost"] ["self", "entry"] (jg vQ):=by walk_at "s"
def Iz:jj ["self", "entry"] ["self", "entry"] (jg uD):=by walk_at "s"
def vB:jj ["weights", "whole"] ["weights"] (jg qC):=by walk_at "s"
def Wv:jj ["amount", "part", "whole"] ["amount", "part", "whole"] (jg Jk):=by walk_at "s"
def qX:jj ["amount", "weights", "whole", "shares", "weight_till_here", "dealt_till_here", "weight", "dealt_with_it"] ["amount", "weights"] (jg RN):=by walk_at "s"
def EY:jj ["entry", "lots", "shares", "parts"] ["entry", "lots"] (jg HX):=by walk_at "s"
def Jw:jj ["self", "lots"] ["self", "lots"] (jg uw):=by walk_at "s"
def wL:jj ["self", "lots", "costs"] ["self", "lots"] (jg sJ):=by walk_at "s"
def Ab:jj ["self", "pieces", "cost", "gone"] ["self", "pieces"] (jg Dj):=by walk_at "s"
def mq:jj ["lots", "picks", "left", "taken", "number", "pieces", "lot", "parts"] ["lots", "picks"] (jg vP):=by walk_at "s"
def lW:jj ["lots", "pieces", "picks", "wanted", "lot", "going"] ["lots", "pieces"] (jg rZ):=by walk_at "s"
def Jh:jj ["self", "lots", "pieces"] ["self", "lots", "pieces"] (jg uy):=by walk_at "s"
def Jb:jj ["self", "lots", "pieces"] ["self", "lots", "pieces"] (jg uK):=by walk_at "s"
def GC:jj ["self", "other"] ["self", "other"] (jg rO):=by walk_at "s"
def ou:jj ["lots", "turn", "lot", "cheaper"] ["lots"] (jg rE):=by walk_at "s"
def GJ:jj ["self", "lots", "pieces"] ["self", "lots", "pieces"] (jg rN):=by walk_at "s"
def Aj:jj ["way", "lots", "pieces", "named", "row", "picks"] ["way", "lots", "pieces", "named"] (jg Cz):=by walk_at "s"
def vh:jj ["self", "entry", "gone"] ["self", "entry"] (jg qK):=by walk_at "s"
def Ii:jj ["self", "entry"] ["self", "entry"] (jg uI):=by walk_at "s"
def Jm:jj ["self", "entry"] ["self", "entry"] (jg uh):=by walk_at "s"
def lB:jj ["lots", "many", "of", "counts", "pieces_till_here", "split_till_here", "lot", "split_with_it"] ["lots", "many", "of"] (jg uM):=by walk_at "s"
def mQ:jj ["lots", "many", "of", "row", "cost_of_gone", "lot", "pieces", "last"] ["lots", "many", "of"] (jg Cr):=by walk_at "s"
def GK:jj ["self", "entry"] ["self", "entry"] (jg rB):=by walk_at "s"
def qU:jj ["lots", "share", "whole", "parts", "going_on", "second"] ["lots", "share", "whole"] (jg Ar):=by walk_at "s"
def tR:jj ["self", "entry", "rows"] ["self", "entry"] (jg pM):=by walk_at "s"
def Dv:jj ["self", "entry"] ["self", "entry"] (jg pQ):=by walk_at "s"
def WQ:jj ["self", "entry"] ["self", "entry"] (jg JL):=by walk_at "s"
def wK:jj ["book", "entries", "entry"] ["book", "entries"] (jg sS):=by walk_at "s"
def Gy:jj ["self", "way"] ["self", "way"] (jg rY):=by walk_at "s"
def WX:jj ["way", "entries"] ["way", "entries"] (jg Kp):=by walk_at "s"
def xJ:jj ["self", "way", "days"] ["self", "way", "days"] (jg nH):=by walk_at "s"
def Ff:jj ["way", "days", "entries"] ["way", "days", "entries"] (jg qI):=by walk_at "s"
def KC:jj ["self"] ["self"] (jg vL):=by walk_at "s"
def Lk:jj ["self"] ["self"] (jg wu):=by walk_at "s"
def HF:jj ["self"] ["self"] (jg uJ):=by walk_at "s"
def Pg:jj ["self"] ["self"] (jg Dl):=by walk_at "s"
def Py:jj ["word", "way"] ["word"] (jg Ni):=by walk_at "s"
def BR:jj ["_law_script", "_law_told", "_law_held", "_law_row", "_law_days", "_law_some", "_law_entries", "_law_left", "_law_word"] ["_law_script"] (jg aic):=by walk_at "s"
section
variable{P:Program}{w:World}{K:Fg_}{mg:Str->Option Value}{base:Heap}{A:Adr}{D:Fds}
variable{B G H H':Hp}{C a b dx f l q x:Addr}{Q:VK}{W ws:List Str}{acc:List V}{c hi lo m p r s:Int}{cap:List (Option Nat)}{fd:FuncData}{i j:Nat}{kvs:List (Key×V)}{o:HO}{os:List (Addr×HO)}{st:Stmt}{t tb u:TS}{te:TE}{v y:V}{z:Str}{α:Type}{σ:L2.St}
variable(T:Txt K mg A D)
def nC:Binds K D.aa ["_law_held", "_law_told"] []:=T.ce.F.binds λ_ _ _ _ _ _=>ln2 λ_ _=>rfl
def xG:Binds K D.ab ["_law_told"] []:=T.cf.F.binds λ_ _ _ _ _ _=>ln1 λ_=>rfl
def vX:Binds K D.ac ["_law_cell", "_law_bases"] []:=T.cg.F.binds λ_ _ _ _ _ _=>ln2 λ_ _=>rfl
def lY:Binds K D.ad ["_law_script", "_law_k"] []:=T.ch.F.binds λ_ _ _ _ _ _=>ln2 λ_ _=>rfl
def Rx:Binds K D.ae ["_law_script"] []:=T.ci.F.binds λ_ _ _ _ _ _=>ln1 λ_=>rfl
def QL:Binds K D.af ["_law_cell", "_law_day", "_law_number", "_law_wares_here", "_law_held"] []:=T.cj.F.binds λ_ _ _ _ _ _=>ln5 λ_ _ _ _ _=>rfl
def PB:Binds K D.ag ["_law_cell", "_law_k"] []:=T.ck.F.binds λ_ _ _ _ _ _=>ln2 λ_ _=>rfl
def Rh:Binds K D.ah ["_law_script"] []:=T.cl.F.binds λ_ _ _ _ _ _=>ln1 λ_=>rfl
def Kw:Binds K D.ai ["_law_script", "_law_most"] []:=T.cm.F.binds λ_ _ _ _ _ _=>ln2 λ_ _=>rfl
def KQ:Binds K D.aj ["numbers"] []:=T.cn.F.binds λ_ _ _ _ _ _=>ln1 λ_=>rfl
def Fd:Binds K D.ak ["entry"] []:=T.co.F.binds λ_ _ _ _ _ _=>ln1 λ_=>rfl
def LK:Binds K D.al ["entries"] []:=T.cp.F.binds λ_ _ _ _ _ _=>ln1 λ_=>rfl
def CG:Binds K D.am ["held", "ware", "pieces"] []:=T.cq.F.binds λ_ _ _ _ _ _=>ln3 λ_ _ _=>rfl
def qH:Binds K D.an ["held", "ware", "pieces"] []:=T.cr.F.binds λ_ _ _ _ _ _=>ln3 λ_ _ _=>rfl
def uR:Binds K D.ao ["self", "held"] []:=T.cs.binds λ_ _ _ _ _ _=>ln2 λ_ _=>rfl
def vA:Binds K D.ap ["held", "ware", "pieces"] []:=T.ct.F.binds λ_ _ _ _ _ _=>ln3 λ_ _ _=>rfl
def tU:Binds K D.aq ["self", "held"] []:=T.cu.binds λ_ _ _ _ _ _=>ln2 λ_ _=>rfl
def uf:Binds K D.ar ["self", "held"] []:=T.cv.binds λ_ _ _ _ _ _=>ln2 λ_ _=>rfl
def tH:Binds K D.as ["self", "held"] []:=T.cw.binds λ_ _ _ _ _ _=>ln2 λ_ _=>rfl
def su:Binds K D.au ["self", "held"] []:=T.cx.binds λ_ _ _ _ _ _=>ln2 λ_ _=>rfl
def qg:Binds K D.av ["self", "held"] []:=T.cy.binds λ_ _ _ _ _ _=>ln2 λ_ _=>rfl
def Rp:Binds K D.aw ["entries"] []:=T.cz.F.binds λ_ _ _ _ _ _=>ln1 λ_=>rfl
def JD:Binds K D.ax ["_law_script", "_law_told"] []:=T.cA.F.binds λ_ _ _ _ _ _=>ln2 λ_ _=>rfl
def Fq:Binds K D.ay ["value"] []:=T.cB.F.binds λ_ _ _ _ _ _=>ln1 λ_=>rfl
def jQ:Binds K D.az ["what", "value", "least", "most"] []:=T.cC.F.binds λ_ _ _ _ _ _=>ln4 λ_ _ _ _=>rfl
def Xl:Binds K D.aA ["value"] []:=T.cD.F.binds λ_ _ _ _ _ _=>ln1 λ_=>rfl
def Ga:Binds K D.aB ["what", "value"] []:=T.cE.F.binds λ_ _ _ _ _ _=>ln2 λ_ _=>rfl
def lV:Binds K D.aC ["self", "day", "number", "ware"] []:=T.cF.binds λ_ _ _ _ _ _=>ln4 λ_ _ _ _=>rfl
def DN:Binds K D.aD ["named", "pieces"] []:=T.cG.F.binds λ_ _ _ _ _ _=>ln2 λ_ _=>rfl
def Gh:Binds K D.aE ["named"] []:=T.cH.F.binds λ_ _ _ _ _ _=>ln1 λ_=>rfl
def Dz:Binds K D.aG ["pieces", "price", "fee"] []:=T.cJ.F.binds λ_ _ _ _ _ _=>ln3 λ_ _ _=>rfl
def Jo:Binds K D.aI ["self", "day", "number", "ware", "pieces", "cost", "since"] []:=T.cL.binds λ_ _ _ _ _ _=>ln7 λ_ _ _ _ _ _ _=>rfl
def Gw:Binds K D.aJ ["self", "day", "number", "ware", "many", "of"] []:=T.cM.binds λ_ _ _ _ _ _=>ln6 λ_ _ _ _ _ _=>rfl
def Ef:Binds K D.aK ["self", "day", "number", "ware", "other", "share", "whole"] []:=T.cN.binds λ_ _ _ _ _ _=>ln7 λ_ _ _ _ _ _ _=>rfl
def Sv:Binds K D.aM ["_law_told"] []:=T.cP.F.binds λ_ _ _ _ _ _=>ln1 λ_=>rfl
def Bj:Binds K D.aN ["parts"] []:=T.cQ.F.binds λ_ _ _ _ _ _=>ln1 λ_=>rfl
def JG:Binds K D.aO ["lots"] []:=T.cR.F.binds λ_ _ _ _ _ _=>ln1 λ_=>rfl
def pN:Binds K D.aP ["self"] []:=T.cS.binds λ_ _ _ _ _ _=>ln1 λ_=>rfl
def IV:Binds K D.aQ ["self"] []:=T.cT.binds λ_ _ _ _ _ _=>ln1 λ_=>rfl
def Om:Binds K D.aR ["_law_told"] []:=T.cU.F.binds λ_ _ _ _ _ _=>ln1 λ_=>rfl
def RM:Binds K D.aS ["lots"] []:=T.cV.F.binds λ_ _ _ _ _ _=>ln1 λ_=>rfl
def vW:Binds K D.aT ["self"] []:=T.cW.binds λ_ _ _ _ _ _=>ln1 λ_=>rfl
def lw:Binds K D.aU ["self", "ware"] []:=T.cX.binds λ_ _ _ _ _ _=>ln2 λ_ _=>rfl
def Hg:Binds K D.aV ["_law_book", "_law_held"] []:=T.cY.F.binds λ_ _ _ _ _ _=>ln2 λ_ _=>rfl
def sU:Binds K D.aW ["self", "number", "day", "ware", "proceeds", "parts", "laid_on"] []:=T.cZ.binds λ_ _ _ _ _ _=>ln7 λ_ _ _ _ _ _ _=>rfl
def Lh:Binds K D.aX ["sale"] []:=T.c0.F.binds λ_ _ _ _ _ _=>ln1 λ_=>rfl
def uc:Binds K D.aY ["self"] []:=T.c1.binds λ_ _ _ _ _ _=>ln1 λ_=>rfl
def Ky:Binds K D.aZ ["self"] []:=T.c2.binds λ_ _ _ _ _ _=>ln1 λ_=>rfl
def xr:Binds K D.a0 ["_law_book", "_law_told", "_law_held"] []:=T.c3.F.binds λ_ _ _ _ _ _=>ln3 λ_ _ _=>rfl
def lC:Binds K D.a1 ["self", "ware", "row"] []:=T.c4.binds λ_ _ _ _ _ _=>ln3 λ_ _ _=>rfl
def Lj:Binds K D.a2 ["lot"] []:=T.c5.F.binds λ_ _ _ _ _ _=>ln1 λ_=>rfl
def lu:Binds K D.a3 ["self", "number", "since", "pieces", "cost"] []:=T.c6.binds λ_ _ _ _ _ _=>ln5 λ_ _ _ _ _=>rfl
def Bf:Binds K D.a4 ["self", "pieces", "cost"] []:=T.c7.binds λ_ _ _ _ _ _=>ln3 λ_ _ _=>rfl
def Wd:Binds K D.a5 ["lots", "lot"] []:=T.c8.F.binds λ_ _ _ _ _ _=>ln2 λ_ _=>rfl
def rm:Binds K D.a6 ["self", "ware", "lots"] []:=T.c9.binds λ_ _ _ _ _ _=>ln3 λ_ _ _=>rfl
def Oo:Binds K D.a7 ["self", "entry"] []:=T.da.binds λ_ _ _ _ _ _=>ln2 λ_ _=>rfl
def Lg:Binds K D.a8 ["sale"] []:=T.db.F.binds λ_ _ _ _ _ _=>ln1 λ_=>rfl
def qj:Binds K D.a9 ["self", "entry", "sale"] []:=T.dc.binds λ_ _ _ _ _ _=>ln3 λ_ _ _=>rfl
def KR:Binds K D.ba ["sale", "number"] []:=T.dd.F.binds λ_ _ _ _ _ _=>ln2 λ_ _=>rfl
def Dm:Binds K D.bb ["self", "entry"] []:=T.de.binds λ_ _ _ _ _ _=>ln2 λ_ _=>rfl
def Dt:Binds K D.bc ["self", "entry"] []:=T.df.binds λ_ _ _ _ _ _=>ln2 λ_ _=>rfl
def BZ:Binds K D.bd ["self", "entry"] []:=T.dg.binds λ_ _ _ _ _ _=>ln2 λ_ _=>rfl
def GF:Binds K D.be ["weights"] []:=T.dh.F.binds λ_ _ _ _ _ _=>ln1 λ_=>rfl
def JB:Binds K D.bf ["amount", "part", "whole"] []:=T.di.F.binds λ_ _ _ _ _ _=>ln3 λ_ _ _=>rfl
def aal:Binds K D.bg ["amount", "weights"] []:=T.dj.F.binds λ_ _ _ _ _ _=>ln2 λ_ _=>rfl
def Zb:Binds K D.bh ["entry", "lots"] []:=T.dk.F.binds λ_ _ _ _ _ _=>ln2 λ_ _=>rfl
def ux:Binds K D.bi ["self", "lots"] []:=T.dl.binds λ_ _ _ _ _ _=>ln2 λ_ _=>rfl
def Ib:Binds K D.bj ["self", "lots"] []:=T.dm.binds λ_ _ _ _ _ _=>ln2 λ_ _=>rfl
def Tp:Binds K D.bk ["self", "pieces"] []:=T.dn.binds λ_ _ _ _ _ _=>ln2 λ_ _=>rfl
def Nb:Binds K D.bl ["lots", "picks"] []:=T.dp.F.binds λ_ _ _ _ _ _=>ln2 λ_ _=>rfl
def rC:Binds K D.bm ["lots", "pieces"] []:=T.dq.F.binds λ_ _ _ _ _ _=>ln2 λ_ _=>rfl
def Cd:Binds K D.bn ["self", "lots", "pieces"] []:=T.dr.binds λ_ _ _ _ _ _=>ln3 λ_ _ _=>rfl
def Ls:Binds K D.bo ["self", "lots", "pieces"] []:=T.ds.binds λ_ _ _ _ _ _=>ln3 λ_ _ _=>rfl
def HJ:Binds K D.bp ["self", "other"] []:=T.dt.binds λ_ _ _ _ _ _=>ln2 λ_ _=>rfl
def Ji:Binds K D.bq ["lots"] []:=T.du.F.binds λ_ _ _ _ _ _=>ln1 λ_=>rfl
def Jg:Binds K D.br ["self", "lots", "pieces"] []:=T.dv.binds λ_ _ _ _ _ _=>ln3 λ_ _ _=>rfl
def Sh:Binds K D.bs ["way", "lots", "pieces", "named"] []:=T.dw.F.binds λ_ _ _ _ _ _=>ln4 λ_ _ _ _=>rfl
def oA:Binds K D.bt ["self", "entry"] []:=T.dx.binds λ_ _ _ _ _ _=>ln2 λ_ _=>rfl
def Ci:Binds K D.bu ["self", "entry"] []:=T.dy.binds λ_ _ _ _ _ _=>ln2 λ_ _=>rfl
def BP:Binds K D.bv ["self", "entry"] []:=T.dz.binds λ_ _ _ _ _ _=>ln2 λ_ _=>rfl
def Le:Binds K D.bw ["lots", "many", "of"] []:=T.dA.F.binds λ_ _ _ _ _ _=>ln3 λ_ _ _=>rfl
def Su:Binds K D.bx ["lots", "many", "of"] []:=T.dB.F.binds λ_ _ _ _ _ _=>ln3 λ_ _ _=>rfl
def Bb:Binds K D.bz ["self", "entry"] []:=T.dC.binds λ_ _ _ _ _ _=>ln2 λ_ _=>rfl
def Rc:Binds K D.bA ["lots", "share", "whole"] []:=T.dD.F.binds λ_ _ _ _ _ _=>ln3 λ_ _ _=>rfl
def uZ:Binds K D.bB ["self", "entry"] []:=T.dE.binds λ_ _ _ _ _ _=>ln2 λ_ _=>rfl
def vz:Binds K D.bC ["self", "entry"] []:=T.dF.binds λ_ _ _ _ _ _=>ln2 λ_ _=>rfl
def Qw:Binds K D.bD ["self", "entry"] []:=T.dG.binds λ_ _ _ _ _ _=>ln2 λ_ _=>rfl
def Be:Binds K D.bE ["book", "entries"] []:=T.dH.F.binds λ_ _ _ _ _ _=>ln2 λ_ _=>rfl
def xV:Binds K D.bF ["self", "way"] []:=T.dI.binds λ_ _ _ _ _ _=>ln2 λ_ _=>rfl
def Xx:Binds K D.bG ["way", "entries"] []:=T.dJ.F.binds λ_ _ _ _ _ _=>ln2 λ_ _=>rfl
def Af:Binds K D.bH ["self", "way", "days"] []:=T.dK.binds λ_ _ _ _ _ _=>ln3 λ_ _ _=>rfl
def Gz:Binds K D.bI ["way", "days", "entries"] []:=T.dL.F.binds λ_ _ _ _ _ _=>ln3 λ_ _ _=>rfl
def MJ:Binds K D.bJ ["self"] []:=T.dM.binds λ_ _ _ _ _ _=>ln1 λ_=>rfl
def Ob:Binds K D.bK ["self"] []:=T.dN.binds λ_ _ _ _ _ _=>ln1 λ_=>rfl
def KN:Binds K D.bL ["self"] []:=T.dO.binds λ_ _ _ _ _ _=>ln1 λ_=>rfl
def Sd:Binds K D.bM ["self"] []:=T.dP.binds λ_ _ _ _ _ _=>ln1 λ_=>rfl
def Ve:Binds K D.bN ["word"] []:=T.dQ.F.binds λ_ _ _ _ _ _=>ln1 λ_=>rfl
def wJ:∃ds,Binds K D.aH ["self", "day", "number", "ware", "pieces", "price", "fee"] ds/\Vals (([V.int 0]:List V).drop 1) ds:=T.cK.binds (ps:=["self", "day", "number", "ware", "pieces", "price", "fee"]) 1 λTd kV aa pm an q ct its us h1 h2=>by
  revert us;revert h1;revert its;refine ln1 λi0 us h2=>?_;have z:us.length=7:=by simpa using h2
  clear h2;revert z;revert us;exact ln7 λ_ _ _ _ _ _ _=>⟨_,rfl,rfl⟩
def uW:∃ds,Binds K D.aF ["self", "day", "number", "ware", "pieces", "named"] ds/\Vals (([V.non]:List V).drop 1) ds:=T.cI.binds (ps:=["self", "day", "number", "ware", "pieces", "named"]) 1 λTd kV aa pm an q ct its us h1 h2=>by
  revert us;revert h1;revert its;refine ln1 λi0 us h2=>?_;have z:us.length=6:=by simpa using h2
  clear h2;revert z;revert us;exact ln6 λ_ _ _ _ _ _=>⟨_,rfl,rfl⟩
def vo:∃ds,Binds K D.aL ["self", "day", "number", "ware", "pieces", "price", "fee", "named"] ds/\Vals (([V.int 0,V.non]:List V).drop 2) ds:=T.cO.binds (ps:=["self", "day", "number", "ware", "pieces", "price", "fee", "named"]) 2 λTd kV aa pm an q ct its us h1 h2=>by
  revert us;revert h1;revert its;refine ln2 λi0 i1 us h2=>?_;have z:us.length=8:=by simpa using h2
  clear h2;revert z;revert us;exact ln8 λ_ _ _ _ _ _ _ _=>⟨_,rfl,rfl⟩
end
end My
namespace My
open PySem L2 PyProof.Rows
open PySem.W (codeIn findCls findIn fnOf hasDictIn isFn keepIn kitOne makesIn mg_none_of mg_of mroIn nsIn plainGet plainOver readsIn specialIn takesIn)
end My
namespace My
open PySem L2 PyProof.Rows
open PySem.W (codeIn findCls findIn fnOf hasDictIn isFn keepIn kitOne makesIn mg_none_of mg_of mroIn nsIn plainGet plainOver readsIn specialIn takesIn)
section
variable{P:Program}{w:World}{K:Fg_}{mg:Str->Option Value}{base:Heap}{A:Adr}{D:Fds}
variable{B G H H':Hp}{C a b dx f l q x:Addr}{Q:VK}{W ws:List Str}{acc:List V}{c hi lo m p r s:Int}{cap:List (Option Nat)}{fd:FuncData}{i j:Nat}{kvs:List (Key×V)}{o:HO}{os:List (Addr×HO)}{st:Stmt}{t tb u:TS}{te:TE}{v y:V}{z:Str}{α:Type}{σ:L2.St}
variable(T:Txt K mg A D)
def lg{D:_}(h:∀v,v=u->aar t v D σ H):aar t u D σ H:=h u rfl
def tX{wi:TI}{g:TG}{D:_}(h:∀v,v=tb->amD wi g v D σ H):amD wi g tb D σ H:=h tb rfl
def akH{c:_}{D:_}(h:∀v w,v=t->w=u->YD c v w D σ H):YD c t u D σ H:=h t u rfl rfl
def Eg.listN{xs:List V}{g:TG}{D:_}(z:Nat->L2.St->Hp->Prop)(h0:z 0 σ H)(hl:∀i σ H,i<=xs.length->z i σ H->SqL K H a xs)(hs:∀i x σ H,xs[i]? =some x->z i σ H->∀N:L2.St->Hp->Prop,(∀σ H,z (i+1) σ H->N σ H)->g x σ H λσ2 H2=>tb {D with nx:=N,ct:=N,bk:=D.nx} σ2 H2)(hd:∀σ H,z xs.length σ H->D.nx σ H):Eg (Itl K a) g tb D σ H:=
 qu z h0 hl (λi x σ H h p=>hs i x σ H h p _ λ_ _ q=>q) hd
def aib{x:Int}{m k:Nat}(q:x.natAbs<2^m)(h:m<=k):x.natAbs<2^k:=zL q (yy (by decide) h)
noncomputable def Us:Int->List Int->List Int
 |_,[]=>[]
 |c,b::r=>c%b::Us (c/b) r
noncomputable def akR:Int->List Int->Int
 |c,[]=>c
 |c,b::r=>akR (c/b) r
theorem Rv:∀(c:Int)(l:List Int)(b:Int),Us c (l++[b])=Us c l++[akR c l%b]
 |_,[],_=>rfl
 |c,x::r,b=>by show c%x::Us (c/x) (r++[b])=_;rw[Rv];rfl
theorem Pa:∀(c:Int)(l:List Int)(b:Int),akR c (l++[b])=akR c l/b
 |_,[],_=>rfl
 |c,x::r,b=>by show akR (c/x) (r++[b])=_;rw[Pa];rfl
theorem CK:∀(c:Int)(l:List Int),(Us c l).length=l.length
 |_,[]=>rfl
 |c,x::r=>by show(Us (c/x) r).length+1=_;rw[CK];rfl
def wg{ns:List Int}(h:(ns.map V.int)[i]? =some y):∃z,y=V.int z/\ns[i]? =some z:=by
 rw[zo]at h
 cases e:ns[i]? with
 |none=>rw[e]at h;cases h
 |some z=>rw[e]at h;exact⟨z,(zy h).symm,rfl⟩
def tyL{p:Addr}{xs:List V}(h:SqL K H p xs):tyV K "list" (.ref p) H:=.inl ⟨rfl,_,h⟩
inductive xX(K:Fg_)(vs:List V)(H:Hp)(Q:VK)(E:XK):Prop
 |mk (a:Addr) (ns:List Int) (k:Nat) (_:vs=[.ref a,.int k]) (_:SqL K H a (ns.map V.int)) (_:Q (.int (ns.getD k 0)) H):xX K vs H Q E
def lQ:kI P w K mg base CX0 1 A.ad D.ad ["_law_script", "_law_k"] (xX K):=by
 refine T.ch.F.okv Kl λ_ _ _ _ H vs Q E hr h=>?_
 ·obtain⟨a,ns,q,rfl,z,k⟩:=h
  refine ⟨_,(jb (kE (jl (Dr) (pvD 1) (jy (lX (K:=K)) (by rfl) T.dT (by decide+kernel) (pav 0 jc)) (jx _)) (je (jq (jL (nQ (K:=K)) (pvD 0) (pvD 1) (λ_ _=>rfl)))) jC)
   (je (jq jf))),?_⟩
  walk_at "a";refine⟨_,.inl z,?_⟩;rw[za];by_cases h:q<ns.length
  ·rw[zi (by lia)]
   refine⟨_,z,_,Jp (j:=q) (v:=.int (ns.getD q 0)) ?_,k⟩;rw[zo,zq h,zz8,zq h];rfl
  ·rw[zf (by lia)]
   rw[zz8,yc (by lia)]at k;exact k
def Vk(xs:List V)(n:Nat):Ow xs (some (n:Int)) none=xs.drop n:=by
 unfold Ow;rw[HT.sIx_none,HT.sIx_nat];rcases Nat.le_total n xs.length with h|h
 ·rw[Nat.min_eq_left h,z3 (by rw[yI];exact zm _)]
 ·rw[Nat.min_eq_right h,zzJ (zm _),zzJ h,List.take_nil]
def ajL{k:Int}:amK (.ref l) (.int k) H Q=∃xs,H l=some (.lst xs)/\ -(2^63)<=k/\k<2^63/\xs.length*k.toNat<=sizeLine/\∀p,H p=none->Q (.ref p) (upd H p (.lst (List.replicate k.toNat xs).flatten)):=by simp[amK]
def Nm(z:Str):Prop:=1<=z.length/\z.length<=8/\∀c∈z.cps.toList,97<=c/\c<=122
inductive tZ(vs:List V)(H:Hp)(Q:VK)(E:XK):Prop
 |mk (i:Int) (_:vs=[.int i]) (_:Q (.bl true) H):tZ vs H Q E
def Eh:kI P w K mg base CX0 1 A.ay D.ay ["value"] tZ:=by
 refine T.cB.F.okv En λ_ _ _ _ H vs Q E q h=>?_
 ·obtain⟨i,rfl,k⟩:=h
  refine⟨_,(je (jq (Qz (jy (Ip (K:=K)) (by rfl) T.d1 (by decide+kernel) (pav 0 (iY (ajs "int" (by rfl) T.dU (by decide+kernel)) jc))) (Ur (amh (jy (Ip (K:=K)) (by rfl) T.d1 (by decide+kernel) (pav 0 (iY (ajs "bool" (by rfl) T.d2 (by decide+kernel)) jc)))))))),?_⟩;walk_at "a";refine⟨_,.int i,true,by with_unfolding_all rfl,?_⟩;walk_at "a";refine⟨_,.int i,false,by with_unfolding_all rfl,?_⟩;walk_at "a";exact k
inductive xW(vs:List V)(H:Hp)(Q:VK)(E:XK):Prop
 |mk (z:Str) (i lo hi:Int) (_:vs=[.str z,.int i,.int lo,.int hi]) (_:lo<=i) (_:i<=hi) (_:Q .non H):xW vs H Q E
def jO:kI P w K mg base CX0 2 A.az D.az ["what", "value", "least", "most"] xW:=by
 refine T.cC.F.okv JN λ_ _ _ _ H vs Q E q h=>?_
 ·obtain⟨z,i,lo,hi,rfl,h1,h2,k⟩:=h
  refine⟨_,(je (kE (PW.pt (GP (LC (qp (pcg (Eh T) q T.cB (Fq T) (pav 1 jc)))) (GP (jl (Dr) (pvD 1) (pvD 2) (jx _)) (BV (jl (Fj) (pvD 1) (pvD 3) (jx _)))))) (je (mC)) jC)),?_⟩;walk_at "a";refine⟨i,rfl,?_⟩;walk_at "a";rw[zf (by lia),zf (by lia)];exact k
inductive Mt(vs:List V)(H:Hp)(Q:VK)(E:XK):Prop
 |mk (z:Str) (_:vs=[.str z]) (_:Nm z) (_:∀H',Same H H'->Q (.bl true) H'):Mt vs H Q E
def WN:kI P w K mg base CX0 1 A.aA D.aA ["value"] Mt:=by
 refine T.cD.F.okv Vy λ_ _ _ _ H vs Q E hr h=>?_
 ·obtain⟨z,rfl,⟨n1,n2,n3⟩,k⟩:=h
  refine ⟨_,(jb (kE (PW.pt (GP (LC (qp (jy (Ip (K:=K)) (by rfl) T.d1 (by decide+kernel) (pav 0 (iY (ajs "str" (by rfl) T.d4 (by decide+kernel)) jc))))) (GP (jl (Dr) (jy FW (by rfl) T.dT (by decide+kernel) (pav 0 jc)) jf (jx _)) (BV (jl (Fj) (jy FW (by rfl) T.dT (by decide+kernel) (pav 0 jc)) (mY (v:=V.int 8) (by rfl) T.ep ⟨_,rfl⟩) (jx _)))))) (je (jq FJ)) jC)
   (je (jq (jy (aae (K:=K) rfl) (by rfl) T.d3 (by decide+kernel) (iY (jW (cap:=[none]) (N':=["sign"]) rfl (by walk_at "c") (amu (pvD 0)) (λ_ _ _ _=>(jk (i:=0) nd1 rfl orl orr)) (λ_ _ _ _=>kh) (λ_ _ _ _=>(aiG (QH) (QH) jB (pvD 0) jB))) jc))))),?_⟩
  walk_at "a";refine⟨_,.str z,true,by with_unfolding_all rfl,?_⟩;walk_at "a";have q:z.length<=sizeLine:=by rw[zw];lia
  iterate 2 (refine⟨q,?_⟩;rw[zf (by lia)])
  refine lU.str (λσ=>∃v,σ=[v]) (λ_=>true) (λ_=> .bl true) ⟨none,rfl⟩ q ?_ ?_
  ·rintro x hx σ H5 R1 R2 ⟨v,rfl⟩ sm k1 k2
   obtain⟨c,hc,rfl⟩:=zc.mp hx;obtain⟨c1,c2⟩:=n3 c hc;walk_at "a";have ea:(Str.ofString "a").cps.toList=[97]:=by decide+kernel
   have ez:(Str.ofString "z").cps.toList=[122]:=by decide+kernel
   rw[ea,ez]
   have h1:¬[c]<[97]:=λh=>by
    rcases List.cons_lt_cons_iff.mp h with h|h
    ·lia
    ·exact absurd h.2 (List.not_lt_nil _)
   have h2:¬[122]<[c]:=λh=>by
    rcases List.cons_lt_cons_iff.mp h with h|h
    ·lia
    ·exact absurd h.2 (List.not_lt_nil _)
   rw[zi h1,zJ h2];exact k1 rfl _ _ ⟨_,rfl⟩ (same_refl _)
  ·intro Da H' hD sm e
   rw[JS]at e;walk_at "a";refine⟨(L2.signs z).map λ_=>true,jh (by rw[e,zu];rfl),?_⟩;have:((L2.signs z).map λ_=>true).all id=true:=by simp
   rw[this];exact k H' sm
inductive DG(vs:List V)(H:Hp)(Q:VK)(E:XK):Prop
 |mk (t z:Str) (_:vs=[.str t,.str z]) (_:Nm z) (_:∀H',Same H H'->Q .non H'):DG vs H Q E
def Dy:kI P w K mg base CX0 2 A.aB D.aB ["what", "value"] DG:=by
 refine T.cE.F.okv MN λ_ _ _ _ H vs Q E hr h=>?_
 ·obtain⟨t,z,rfl,hn,k⟩:=h
  refine⟨_,(je (kE (LC (qp (pcg (WN T) hr T.cD (Xl T) (pav 1 jc)))) (je (mC)) jC)),?_⟩;walk_at "a";refine⟨z,rfl,hn,λH' q=>?_⟩;walk_at "a";exact k H' q
inductive Ce(vs:List V)(H:Hp)(Q:VK)(E:XK):Prop
 |mk (p r f:Int) (_:vs=[.int p,.int r,.int f]) (_:(1<=p/\p<=1000000000)) (_:(0<=r/\r<=1000000000)) (_:(0<=f/\f<=1000000000)) (_:Q .non H):Ce vs H Q E
def Cj:kI P w K mg base CX0 3 A.aG D.aG ["pieces", "price", "fee"] Ce:=by
 refine T.cJ.F.ok Lb (by walk_at "v") (λ_ _ _ s H vs Q E q h=>?_)
 ·obtain⟨p,r,f,rfl,h1,h2,z,k⟩:=h
  refine ⟨_,(jb (jA (pcg (jO T) q T.cC (jQ T) (iY jB (pav 0 (iY jf (iY (mY (v:=V.int 1000000000) (by rfl) T.es ⟨_,rfl⟩) jc))))))
   (jb (jA (pcg (jO T) q T.cC (jQ T) (iY jB (pav 1 (iY jf (iY (mY (v:=V.int 1000000000) (by rfl) T.et ⟨_,rfl⟩) jc))))))
   (je (jA (pcg (jO T) q T.cC (jQ T) (iY jB (pav 2 (iY jf (iY (mY (v:=V.int 1000000000) (by rfl) T.eu ⟨_,rfl⟩) jc))))))))),?_⟩
  walk_at "a";refine⟨_,_,_,_,rfl,h1.1,h1.2,?_⟩;walk_at "a";refine⟨_,_,_,_,rfl,h2.1,h2.2,?_⟩;walk_at "a";refine⟨_,_,_,_,rfl,z.1,z.2,?_⟩;exact k
def mX{f:Str}{fs:List (Str×V)}(ns:List Str)(e:fs.map (·.1)=ns:=by rfl)(h:ns.contains f=false:=by decide+kernel):Fe f v fs=fs++[(f,v)]:=Bm f v (e▸h)
noncomputable def fsE(d n:Int)(w:Str):List (Str×V):=[("day",.int d),("number",.int n),("ware",.str w)]
structure Base(d n:Int)(w:Str):Prop where
 d0:0<=d
 d1:d<=1000000
 n0:0<=n
 n1:n<=1000000
 w:Nm w
structure CE(K:Fg_)(C:Addr):Prop where
 c:Cls K C
 d:jt K C "day"
 n:jt K C "number"
 w:jt K C "ware"
structure New(B H:Hp)(x:Addr)(C dx:Addr)(fs:List (Str×V)):Prop where
 s:Same B H
 n:B x=none
 h:H x=some (.ins C dx fs)
def New.put{fs gs:List (Str×V)}(h:New B H x C dx fs)(e:gs=gs):New B (upd H x (.ins C dx gs)) x C dx gs:=⟨h.s.upd h.n,h.n,jd⟩
def New.same{fs:List (Str×V)}(h:New B H x C dx fs)(e:Same H H'):New B H' x C dx fs:=⟨h.s.trans e,h.n,e _ _ h.h⟩
inductive vm(K:Fg_)(vs:List V)(H:Hp)(Q:VK)(E:XK):Prop
 |mk (x:Addr) (d n:Int) (w:Str) (B:Hp) (C dx:Addr) (_:vs=[.ref x,.int d,.int n,.str w]) (_:New B H x C dx []) (_:CE K C) (_:Base d n w) (_:∀H',New B H' x C dx (fsE d n w)->Q .non H'):vm K vs H Q E
def lO:kI P w K mg base CX0 3 A.aC D.aC ["self", "day", "number", "ware"] (vm K):=by
 refine T.cF.okv Fw λ_ _ _ _ H vs Q E hr h=>?_
 ·obtain⟨x,d,n,w,B,C,dx,rfl,q,z,hB,k⟩:=h
  refine ⟨_,(jb (jA (pcg (jO T) hr T.cC (jQ T) (iY jB (pav 1 (iY jf (iY (mY (v:=V.int 1000000) (by rfl) T.eq ⟨_,rfl⟩) jc))))))
   (jb (jA (pcg (jO T) hr T.cC (jQ T) (iY jB (pav 2 (iY jf (iY (mY (v:=V.int 1000000) (by rfl) T.er ⟨_,rfl⟩) jc))))))
   (jb (jA (pcg (Dy T) hr T.cE (Ga T) (iY jB (pav 3 jc))))
   (jb (jJ (K:=K) (pv 0) (pvD 1) rfl)
   (jb (jJ (K:=K) (pv 0) (pvD 2) rfl)
   (je (jJ (K:=K) (pv 0) (pvD 3) rfl))))))),?_⟩
  walk_at "a";refine⟨_,_,_,_,rfl,hB.d0,hB.d1,?_⟩;walk_at "a";refine⟨_,_,_,_,rfl,hB.n0,hB.n1,?_⟩;walk_at "a";refine⟨_,_,rfl,hB.w,λH' sm=>?_⟩;walk_at "a";have q:=q.same sm;refine sw q.h z.c z.d (by decide) (?_);rw[Bm _ _ (by decide+kernel)];have q:=q.put (gs:=[]++[(Str.ofString "day",V.int d)]) rfl;refine sw q.h z.c z.n (by simp) (?_);rw[mX (f:=Str.ofString "number") ["day"]];have q:=q.put (gs:=([]++[(Str.ofString "day",V.int d)])++[(Str.ofString "number",V.int n)]) rfl;refine sw q.h z.c z.w (by simp) (?_);rw[mX (f:=Str.ofString "ware") ["day", "number"]];exact k _ (q.put rfl)
abbrev Rs:=List (Addr×Int×Int)
noncomputable def refs(rs:Rs):List V:=rs.map λr=>V.ref r.1
def ajd(H:Hp)(rs:Rs):Prop:=∀r∈rs,H r.1=some (.tup [.int r.2.1,.int r.2.2])
def ajd.same{rs:Rs}(h:ajd H rs)(s:Same H H'):ajd H' rs:=λr q=>s _ _ (h r q)
structure ani(rs:Rs)(p:Int):Prop where
 l:rs.length<=5
 b:∀r∈rs,0<=r.2.1/\r.2.1<=1000000/\1<=r.2.2/\r.2.2<=p
 u:(rs.map (·.2.1)).Nodup
 s:(rs.map (·.2.2)).sum=p
def NL(H:Hp)(v:V):Option Rs->Prop
 |none=>v=.non
 |some rs=>∃l,v=.ref l/\H l=some (.lst (refs rs))/\ajd H rs
def alh(p:Int):Option Rs->Prop
 |none=>True
 |some rs=>ani rs p
theorem NL.same{H H':Hp}{v:V}{o:Option Rs}(h:NL H v o)(s:Same H H'):NL H' v o:=by
 cases o with
 |none=>exact h
 |some rs=>obtain⟨l,e,h1,h2⟩:=h;exact⟨l,e,s _ _ h1,h2.same s⟩
inductive BX(vs:List V)(H:Hp)(Q:VK)(E:XK):Prop
 |mk (p:Int) (_:vs=[.non,.int p]) (_:Q .non H):BX vs H Q E
def Ck:kI P w K mg base CX0 1 A.aD D.aD ["named", "pieces"] BX:=by
 refine T.cG.F.okv Lp λ_ _ _ _ H vs Q E q h=>?_
 ·obtain⟨p,rfl,k⟩:=h
  refine ⟨_,(jb (kE (jl (Gd) (pvD 0) mR (jx _)) (je (ajF)) jC)
   (jb (mC)
   (jb (mC)
   (jb (mC)
   (je (mC)))))),?_⟩
  simp only[start_eq];walk_at "a";exact k
inductive Dw(vs:List V)(H:Hp)(Q:VK)(E:XK):Prop
 |mk (_:vs=[.non]) (_:Q .non H):Dw vs H Q E
def DW:kI P w K mg base CX0 1 A.aE D.aE ["named"] Dw:=by
 refine T.cH.F.okv MK λ_ _ _ _ H vs Q E q h=>?_
 ·obtain⟨rfl,k⟩:=h
  refine⟨_,(je (jq (Eu (jl (Gd) (pvD 0) mR (jx _)) mR (mZ (vI (K:=K)) (by rfl) T.d5 (by decide+kernel) (pav 0 jc))))),?_⟩;simp only[start_eq];walk_at "a";exact k
def NT(H:Hp)(v:V):Option Rs->Prop
 |none=>v=.non
 |some rs=>∃l,v=.ref l/\H l=some (.tup (refs rs))/\ajd H rs
local macro_rules | `(tactic| walk_at "n") => `(tactic| ((try dsimp only); refine lg fun u hu => ?_; rw [ap_seq]; walk_at "i"; subst hu))
inductive Ent where
 |buy (d n:Int) (w:Str) (p r f:Int)
 |sell (d n:Int) (w:Str) (p r f:Int) (o:Option Rs)
 |gift (d n:Int) (w:Str) (p c s:Int)
 |give (d n:Int) (w:Str) (p:Int) (o:Option Rs)
 |split (d n:Int) (w:Str) (m f:Int)
 |part (d n:Int) (w u:Str) (s t:Int)
def Rg(lo hi x:Int):Prop:=lo<=x/\x<=hi
def Ent.good:Ent->Prop
 |.buy d n w p r f=>Base d n w/\Rg 1 1000000000 p/\Rg 0 1000000000 r/\Rg 0 1000000000 f
 |.sell d n w p r f o=>Base d n w/\Rg 1 1000000000 p/\Rg 0 1000000000 r/\Rg 0 1000000000 f/\alh p o
 |.gift d n w p c s=>Base d n w/\Rg 1 1000000000 p/\Rg 0 1000000000000000000 c/\Rg 0 d s
 |.give d n w p o=>Base d n w/\Rg 1 1000000000 p/\alh p o
 |.split d n w m f=>Base d n w/\Rg 1 1000 m/\Rg 1 1000 f
 |.part d n w u s t=>Base d n w/\Nm u/\u≠w/\Rg 1 1000000 t/\Rg 0 t s
noncomputable def Ent.fs(nv:V):Ent->List (Str×V)
 |.buy d n w p r f=>[("day",.int d),("number",.int n),("ware",.str w),("pieces",.int p),("price",.int r),("fee",.int f),("cost",.int (p*r+f))]
 |.sell d n w p r f _=>[("day",.int d),("number",.int n),("ware",.str w),("pieces",.int p),("price",.int r),("fee",.int f),("named",nv),("proceeds",.int (p*r - f))]
 |.gift d n w p c s=>[("day",.int d),("number",.int n),("ware",.str w),("pieces",.int p),("cost",.int c),("since",.int s)]
 |.give d n w p _=>[("day",.int d),("number",.int n),("ware",.str w),("pieces",.int p),("named",nv)]
 |.split d n w m f=>[("day",.int d),("number",.int n),("ware",.str w),("many",.int m),("of",.int f)]
 |.part d n w u s t=>[("day",.int d),("number",.int n),("ware",.str w),("other",.str u),("share",.int s),("whole",.int t)]
noncomputable def Ent.word:Ent->Str
 |.buy ..=> "buy"
 |.sell ..=> "sell"
 |.gift ..=> "gift"
 |.give ..=> "give"
 |.split ..=> "split"
 |.part ..=> "part"
noncomputable def Ent.args(nv:V):Ent->List V
 |.buy d n w p r f=>[.int d,.int n,.str w,.int p,.int r,.int f]
 |.sell d n w p r f _=>[.int d,.int n,.str w,.int p,.int r,.int f,nv]
 |.gift d n w p c s=>[.int d,.int n,.str w,.int p,.int c,.int s]
 |.give d n w p _=>[.int d,.int n,.str w,.int p,nv]
 |.split d n w m f=>[.int d,.int n,.str w,.int m,.int f]
 |.part d n w u s t=>[.int d,.int n,.str w,.str u,.int s,.int t]
noncomputable def Ent.lots:Ent->Option Rs
 |.sell _ _ _ _ _ _ o=>o
 |.give _ _ _ _ o=>o
 |_=>none
noncomputable def Ent.cls(A:Adr):Ent->Addr
 |.buy ..=>A.bO
 |.sell ..=>A.bP
 |.gift ..=>A.bQ
 |.give ..=>A.bR
 |.split ..=>A.bS
 |.part ..=>A.bT
def Made(A:Adr)(B H:Hp)(x:Addr)(e:Ent):Prop:=∃dx nv,New B H x (e.cls A) dx (e.fs nv)/\NL H nv e.lots/\∀q,nv=.ref q->B q=none
def IsE(A:Adr)(H:Hp)(x:Addr)(e:Ent):Prop:=∃dx nv,H x=some (.ins (e.cls A) dx (e.fs nv))/\NL H nv e.lots
theorem IsE.same{A:Adr}{H H':Hp}{x:Addr}{e:Ent}(s:Same H H'):IsE A H x e->IsE A H' x e:=fun⟨dx,q,h,n⟩=>⟨dx,q,s _ _ h,n.same s⟩
def MP{gs:List (Str×V)}{f:Str}{R:Hp->Prop}(ks:List Str)(z:New B H x C dx gs)(c:Cls K C)(n:jt K C f)(e:gs.map (·.1)=ks)(h:ks.contains f=false)(q:ks.length<1000)(k:∀H',New B H' x C dx (gs++[(f,v)])->R H'):∃C dx fs,H x=some (.ins C dx fs)/\Cls K C/\jt K C f/\fs.length<1000/\R (upd H x (.ins C dx (Fe f v fs))):=by
 refine⟨C,dx,gs,z.h,c,n,by rw[<-e,za]at q;exact q,?_⟩;rw[mX ks e h];exact k _ (z.put rfl)
def Vl(h1:Rg 1 1000000000 p)(h2:Rg 0 1000000000 r):Dh p r:=Dh.big (yv (show p.natAbs<=1000000000 from by unfold Rg at h1;lia) (by decide)) (yv (show r.natAbs<=1000000000 from by unfold Rg at h2;lia) (by decide))
noncomputable def uV:Ent->Bool:=λe=>match e with|.buy ..=>true|_=>false
def aiP:CE K A.bO:=⟨T.ey,T.eA,T.eB,T.eC⟩
noncomputable def pO:Ent->Bool:=λe=>match e with|.sell ..=>true|_=>false
def YW:CE K A.bP:=⟨T.eH,T.eJ,T.eK,T.eL⟩
noncomputable def pR:Ent->Bool:=λe=>match e with|.gift ..=>true|_=>false
def ZR:CE K A.bQ:=⟨T.eR,T.eT,T.eU,T.eV⟩
noncomputable def uG:Ent->Bool:=λe=>match e with|.give ..=>true|_=>false
def ZG:CE K A.bR:=⟨T.eZ,T.e1,T.e2,T.e3⟩
noncomputable def pZ:Ent->Bool:=λe=>match e with|.split ..=>true|_=>false
def Ux:CE K A.bS:=⟨T.e6,T.e8,T.e9,T.fa⟩
noncomputable def uo:Ent->Bool:=λe=>match e with|.part ..=>true|_=>false
def LR:CE K A.bT:=⟨T.fd,T.ff,T.fg,T.fh⟩
inductive Yr(A:Adr)(vs:List V)(H:Hp)(Q:VK)(E:XK):Prop
 |mk (x:Addr) (d n p r f:Int) (w:Str) (B:Hp) (dx:Addr) (_:vs=[.ref x,.int d,.int n,.str w,.int p,.int r,.int f]) (_:New B H x A.bO dx []) (_:(Ent.good (.buy d n w p r f))) (_:∀H',Made A B H' x (.buy d n w p r f)->Q .non H'):Yr A vs H Q E
def Ja:kI P w K mg base CX0 4 A.aH D.aH ["self", "day", "number", "ware", "pieces", "price", "fee"] (Yr A):=by
 refine T.cK.okv JK λ_ _ _ _ H vs Q E hr h=>?_
 ·obtain⟨x,d,n,p,r,f,w,B,dx,rfl,z,hg,k⟩:=h
  refine ⟨_,(jb (jA (pP T.g1 (lO (K:=K) T) (hr.mono (by decide)) (by rfl) T.eg T.cF.kp (lV T) .nil jR (pav 0 (pav 1 (pav 2 (pav 3 jc))))))
   (jb (jA (pcg (Cj T) hr T.cJ (Dz T) (pav 4 (pav 5 (pav 6 jc)))))
   (jb (jJ (K:=K) (pv 0) (pvD 4) rfl)
   (jb (jJ (K:=K) (pv 0) (pvD 5) rfl)
   (jb (jJ (K:=K) (pv 0) (pvD 6) rfl)
   (je (jJ (K:=K) (pv 0) (jw jZ (jw nq (pvD 4) (pvD 5)) (pvD 6)) rfl))))))),?_⟩
  simp only[start_eq];walk_at "n";refine⟨x,d,n,w,B,_,dx,rfl,z,aiP T,hg.1,λH1 z=>?_⟩;walk_at "n";refine⟨_,_,_,rfl,hg.2.1,hg.2.2.1,hg.2.2.2,?_⟩;walk_at "n";refine MP ["day", "number", "ware"] z T.ey T.eD rfl (by decide+kernel) (by decide) λH2 z=>?_;walk_at "n";refine MP ["day", "number", "ware", "pieces"] z T.ey T.eE rfl (by decide+kernel) (by decide) λH2 z=>?_;walk_at "n";refine MP ["day", "number", "ware", "pieces", "price"] z T.ey T.eF rfl (by decide+kernel) (by decide) λH2 z=>?_;walk_at "a";exact⟨Vl hg.2.1 hg.2.2.1,MP ["day", "number", "ware", "pieces", "price", "fee"] z T.ey T.eG rfl (by decide+kernel) (by decide) λH2 z=>k H2 ⟨dx,.non,z,rfl,λq e=>by cases e⟩⟩
inductive Vp(A:Adr)(vs:List V)(H:Hp)(Q:VK)(E:XK):Prop
 |mk (x:Addr) (d n p r f:Int) (w:Str) (B:Hp) (dx:Addr) (_:vs=[.ref x,.int d,.int n,.str w,.int p,.int r,.int f,.non]) (_:New B H x A.bP dx []) (_:(Ent.good (.sell d n w p r f none))) (_:∀H',Made A B H' x (.sell d n w p r f none)->Q .non H'):Vp A vs H Q E
def Hl:kI P w K mg base CX0 4 A.aL D.aL ["self", "day", "number", "ware", "pieces", "price", "fee", "named"] (Vp A):=by
 refine T.cO.okv Gk λ_ _ _ _ H vs Q E hr h=>?_
 ·obtain⟨x,d,n,p,r,f,w,B,dx,rfl,z,hg,k⟩:=h
  refine ⟨_,(jb (jA (pP T.g1 (lO (K:=K) T) (hr.mono (by decide)) (by rfl) T.eg T.cF.kp (lV T) .nil jR (pav 0 (pav 1 (pav 2 (pav 3 jc))))))
   (jb (jA (pcg (Cj T) hr T.cJ (Dz T) (pav 4 (pav 5 (pav 6 jc)))))
   (jb (jA (pcg (Ck T) hr T.cG (DN T) (pav 7 (pav 4 jc))))
   (jb (jJ (K:=K) (pv 0) (pvD 4) rfl)
   (jb (jJ (K:=K) (pv 0) (pvD 5) rfl)
   (jb (jJ (K:=K) (pv 0) (pvD 6) rfl)
   (jb (jJ (K:=K) (pv 0) (pcg (DW T) hr T.cH (Gh T) (pav 7 jc)) rfl)
   (je (jJ (K:=K) (pv 0) (jw pq (jw nq (pvD 4) (pvD 5)) (pvD 6)) rfl))))))))),?_⟩
  simp only[start_eq];walk_at "n";refine⟨x,d,n,w,B,_,dx,rfl,z,YW T,hg.1,λH1 z=>?_⟩;walk_at "n";refine⟨_,_,_,rfl,hg.2.1,hg.2.2.1,hg.2.2.2.1,?_⟩;walk_at "n";refine⟨_,rfl,?_⟩;walk_at "n";refine MP ["day", "number", "ware"] z T.eH T.eM rfl (by decide+kernel) (by decide) λH2 z=>?_;walk_at "n";refine MP ["day", "number", "ware", "pieces"] z T.eH T.eN rfl (by decide+kernel) (by decide) λH2 z=>?_;walk_at "n";refine MP ["day", "number", "ware", "pieces", "price"] z T.eH T.eO rfl (by decide+kernel) (by decide) λH2 z=>?_;walk_at "n";refine⟨rfl,MP ["day", "number", "ware", "pieces", "price", "fee"] z T.eH T.eP rfl (by decide+kernel) (by decide) λH2 z=>?_⟩;walk_at "a";exact⟨Vl hg.2.1 hg.2.2.1,MP ["day", "number", "ware", "pieces", "price", "fee", "named"] z T.eH T.eQ rfl (by decide+kernel) (by decide) λH2 z=>k H2 ⟨dx,.non,z,rfl,λq e=>by cases e⟩⟩
inductive TV(A:Adr)(vs:List V)(H:Hp)(Q:VK)(E:XK):Prop
 |mk (x:Addr) (d n p c s:Int) (w:Str) (B:Hp) (dx:Addr) (_:vs=[.ref x,.int d,.int n,.str w,.int p,.int c,.int s]) (_:New B H x A.bQ dx []) (_:(Ent.good (.gift d n w p c s))) (_:∀H',Made A B H' x (.gift d n w p c s)->Q .non H'):TV A vs H Q E
def Gv:kI P w K mg base CX0 4 A.aI D.aI ["self", "day", "number", "ware", "pieces", "cost", "since"] (TV A):=by
 refine T.cL.okv Gu λ_ _ _ _ H vs Q E hr h=>?_
 ·obtain⟨x,d,n,p,c,s,w,B,dx,rfl,z,hg,k⟩:=h
  refine ⟨_,(jb (jA (pP T.g1 (lO (K:=K) T) (hr.mono (by decide)) (by rfl) T.eg T.cF.kp (lV T) .nil jR (pav 0 (pav 1 (pav 2 (pav 3 jc))))))
   (jb (jA (pcg (jO T) hr T.cC (jQ T) (iY jB (pav 4 (iY jf (iY (mY (v:=V.int 1000000000) (by rfl) T.es ⟨_,rfl⟩) jc))))))
   (jb (jA (pcg (jO T) hr T.cC (jQ T) (iY jB (pav 5 (iY jf (iY (mY (v:=V.int 1000000000000000000) (by rfl) T.ev ⟨_,rfl⟩) jc))))))
   (jb (jA (pcg (jO T) hr T.cC (jQ T) (iY jB (pav 6 (iY jf (pav 1 jc))))))
   (jb (jJ (K:=K) (pv 0) (pvD 4) rfl)
   (jb (jJ (K:=K) (pv 0) (pvD 5) rfl)
   (je (jJ (K:=K) (pv 0) (pvD 6) rfl)))))))),?_⟩
  simp only[start_eq];walk_at "n";refine⟨x,d,n,w,B,_,dx,rfl,z,ZR T,hg.1,λH1 z=>?_⟩;walk_at "n";refine⟨_,_,_,_,rfl,hg.2.1.1,hg.2.1.2,?_⟩;walk_at "n";refine⟨_,_,_,_,rfl,hg.2.2.1.1,hg.2.2.1.2,?_⟩;walk_at "n";refine⟨_,_,_,_,rfl,hg.2.2.2.1,hg.2.2.2.2,?_⟩;walk_at "n";refine MP ["day", "number", "ware"] z T.eR T.eW rfl (by decide+kernel) (by decide) λH2 z=>?_;walk_at "n";refine MP ["day", "number", "ware", "pieces"] z T.eR T.eX rfl (by decide+kernel) (by decide) λH2 z=>?_;walk_at "a";exact MP ["day", "number", "ware", "pieces", "cost"] z T.eR T.eY rfl (by decide+kernel) (by decide) λH2 z=>k H2 ⟨dx,.non,z,rfl,λq e=>by cases e⟩
inductive Uc(A:Adr)(vs:List V)(H:Hp)(Q:VK)(E:XK):Prop
 |mk (x:Addr) (d n p:Int) (w:Str) (B:Hp) (dx:Addr) (_:vs=[.ref x,.int d,.int n,.str w,.int p,.non]) (_:New B H x A.bR dx []) (_:(Ent.good (.give d n w p none))) (_:∀H',Made A B H' x (.give d n w p none)->Q .non H'):Uc A vs H Q E
def Gp:kI P w K mg base CX0 4 A.aF D.aF ["self", "day", "number", "ware", "pieces", "named"] (Uc A):=by
 refine T.cI.okv Gn λ_ _ _ _ H vs Q E hr h=>?_
 ·obtain⟨x,d,n,p,w,B,dx,rfl,z,hg,k⟩:=h
  refine ⟨_,(jb (jA (pP T.g1 (lO (K:=K) T) (hr.mono (by decide)) (by rfl) T.eg T.cF.kp (lV T) .nil jR (pav 0 (pav 1 (pav 2 (pav 3 jc))))))
   (jb (jA (pcg (jO T) hr T.cC (jQ T) (iY jB (pav 4 (iY jf (iY (mY (v:=V.int 1000000000) (by rfl) T.es ⟨_,rfl⟩) jc))))))
   (jb (jA (pcg (Ck T) hr T.cG (DN T) (pav 5 (pav 4 jc))))
   (jb (jJ (K:=K) (pv 0) (pvD 4) rfl)
   (je (jJ (K:=K) (pv 0) (pcg (DW T) hr T.cH (Gh T) (pav 5 jc)) rfl)))))),?_⟩
  simp only[start_eq];walk_at "n";refine⟨x,d,n,w,B,_,dx,rfl,z,ZG T,hg.1,λH1 z=>?_⟩;walk_at "n";refine⟨_,_,_,_,rfl,hg.2.1.1,hg.2.1.2,?_⟩;walk_at "n";refine⟨_,rfl,?_⟩;walk_at "n";refine MP ["day", "number", "ware"] z T.eZ T.e4 rfl (by decide+kernel) (by decide) λH2 z=>?_;walk_at "a";exact⟨rfl,MP ["day", "number", "ware", "pieces"] z T.eZ T.e5 rfl (by decide+kernel) (by decide) λH2 z=>k H2 ⟨dx,.non,z,rfl,λq e=>by cases e⟩⟩
inductive QR(A:Adr)(vs:List V)(H:Hp)(Q:VK)(E:XK):Prop
 |mk (x:Addr) (d n m f:Int) (w:Str) (B:Hp) (dx:Addr) (_:vs=[.ref x,.int d,.int n,.str w,.int m,.int f]) (_:New B H x A.bS dx []) (_:(Ent.good (.split d n w m f))) (_:∀H',Made A B H' x (.split d n w m f)->Q .non H'):QR A vs H Q E
def Fb:kI P w K mg base CX0 4 A.aJ D.aJ ["self", "day", "number", "ware", "many", "of"] (QR A):=by
 refine T.cM.okv Ft λ_ _ _ _ H vs Q E hr h=>?_
 ·obtain⟨x,d,n,m,f,w,B,dx,rfl,z,hg,k⟩:=h
  refine ⟨_,(jb (jA (pP T.g1 (lO (K:=K) T) (hr.mono (by decide)) (by rfl) T.eg T.cF.kp (lV T) .nil jR (pav 0 (pav 1 (pav 2 (pav 3 jc))))))
   (jb (jA (pcg (jO T) hr T.cC (jQ T) (iY jB (pav 4 (iY jf (iY (mY (v:=V.int 1000) (by rfl) T.ew ⟨_,rfl⟩) jc))))))
   (jb (jA (pcg (jO T) hr T.cC (jQ T) (iY jB (pav 5 (iY jf (iY (mY (v:=V.int 1000) (by rfl) T.ew ⟨_,rfl⟩) jc))))))
   (jb (jJ (K:=K) (pv 0) (pvD 4) rfl)
   (je (jJ (K:=K) (pv 0) (pvD 5) rfl)))))),?_⟩
  simp only[start_eq];walk_at "n";refine⟨x,d,n,w,B,_,dx,rfl,z,Ux T,hg.1,λH1 z=>?_⟩;walk_at "n";refine⟨_,_,_,_,rfl,hg.2.1.1,hg.2.1.2,?_⟩;walk_at "n";refine⟨_,_,_,_,rfl,hg.2.2.1,hg.2.2.2,?_⟩;walk_at "n";refine MP ["day", "number", "ware"] z T.e6 T.fb rfl (by decide+kernel) (by decide) λH2 z=>?_;walk_at "a";exact MP ["day", "number", "ware", "many"] z T.e6 T.fc rfl (by decide+kernel) (by decide) λH2 z=>k H2 ⟨dx,.non,z,rfl,λq e=>by cases e⟩
inductive HW(A:Adr)(vs:List V)(H:Hp)(Q:VK)(E:XK):Prop
 |mk (x:Addr) (d n s t:Int) (w u:Str) (B:Hp) (dx:Addr) (_:vs=[.ref x,.int d,.int n,.str w,.str u,.int s,.int t]) (_:New B H x A.bT dx []) (_:(Ent.good (.part d n w u s t))) (_:∀H',Made A B H' x (.part d n w u s t)->Q .non H'):HW A vs H Q E
def CP:kI P w K mg base CX0 4 A.aK D.aK ["self", "day", "number", "ware", "other", "share", "whole"] (HW A):=by
 refine T.cN.okv Cu λ_ _ _ _ H vs Q E hr h=>?_
 ·obtain⟨x,d,n,s,t,w,u,B,dx,rfl,z,hg,k⟩:=h
  refine ⟨_,(jb (jA (pP T.g1 (lO (K:=K) T) (hr.mono (by decide)) (by rfl) T.eg T.cF.kp (lV T) .nil jR (pav 0 (pav 1 (pav 2 (pav 3 jc))))))
   (jb (jA (pcg (Dy T) hr T.cE (Ga T) (iY jB (pav 4 jc))))
   (jb (kE (jl (nA) (pvD 4) (pvD 3) (jx _)) (je (mC)) jC)
   (jb (jA (pcg (jO T) hr T.cC (jQ T) (iY jB (pav 6 (iY jf (iY (mY (v:=V.int 1000000) (by rfl) T.ex ⟨_,rfl⟩) jc))))))
   (jb (jA (pcg (jO T) hr T.cC (jQ T) (iY jB (pav 5 (iY jf (pav 6 jc))))))
   (jb (jJ (K:=K) (pv 0) (pvD 4) rfl)
   (jb (jJ (K:=K) (pv 0) (pvD 5) rfl)
   (je (jJ (K:=K) (pv 0) (pvD 6) rfl))))))))),?_⟩
  simp only[start_eq];walk_at "n";refine⟨x,d,n,w,B,_,dx,rfl,z,LR T,hg.1,λH1 z=>?_⟩;walk_at "n";refine⟨_,_,rfl,hg.2.1,λH2 sm=>?_⟩;have z:=z.same sm;walk_at "n";rw[zf hg.2.2.1];walk_at "n";refine⟨_,_,_,_,rfl,hg.2.2.2.1.1,hg.2.2.2.1.2,?_⟩;walk_at "n";refine⟨_,_,_,_,rfl,hg.2.2.2.2.1,hg.2.2.2.2.2,?_⟩;walk_at "n";refine MP ["day", "number", "ware"] z T.fd T.fi rfl (by decide+kernel) (by decide) λH2 z=>?_;walk_at "n";refine MP ["day", "number", "ware", "other"] z T.fd T.fj rfl (by decide+kernel) (by decide) λH2 z=>?_;walk_at "a";exact MP ["day", "number", "ware", "other", "share"] z T.fd T.fk rfl (by decide+kernel) (by decide) λH2 z=>k H2 ⟨dx,.non,z,rfl,λq e=>by cases e⟩
local macro_rules | `(tactic| walk_at "m") => `(tactic| ((try dsimp only); rw [ap_seq]; walk_at "i"))
def anj(H:Hp)(t:Addr)(e:Ent):Prop:=∃nt,H t=some (.tup (.str e.word::e.args nt))/\NT H nt e.lots
def qO(z:H x=none)(q:H dx=none):New H (upd (upd H dx (.own x)) x (.ins C dx [])) x C dx []:=⟨(ji q).upd z,z,jd⟩
noncomputable def Ent.day:Ent->Int
 |.buy d ..=>d
 |.sell d ..=>d
 |.gift d ..=>d
 |.give d ..=>d
 |.split d ..=>d
 |.part d ..=>d
noncomputable def Ent.num:Ent->Int
 |.buy _ n ..=>n
 |.sell _ n ..=>n
 |.gift _ n ..=>n
 |.give _ n ..=>n
 |.split _ n ..=>n
 |.part _ n ..=>n
noncomputable def Ent.ware:Ent->Str
 |.buy _ _ w ..=>w
 |.sell _ _ w ..=>w
 |.gift _ _ w ..=>w
 |.give _ _ w ..=>w
 |.split _ _ w ..=>w
 |.part _ _ w ..=>w
def aiW(e:Ent):CE K (e.cls A):=by
 cases e with
 |buy=>exact aiP T
 |sell=>exact YW T
 |gift=>exact ZR T
 |give=>exact ZG T
 |split=>exact Ux T
 |part=>exact LR T
def Vi(e:Ent)(q:V):(e.fs q).lookup (Str.ofString "day")=some (.int e.day):=by cases e<;>rfl
def CQ(e:Ent)(q:V):(e.fs q).lookup (Str.ofString "number")=some (.int e.num):=by cases e<;>rfl
def ajd.put{rs:Rs}{xs:List V}{u:HO}(h:ajd H rs)(q:H l=some (.lst xs)):ajd (upd H l u) rs:=λr hr=>by
 have h2:=h r hr;rw[jn (λz=>by rw[z,q]at h2;cases h2)];exact h2
theorem NT.put{H:Hp}{v:V}{o:Option Rs}{l:Addr}{xs:List V}{u:HO}(h:NT H v o)(hl:H l=some (.lst xs)):NT (upd H l u) v o:=by
 cases o with
 |none=>exact h
 |some rs=>
  obtain⟨q,rfl,h1,h2⟩:=h;refine⟨q,rfl,?_,h2.put hl⟩;rw[jn (λz=>by rw[z,hl]at h1;cases h1)];exact h1
theorem anj.put{H:Hp}{t:Addr}{e:Ent}{l:Addr}{xs:List V}{u:HO}(h:anj H t e)(q:H l=some (.lst xs)):anj (upd H l u) t e:=by
 obtain⟨nt,h1,h2⟩:=h;refine⟨nt,?_,h2.put q⟩;rw[jn (λz=>by rw[z,q]at h1;cases h1)];exact h1
local macro_rules | `(tactic| walk_at "l") => `(tactic| (rw [ap_seq]; walk_at "i"))
def at4{a b d i:Int}(h0:0<=i)(h1:i<4)(ha:Rg lo hi a)(z:Rg lo hi b)(q:Rg lo hi c)(hd:Rg lo hi d):∃v,atI [V.int a,V.int b,V.int c,V.int d] i=some (.int v)/\Rg lo hi v:=by
 have h:i=0\/i=1\/i=2\/i=3:=by lia
 rcases h with h|h|h|h<;>rw[h]
 ·exact⟨a,rfl,ha⟩
 ·exact⟨b,rfl,z⟩
 ·exact⟨c,rfl,q⟩
 ·exact⟨d,rfl,hd⟩
def at3{a b i:Int}(h0:0<=i)(h1:i<3)(ha:Rg lo hi a)(z:Rg lo hi b)(q:Rg lo hi c):∃v,atI [V.int a,V.int b,V.int c] i=some (.int v)/\Rg lo hi v:=by
 have h:i=0\/i=1\/i=2:=by lia
 rcases h with h|h|h<;>rw[h]
 ·exact⟨a,rfl,ha⟩
 ·exact⟨b,rfl,z⟩
 ·exact⟨c,rfl,q⟩
def wM{x:Int}(hm:0<m)(q:lo<=0)(z:m - 1<=hi):Rg lo hi (x%m):=⟨by have:=zZ x (show m≠0 by lia);lia,by have:=zU x hm;lia⟩
def YX{i:Int}(z:0<=i)(h1:i<ws.length):∃w,atI (ws.map V.str) i=some (.str w)/\ws[i.toNat]? =some w:=by
 have q:i.toNat<ws.length:=by lia
 refine⟨ws[i.toNat],?_,zq q⟩;have e:((i.toNat:Nat):Int)=i:=by lia
 have h:=Jp (xs:=ws.map V.str) (j:=i.toNat) (v:=.str ws[i.toNat]) (by rw[zo,zq q];rfl)
 rwa [e]at h
def akd(q:ws.Nodup){u v:Str}(hi:ws[i]? =some u)(z:ws[j]? =some v)(h:i≠j):u≠v:=λe=>by
 subst e;have h1:=(zk.mp hi);have h2:=(zk.mp z);exact h ((yyi (xs:=ws) q (h₀:=h1.1) (h₁:=h2.1)).mp (h1.2.trans h2.2.symm))
def e9:(10:Int)^Int.toNat 9=1000000000:=by decide
def e6:(10:Int)^Int.toNat 6=1000000:=by decide
def UG{f:Int}(z:Rg 0 1000000000 r)(q:Rg 0 1000000000 f):Rg 0 1000000000000000000 (r*f):=by
 refine⟨yU z.1 q.1,?_⟩;have:=zz9 z.2 q.2 q.1 (by decide);lia
def aaM{a b L:Int}(a0:0<=a)(a1:a<L)(z:0<=b)(q:b<L - 1):(a+1+b)%L≠a:=by
 by_cases h:a+1+b<L
 ·rw[Int.emod_eq_of_lt (by lia) h];lia
 ·have e:(a+1+b)%L=(a+1+b - L)%L:=by
   have:=Int.add_emod_right (a+1+b - L) L;rw[Int.sub_add_cancel]at this;exact this
  rw[e,Int.emod_eq_of_lt (by lia) (by lia)];lia
def alj{J:It}{g:TG}{te:TE}{H:Hp}{Q:VK}(n:Nat)(Xs:Nat->V->Prop)(Sσ:L2.St->Prop)(F:Nat->V->Hp->Prop)(h0:Sσ (rD σ cap))(hz:n<=sizeLine)
  (ae:∀i q,i<n->Same H q->J.go i q/\∀y H',J.yld i q y H'->H'=q/\Xs i y) (aj:∀q,Same H q->J.stop n q)
  (hs:∀D i x,i<n->Xs i x->∀(σ:L2.St)(q:Hp)(R:L2.St->VK),Sσ σ->Same H q->H D=none->(∃acc,q D=some (.lst acc))->(∀v σ4 H6,Sσ σ4->Same q H6->(∀H',But D H6 H'->F i v H')->R σ4 v H6)->g x σ q λσ4 H4=>te σ4 H4 (R σ4))
  (k:∀D H' acc,H D=none->Same H H'->H' D=some (.lst acc)->acc.length=n->(∀(i:Nat) v,acc[i]? =some v->F i v H')->Q (.ref D) H'):lU cap J g Lw te σ H Q:=by
 intro D hD;refine⟨λi m acc σ H2=>m=n - i/\i<=n/\Sσ σ/\Same H H2/\acc.length=i/\∀(j:Nat) v,acc[j]? =some v->∀H',But D H2 H'->F j v H',⟨n,rfl,zM _,h0,ji hD,rfl,λj v e=>by simp at e⟩,?_⟩;rintro i m acc σ1 H2 ⟨rfl,hi,hσ,sm,ac,hF⟩ hA;by_cases aa:i<n
 ·obtain⟨g1,g2⟩:=ae i H2 aa sm
  refine .inr ⟨g1,λy H3 hy=>?_⟩;obtain⟨e3,hx⟩:=g2 y H3 hy;subst e3;simp only[ap_noIf,if_true];refine hs D i _ aa hx σ1 H3 _ hσ sm hD ⟨_,hA⟩ λv σ4 H6 ad s6 ai=>?_;have ag:=s6 _ _ hA;refine⟨acc,ag,by lia,n - (i+1),by lia,rfl,aa,ad,(sm.trans s6).upd hD,by rw[zC,ac];rfl,λj u hj H' hb=>?_⟩;have ab:But D H6 H':=λb o z e=>hb b o z ((jn z).trans e);by_cases ah:j<acc.length
  ·rw[ya ah]at hj
   exact hF j u hj H' λb o z e=>ab b o z (s6 _ _ e)
  ·rw[z4 (by lia)]at hj
   have af:j - acc.length=0:=by
    have:=(zk.mp hj).1;simp at this;lia
   rw[af]at hj;cases hj;obtain rfl:j=i:=by lia
   exact ai H' ab
 ·obtain rfl:i=n:=by lia
  exact .inl ⟨aj H2 sm,k D H2 acc hD sm hA ac λj v e=>hF j v e H2 λb o _ e=>e⟩
def anb{lo:Int}{g:TG}{te:TE}{H:Hp}{Q:VK}{n:Nat}(Sσ:L2.St->Prop)(F:Nat->V->Hp->Prop)(h0:Sσ (rD σ cap))(hz:n<=sizeLine)
  (hs:∀D i,i<n->∀(σ:L2.St)(z:Hp)(R:L2.St->VK),Sσ σ->Same H z->H D=none->(∃acc,z D=some (.lst acc))->(∀v q H6,Sσ q->Same z H6->(∀H',But D H6 H'->F i v H')->R q v H6)->g (.int (lo+i)) σ z λq H4=>te q H4 (R q))
  (k:∀D H' acc,H D=none->Same H H'->H' D=some (.lst acc)->acc.length=n->(∀(i:Nat) v,acc[i]? =some v->F i v H')->Q (.ref D) H'):lU cap (Itr lo n) g Lw te σ H Q:=
 alj n (λi x=>x=.int (lo+i)) Sσ F h0 hz (λi z hi _=>⟨hi,λy H' hy=>⟨hy.1,hy.2⟩⟩) (λ_ _=>zm n) (λD i x hi hx=>by subst hx;exact hs D i hi) k
def aie{o:Obj}{g:TG}{te:TE}{Q:VK}(Sσ:L2.St->Prop)(F:Nat->V->Hp->Prop)(hH:H a=some (.frz o (.dK kvs)))(h0:Sσ (rD σ cap))(hz:kvs.length<=sizeLine)
  (hs:∀D i q,kvs[i]? =some q->∀(σ:L2.St)(H5:Hp)(R:L2.St->VK),Sσ σ->Same H H5->H D=none->(∃acc,H5 D=some (.lst acc))->(∀v z H6,Sσ z->Same H5 H6->(∀H',But D H6 H'->F i v H')->R z v H6)->g q.2 σ H5 λz H4=>te z H4 (R z))
  (k:∀D H' acc,H D=none->Same H H'->H' D=some (.lst acc)->acc.length=kvs.length->(∀(i:Nat) v,acc[i]? =some v->F i v H')->Q (.ref D) H'):lU cap (Itv a o kvs) g Lw te σ H Q:=
 alj kvs.length (λi x=>∃q,kvs[i]? =some q/\x=q.2) Sσ F h0 hz (λi H5 hi s=>⟨⟨s _ _ hH,hi⟩,λy H' hy=>⟨hy.1,by
  obtain⟨_,h⟩:=hy;rw[zo]at h
  cases e:kvs[i]? with
  |none=>rw[e]at h;cases h
  |some q=>rw[e]at h;exact⟨q,rfl,(zy h).symm⟩⟩⟩) (λ_ s=>⟨s _ _ hH,zm _⟩) (λD i x hi ⟨q,e,hx⟩=>by subst hx;exact hs D i q e) k
noncomputable def jo(kvs:List (Key×V))(z:Str):Int:=match oM kvs (Sum.inr z)with
 |some (.int i)=>i
 |_=>0
theorem Km:∀{kvs:List (Key×V)}{k:Key}{v:V},oM kvs k=some v->(k,v)∈kvs
 |[],_,_,h=>by cases h
 |p::kvs,k,v,h=>by
  by_cases e:p.1=k
  ·rw[lG e]at h
   cases h;rw[<-e];exact zg
  ·rw[lq e]at h
   exact zn _ (Km h)
def Mf{k:Key}(q:(kvs.map (·.1)).Nodup)(h:(k,v)∈kvs):oM kvs k=some v:=by
 induction kvs with
 |nil=>exact(zj h).elim
 |cons p kvs ih=>
  rw[zl,zN]at q;rcases zx.mp h with e|h
  ·subst e
   exact lG rfl
  ·have:p.1≠k:=λe=>q.1 (by rw[e];exact zc.mpr ⟨(k,v),h,rfl⟩)
   rw[lq this];exact ih q.2 h
def xO{k:Key}(z:(kvs.map (·.1)).Nodup):((putK kvs k v).map (·.1)).Nodup:=by
 cases e:oM kvs k with
 |none=>exact akm v z e
 |some w=>
  unfold putK;rw[zi (by rw[qe,e];rfl),zu]
  have:((λx:Key×V=>x.1)∘λq:Key×V=>if q.1=k then(q.1,v)else q)=λx=>x.1:=by
   funext q;show(if q.1=k then(q.1,v)else q).1=q.1;split<;>rfl
  rw[this];exact z
def JT{k:Key}{p:Key×V}(h:p∈putK kvs k v):p=(k,v)\/p∈kvs:=by
 unfold putK at h;split at h
 ·obtain⟨q,z,rfl⟩:=zc.mp h
  split
  ·rename_i e
   exact .inl (by rw[e])
  ·exact .inr z
 ·rcases zD.mp h with h|h
  ·exact .inr h
  ·exact .inl (zr.mp h)
structure Cnt(kvs:List (Key×V)):Prop where
 k:∀kv∈kvs,∃(z:Str)(i:Int),kv=(Sum.inr z,.int i)/\0<=i
 u:(kvs.map (·.1)).Nodup
theorem Cnt.nil:Cnt []:=⟨λq h=>(zj h).elim,.nil⟩
def Cnt.put(h:Cnt kvs)(z:Str){n:Int}(hn:0<=n):Cnt (putK kvs (Sum.inr z) (.int n)):=
 ⟨λkv q=>(JT q).elim (λe=>⟨z,n,e,hn⟩) (h.k kv),xO h.u⟩
theorem NK{α:Type}{f:α->α}:∀{l:List α},(∀x∈l,f x=x)->l.map f=l
 |[],_=>rfl
 |x::l,h=>by rw[zl,h x (.head _),NK λy q=>h y (.tail _ q)]
def anR{w c:Str}(n:w≠c):decide (V.str w=V.str c)=false:=zJ λe=>n (V.str.inj e)
def amk{vs:List V}{c w:Str}{Q:Bool->Hp->Prop}(h:σ[i]? =some (some (.ref a)))(q:H a=some (.tup vs))(a0:atI vs 0=some (.str w))(k:Q (decide (V.str w=V.str c)) H):Tu (tOp rEq (tOp (ajk K) (tV i) (tC (.int 0))) (tC (.str c))) σ H Q:=by
 unfold Tu tOp tV tC atV rEq ajk;rw[h];exact⟨_,_,_,_,rfl,rfl,jE q,a0,rfl,_,rfl,k⟩
def si1{vs:List V}{c w:Str}{s:TS}{D:_}(h:σ[i]? =some (some (.ref a)))(q:H a=some (.tup vs))(a0:atI vs 0=some (.str w))(n:w≠c)(k:u D σ H):aar (YD (Tu (tOp rEq (tOp (ajk K) (tV i) (tC (.int 0))) (tC (.str c)))) s Xj) u D σ H:=by
 refine amk h q a0 ?_;rw[anR n];exact k
def gi1{vs:List V}{c:Str}{s:TS}{D:_}(h:σ[i]? =some (some (.ref a)))(q:H a=some (.tup vs))(a0:atI vs 0=some (.str c))(k:s {D with nx:=u D} σ H):aar (YD (Tu (tOp rEq (tOp (ajk K) (tV i) (tC (.int 0))) (tC (.str c)))) s Xj) u D σ H:=by
 refine amk h q a0 ?_;rw[zH rfl];exact k
def sc0{x:V}{t:Value}{s:TS}{D:_}(h:σ[i]? =some (some x))(ty:Kv K H x t)(e:kitOne K t (.ref C)=some false)(k:u D σ H):YD (tB (tCB (akV K) (ql (tV i) (ql (tC (.ref C)) Vw)))) s u D σ H:=by
 unfold YD tB tCB ql tV tC Vw atV akV;rw[h];exact⟨_,_,_,_,rfl,ty,e,_,rfl,k⟩
def sc1{x:V}{t:Value}{s:TS}{D:_}(h:σ[i]? =some (some x))(ty:Kv K H x t)(e:kitOne K t (.ref C)=some true)(k:s D σ H):YD (tB (tCB (akV K) (ql (tV i) (ql (tC (.ref C)) Vw)))) s u D σ H:=by
 unfold YD tB tCB ql tV tC Vw atV akV;rw[h];exact⟨_,_,_,_,rfl,ty,e,_,rfl,k⟩
abbrev EL:=List (Addr×Ent)
noncomputable def lZ(es:EL):List V:=es.map λr=>V.ref r.1
def Kh(A:Adr)(H:Hp)(es:EL):Prop:=∀r∈es,IsE A H r.1 r.2
theorem Kh.same{H H':Hp}{es:EL}(h:Kh A H es)(s:Same H H'):Kh A H' es:=λr q=>(h r q).same s
def kY(es:EL):(lZ es).length=es.length:=by unfold lZ;rw[za]
def vq{rs:EL}(h:(lZ rs)[i]? =some y):∃r,rs[i]? =some r/\y=.ref r.1:=by
 unfold lZ at h;rw[zo]at h
 cases e:rs[i]? with
 |none=>rw[e]at h;cases h
 |some r=>rw[e]at h;exact⟨r,rfl,(zy h).symm⟩
def ait{f:Addr×Ent->Int}{rs:EL}:∀{acc:List V},acc.length=rs.length->(∀(i:Nat) v,acc[i]? =some v->∃l,rs[i]? =some l/\v=.int (f l))->acc=(rs.map f).map V.int:=by
 intro acc q h;refine zzI λi=>?_;rw[zo,zo];by_cases hi:i<acc.length
 ·obtain⟨l,h1,h2⟩:=h i _ (zq hi)
  rw[zq hi,h2,h1];rfl
 ·rw[yc (by lia),yc (by lia)]
  rfl
def aim{es:EL}{Q:VK}{σ:L2.St}(hq:H q=some (.lst (lZ es)))(hE:Kh A H es)(hl:es.length<=100)
  (k:∀D H',H D=none->Same H H'->H' D=some (.lst ((es.map λl=>l.2.num).map V.int))->Q (.ref D) H'):lU [none] (Itl K q) (RX 0) Lw (tFV K 0 "number") σ H Q:=by
 refine lU.listE (K:=K) (λσ=>∃a,σ=[a]) (λi v _=>∃l,es[i]? =some l/\v=.int l.2.num) (jh hq) ⟨_,rfl⟩ (by rw[kY,zw];lia) ?_ ?_
 ·rintro Da i x hx σ H5 R ⟨_,rfl⟩ sm hD _ kk
  obtain⟨l,z,rfl⟩:=vq hx;obtain⟨dx,nv,ab,hn⟩:=(hE l (zh z)).same sm;have hC:=aiW T l.2;walk_at "i";exact rd ab hC.c hC.n (CQ l.2 nv) (kk _ _ H5 ⟨_,rfl⟩ (same_refl _) λH' _=>⟨l,z,rfl⟩)
 ·intro Da H' acc hD sm hA aa hF
  rw[ait (f:=λl=>l.2.num) (by rw[aa,kY]) hF]at hA;exact k Da H' hD sm hA
def anI{g:TG}{tb:TS}{D:Ends}{xs ys:List V}(q:Nat->L2.St->Hp->Prop)(n:Nat)(ab:n<=xs.length)(ac:n<=ys.length)(z:xs.length<=n\/ys.length<=n)(h0:q 0 σ H)(hl:∀i σ H,i<=n->q i σ H->SqL K H a xs/\SqL K H b ys)
  (hs:∀i x y σ H p,xs[i]? =some x->ys[i]? =some y->q i σ H->H p=none->g (.ref p) σ (upd H p (.tup [x,y])) λσ2 H2=>tb {D with nx:=q (i+1),ct:=q (i+1),bk:=D.nx} σ2 H2) (hd:∀σ H,q n σ H->D.nx σ H):Eg (Itz K a b) g tb D σ H:=by
 refine⟨λi m σ H=>m=n - i/\i<=n/\q i σ H,⟨n,by simp,zM _,h0⟩,?_⟩;rintro i m σ H ⟨rfl,hi,p⟩;obtain⟨q1,q2⟩:=hl i σ H hi p;by_cases aa:i<n
 ·have h1:i<xs.length:=by lia
  have h2:i<ys.length:=by lia
  refine .inr ⟨⟨xs,ys,xs[i],ys[i],q1,q2,by simp,by simp⟩,q (i+1),λσ' H' p'=>⟨n - (i+1),by lia,rfl,aa,p'⟩,λv H' y=>?_⟩;obtain⟨pp,x,y,hp,rfl,rfl,e1,e2⟩:=y;exact hs i x y σ _ pp (e1 xs q1) (e2 ys q2) p hp
 ·have e:i=n:=by lia
  subst e;exact .inl ⟨⟨xs,ys,q1,q2,z⟩,hd σ H p⟩
inductive xP(K:Fg_)(vs:List V)(H:Hp)(Q:VK)(E:XK):Prop
 |mk (a:Addr) (ns:List Int) (_:vs=[.ref a]) (_:SqL K H a (ns.map V.int)) (_:ns.length<64) (_:ns.Nodup) (_:∀H',Same H H'->Q .non H'):xP K vs H Q E
def Ke:kI P w K mg base CX0 1 A.aj D.aj ["numbers"] (xP K):=by
 refine T.cn.F.okv oX λ_ _ _ _ H vs Q E hr h=>?_
 ·obtain⟨a,ns,rfl,hS,hl,hu,k⟩:=h
  refine ⟨_,(jb (jm (i:=1) oX.nd rfl orl (jy (Ss (K:=K)) (by rfl) T.dZ (by decide+kernel) (pav 0 jc)))
   (je (oh zR rfl (Mz (K:=K) (by rfl) T.d0 (pav 1 (iY (Br (Ec (K:=K)) (pvD 1) (Dd jf) Jf) jc))) (pY (K:=K) (n:=2) rfl (jG (jk (i:=2) oX.nd rfl orl) (jG (jk (i:=3) oX.nd rfl orl) oF)))
    (je (kE (jl (nA) (pvD 2) (pvD 3) (jx _)) (je (mC)) jC))))),?_⟩
  simp only[start_eq];walk_at "m";refine⟨ns,hS,hl,λp q hp ac ah=>?_⟩;have ad:q.Nodup:=ac.nodup_iff.mpr hu;have S1:=ji (o:=.lst (q.map V.int)) hp;have h1:(upd H p (.lst (q.map V.int))) p=some (.lst (q.map V.int)):=jd;generalize upd H p (.lst (q.map V.int))=H1 at S1 h1
  try dsimp only
  rw[ap_for];walk_at "i";refine⟨_,jh h1,λpc aa=>?_⟩;rw[show Ow (q.map V.int) (some 1) none=(q.drop 1).map V.int by rw[List.map_drop];exact Vk (q.map V.int) 1];have S2:=S1.trans (ji (o:=.lst ((q.drop 1).map V.int)) aa);have h2:(upd H1 pc (.lst ((q.drop 1).map V.int))) pc=some (.lst ((q.drop 1).map V.int)):=jd;have z:=ji (o:=.lst ((q.drop 1).map V.int)) aa _ _ h1;generalize upd H1 pc (.lst ((q.drop 1).map V.int))=H2 at S2 h2 z;refine⟨⟨_,jh z⟩,⟨_,jh h2⟩,?_⟩
  refine anI (K:=K) (a:=p) (b:=pc) (xs:=q.map V.int) (ys:=(q.drop 1).map V.int) (λi σ Hx=>(∃v2 v3,σ=[some (.ref a),some (.ref p),v2,v3])/\Same H2 Hx) (q.length - 1) (by rw[za];lia) (by rw[za,yI];lia) (.inr (by rw[za,yI];lia))
   ⟨⟨_,_,rfl⟩,same_refl _⟩ (λi σ Hx _ ⟨_,s⟩=>⟨s.seq (jh z),s.seq (jh h2)⟩) ?_ ?_
  ·rintro i x y σ H3 pt hx hy ⟨⟨v2,v3,rfl⟩,s3⟩ ag
   rw[zo]at hx hy;obtain⟨m1,af,rfl⟩:=zzG.mp hx;obtain⟨m2,ab,rfl⟩:=zzG.mp hy;rw[List.getElem?_drop]at ab
   have ae:m1≠m2:=by
    obtain⟨q1,e1⟩:=zk.mp af;obtain⟨q2,e2⟩:=zk.mp ab;have:=yh.mp ad i (1+i) q1 q2 (by lia);rw[e1,e2]at this;exact this
   have S3:=s3.trans (ji (o:=.tup [V.int m1,V.int m2]) ag);have h3:(upd H3 pt (.tup [V.int m1,V.int m2])) pt=some (.tup [V.int m1,V.int m2]):=jd;generalize upd H3 pt (.tup [V.int m1,V.int m2])=H4 at S3 h3;walk_at "i";refine⟨_,jE h3,rfl,_,_,rfl,_,_,rfl,rfl,?_⟩;refine⟨rfl,?_⟩;rw[zf (λe=>ae (by cases e;rfl))];exact S3
  ·rintro σ H3 ⟨⟨v2,v3,rfl⟩,s3⟩
   exact k _ (S2.trans s3)
inductive Iw(A:Adr)(vs:List V)(H:Hp)(Q:VK)(E:XK):Prop
 |mk (x:Addr) (e:Ent) (_:vs=[.ref x]) (_:IsE A H x e) (_:∀t,H t=none->Q (.ref t) (upd H t (.tup [.int e.day,.int e.num]))):Iw A vs H Q E
def Cq:kI P w K mg base CX0 1 A.ak D.ak ["entry"] (Iw A):=by
 refine T.co.F.okv Te λ_ _ _ _ H vs Q E hr h=>?_
 ·obtain⟨x,e,rfl,⟨dx,z,hx,hn⟩,k⟩:=h
  refine⟨_,(je (jq (nM (iY (fv K 0) (iY (fv K 0) jc))))),?_⟩;have q:=aiW T e;walk_at "a";exact rd hx q.c q.d (Vi e z) (rd hx q.c q.n (CQ e z) ⟨sz,λt ht=>k t ht⟩)
noncomputable def amW:V->Int
 |.int i=>i
 |_=>0
noncomputable def kfE(H:Hp):V->List Int
 |.ref b=>match H b with
  |some (.ins _ _ fs)=>[amW ((fs.lookup (Str.ofString "day")).getD .non),amW ((fs.lookup (Str.ofString "number")).getD .non)]
  |_=>[]
 |_=>[]
def Je{e:Ent}(h:IsE A H b e):kfE H (.ref b)=[e.day,e.num]:=by
 obtain⟨dx,z,q,_⟩:=h;unfold kfE
 try dsimp only
 rw[q]
 try dsimp only
 rw[Vi,CQ];rfl
def BfE(d e:Ent):Prop:=d.day<e.day\/(d.day=e.day/\d.num<e.num)
def BfE.asym{d e:Ent}(h:BfE d e)(h':BfE e d):False:=by
 unfold BfE at h h';lia
def ajT{d e:Ent}(h:xH [d.day,d.num] [e.day,e.num] false=true)(hn:d.num≠e.num):BfE d e:=by
 rw[xH]at h;by_cases q:d.day=e.day
 ·rw[zi q,xH,zf hn]at h
  exact .inr ⟨q,yf h⟩
 ·rw[zf q]at h
  exact .inl (yf h)
def aiS{l k:List Ent}(h:l.Perm k)(h1:l.Pairwise BfE)(h2:k.Pairwise BfE):l=k:=List.Perm.eq_of_pairwise (λa b _ _ x y=>(x.asym y).elim) h1 h2 h
def Lx{f:α->V}:∀{zs ys:List V},zs.Perm ys->∀{rs:List α},ys=rs.map f->∃q:List α,zs=q.map f/\q.Perm rs:=by
 intro zs ys h
 induction h with
 |nil=>intro rs e;exact⟨[],rfl,by cases rs with|nil=>exact .nil|cons _ _=>cases e⟩
 |cons x _ ih=>
  intro rs e
  cases rs with
  |nil=>cases e
  |cons r rs=>
   rw[zl]at e;obtain⟨e1,z⟩:=zzm e;obtain⟨q,a1,a2⟩:=ih z;exact⟨r::q,by rw[zl,<-a1,e1],a2.cons r⟩
 |swap x y l=>
  intro rs e
  cases rs with
  |nil=>cases e
  |cons r rs=>cases rs with
   |nil=>cases e
   |cons r2 rs=>
    rw[zl,zl]at e;obtain⟨e1,z⟩:=zzm e;obtain⟨e3,e4⟩:=zzm z;exact⟨r2::r::rs,by rw[zl,zl,e1,e3,e4],.swap _ _ _⟩
 |trans _ _ ih1 ih2=>
  intro rs e;obtain⟨r2,a1,a2⟩:=ih2 e;obtain⟨r3,b1,b2⟩:=ih1 a1;exact⟨r3,b1,b2.trans a2⟩
inductive Ig(A:Adr)(vs:List V)(H:Hp)(Q:VK)(E:XK):Prop
 |mk (q:Addr) (es:EL) (_:vs=[.ref q]) (_:H q=some (.lst (lZ es))) (_:Kh A H es) (_:es.length<64) (_:(es.map (·.2.num)).Nodup) (_:∀p es' H',Same H H'->H p=none->H' p=some (.lst (lZ es'))->es'.Perm es->(es'.map (·.2)).Pairwise BfE->Q (.ref p) H'):Ig A vs H Q E
def Im:kI P w K mg base CX0 4 A.al D.al ["entries"] (Ig A):=by
 refine T.cp.F.okv RZ λ_ _ _ _ H vs Q E hr h=>?_
 ·obtain⟨q,es,rfl,hq,hE,hl,hu,k⟩:=h
  refine ⟨_,(jb (jA (pcg (Ke T) hr T.cn (KQ T) (iY (jW (cap:=[none]) (N':=["entry"]) rfl (by walk_at "c") (jP (K:=K) (pv 0)) (λ_ _ _ _=>(jk (i:=0) nd1 rfl orl orr)) (λ_ _ _ _=>kh) (λ_ _ _ _=>(fv K 0))) jc)))
   (je (jq (Kd (K:=K) (by rfl) (Mm (Cq (K:=K) T) (hr.mono (by decide)) (Fd T) (by rfl) T.dZ (by decide+kernel) (by rfl) T.co.m (pav 0 jc)))))),?_⟩
  simp only[start_eq];walk_at "m";refine⟨⟨_,jh hq⟩,aim T hq hE (by lia) λD1 H1 ah s1 h1=>?_⟩;refine⟨D1,_,rfl,jh h1,by rw[za];exact hl,hu,λH2 s2=>?_⟩;have S2:=s1.trans s2;have aa:=hE.same S2;walk_at "i";refine⟨_,jh (S2 _ _ hq),by rw[kY];exact hl,kfE H2,λy hy=>?_,λp zs H3 s3 hn hz ac ad=>?_⟩
  ·obtain⟨o,ho,rfl⟩:=zc.mp hy
   rw[Je (aa o ho)];refine⟨by simp,λH5 s5 R hR=>⟨o.1,o.2,rfl,(aa o ho).same s5,λt ht=>hR t _ (ji ht) ?_⟩⟩;rw[Je (aa o ho)];exact jd
  ·obtain⟨os,rfl,ab⟩:=Lx (f:=λr:Addr×Ent=>V.ref r.1) ac rfl
   have ae:es.Pairwise λa b=>a.2.num≠b.2.num:=zY.mp hu
   have hou':os.Pairwise λa b=>a.2.num≠b.2.num:=by
    have:(os.map λr=>r.2.num).Nodup:=(ab.map λr=>r.2.num).nodup_iff.mpr hu;exact zY.mp this
   have af:=ad 2 (λy hy=>by
    obtain⟨r,hr,rfl⟩:=zc.mp hy;rw[Je (aa r hr)];rfl) (by
    refine zY.mpr (zY.mpr (List.Pairwise.imp_of_mem (fun{a b} ha hb ag z=>ag ?_) ae));rw[Je (aa a ha),Je (aa b hb)]at z;exact(zzm (zzm z).2).1)
   refine k p os H3 (S2.trans s3) (S2.free hn) hz ab ?_;refine zY.mpr (List.Pairwise.imp_of_mem (fun{a b} ha hb h=>?_) ((zY.mp af).and hou'));have h1:=h.1;rw[Je (aa a (ab.mem_iff.mp ha)),Je (aa b (ab.mem_iff.mp hb))]at h1;exact ajT h1 h.2
structure jD where
 n:Int
 s:Int
 p:Int
 c:Int
noncomputable def jD.fs(d:jD):List (Str×V):=[("number",.int d.n),("since",.int d.s),("pieces",.int d.p),("cost",.int d.c)]
noncomputable def jD.vs(d:jD):List V:=[.int d.n,.int d.s,.int d.p,.int d.c]
def nD(A:Adr)(H:Hp)(x:Addr)(d:jD):Prop:=∃dx,H x=some (.ins A.bY dx d.fs)
def nD.same{d:jD}(h:nD A H x d)(s:Same H H'):nD A H' x d:=let⟨dx,e⟩:=h;⟨dx,s _ _ e⟩
def nD.but{D:Addr}{d:jD}(h:nD A H x d)(q:x≠D)(s:But D H H'):nD A H' x d:=let⟨dx,e⟩:=h;⟨dx,s _ _ q e⟩
def Bd(i:Int):Prop:= -(2^700)<i/\i<2^700
def Bd.mul{i j:Int}(h:Bd i)(h':Bd j):Dh i j:=by
 have h1:=h.1;have h2:=h.2;have z:=h'.1;have q:=h'.2
 refine Dh.big ?_ ?_
 ·have:i.natAbs<2^700:=by lia
  exact zL this (yy (by decide) (by decide))
 ·have:j.natAbs<2^700:=by lia
  exact zL this (yy (by decide) (by decide))
def Bd.of{i j:Int}(h:Bd j)(q:0<=i)(h1:i<=j):Bd i:=⟨by have:=h.1;unfold Bd at h;exact Int.lt_of_lt_of_le (Int.neg_neg_of_pos (Int.pow_pos (by decide))) q,Int.lt_of_le_of_lt h1 h.2⟩
def Bd.nat{i:Int}(h:Bd i):i.natAbs<2^700:=by have h1:=h.1;have h2:=h.2;lia
def Bd.div{i j:Int}(h:Bd j)(q:0<j):GX i j:=⟨q,zL h.nat (yy (by decide) (by decide))⟩
inductive rJ(A:Adr)(vs:List V)(H:Hp)(Q:VK)(E:XK):Prop
 |mk (x:Addr) (d:jD) (B:Hp) (dx:Addr) (_:vs=.ref x::d.vs) (_:New B H x A.bY dx []) (_:∀H',New B H' x A.bY dx d.fs->Q .non H'):rJ A vs H Q E
def kW:kI P w K mg base CX0 1 A.a3 D.a3 ["self", "number", "since", "pieces", "cost"] (rJ A):=by
 refine T.c6.ok Jx (by walk_at "v") (λ_ _ _ s H vs Q E z h=>?_)
 ·obtain⟨x,⟨n,s,p,c⟩,B,dx,rfl,q,k⟩:=h
  refine ⟨_,(jb (jJ (K:=K) (pv 0) (pvD 1) rfl)
   (jb (jJ (K:=K) (pv 0) (pvD 2) rfl)
   (jb (jJ (K:=K) (pv 0) (pvD 3) rfl)
   (je (jJ (K:=K) (pv 0) (pvD 4) rfl))))),?_⟩
  simp only[jD.vs];walk_at "a";refine sw q.h T.fK T.fL (by decide) (?_);rw[Bm _ _ (by decide+kernel)];have q:=q.put (gs:=[]++[(Str.ofString "number",V.int n)]) rfl;refine sw q.h T.fK T.fM (by simp) (?_);rw[mX (f:=Str.ofString "since") ["number"]];have q:=q.put (gs:=([]++[(Str.ofString "number",V.int n)])++[(Str.ofString "since",V.int s)]) rfl;refine sw q.h T.fK T.fN (by simp) (?_);rw[mX (f:=Str.ofString "pieces") ["number", "since"]];have q:=q.put (gs:=(([]++[(Str.ofString "number",V.int n)])++[(Str.ofString "since",V.int s)])++[(Str.ofString "pieces",V.int p)]) rfl;refine sw q.h T.fK T.fO (by simp) (?_);rw[mX (f:=Str.ofString "cost") ["number", "since", "pieces"]];exact k _ (q.put rfl)
def qQ{R:Hp->Prop}{E:XK}(d:jD)(hx:H x=none)(q:H dx=none)(k:∀H',Same H H'->nD A H' x d->R H'):
  rJ A (.ref x::d.vs) (upd (upd H dx (.own x)) x (.ins A.bY dx [])) (λv H2=>v=.non/\R H2) E:=
 ⟨x,d,H,dx,rfl,qO hx q,λH' z=>⟨rfl,k H' z.s ⟨dx,z.h⟩⟩⟩
abbrev RL:=List (Addr×jD)
noncomputable def jH(rs:RL):List V:=rs.map λr=>V.ref r.1
def lD(A:Adr)(H:Hp)(rs:RL):Prop:=∀r∈rs,nD A H r.1 r.2
theorem lD.same{H H':Hp}{rs:RL}(h:lD A H rs)(s:Same H H'):lD A H' rs:=λr q=>(h r q).same s
structure Good(d:jD):Prop where
 n:0<=d.n/\d.n<=1000000
 s:0<=d.s/\d.s<=1000000
 p:1<=d.p/\d.p<=1000000000
 c:0<=d.c/\d.c<=1000000000000000000
def kO{rs:RL}(h:(jH rs)[i]? =some y):∃r,rs[i]? =some r/\y=.ref r.1:=by
 unfold jH at h;rw[zo]at h
 cases e:rs[i]? with
 |none=>rw[e]at h;cases h
 |some r=>rw[e]at h;exact⟨r,rfl,(zy h).symm⟩
def jr(rs:RL):(jH rs).length=rs.length:=by unfold jH;rw[za]
def get_mem{rs:RL}{r:Addr×jD}(h:rs[i]? =some r):r∈rs:=zh h
def Th(F:V->Hp->Addr×jD->Prop):∀{ds:List jD},acc.length=ds.length->(∀(i:Nat) v,acc[i]? =some v->∃b d,ds[i]? =some d/\v=.ref b/\F v H (b,d))->
  ∃rs:RL,acc=jH rs/\rs.map (·.2)=ds/\∀r∈rs,F (.ref r.1) H r:=by
 induction acc with
 |nil=>
  intro ds q _
  cases ds with
  |nil=>exact⟨[],rfl,rfl,λr h=>by cases h⟩
  |cons _ _=>simp at q
 |cons v acc ih=>
  intro ds q h
  cases ds with
  |nil=>simp at q
  |cons d ds=>
   obtain⟨b,d',e,rfl,hf⟩:=h 0 v rfl;cases e;obtain⟨rs,e1,e2,e3⟩:=ih (ds:=ds) (by simpa using q) λi v hv=>h (i+1) v hv;refine⟨(b,d)::rs,by rw[e1];rfl,by rw[zl,e2],λr z=>?_⟩;rcases zx.mp z with rfl|z
   ·exact hf
   ·exact e3 r z
def Qy(H:Hp)(Q:VK)(ns:List Int):Prop:=∀p H',Same H H'->H p=none->H' p=some (.lst (ns.map V.int))->Q (.ref p) H'
def Np{l1 q:List Int}(h:l1.Perm q):l1.sum=q.sum:=by
 induction h with
 |nil=>rfl
 |cons x _ ih=>rw[zI,zI,ih]
 |swap x y l=>rw[zI,zI,zI,zI];lia
 |trans _ _ ih1 ih2=>rw[ih1,ih2]
noncomputable def pcs(ls:RL):Int:=(ls.map (·.2.p)).sum
structure Shp(ns:List Int)(ls:RL):Prop where
 u:(ls.map (·.2.n)).Nodup
 p:∀l∈ls,1<=l.2.p
 m:∀l∈ls,l.2.n∈ns
 c:∀l∈ls,0<=l.2.c
noncomputable def Wq(l:Addr×jD):Int×Int:=(l.2.n,l.2.p)
def Sim(ls ms:RL):Prop:=ms.map Wq=ls.map Wq
def Sim.len{ls q:RL}(h:Sim ls q):q.length=ls.length:=by simpa using congrArg List.length h
def Sim.ns{ls q:RL}(h:Sim ls q):q.map (·.2.n)=ls.map (·.2.n):=by
 have:=congrArg (List.map Prod.fst) h
 rwa [zu,zu]at this
def Sim.ps{ls q:RL}(h:Sim ls q):q.map (·.2.p)=ls.map (·.2.p):=by
 have:=congrArg (List.map Prod.snd) h
 rwa [zu,zu]at this
theorem Sim.pcs{ls q:RL}(h:Sim ls q):pcs q=pcs ls:=by unfold My.pcs;rw[h.ps]
def Sim.shp{ns:List Int}{ls z:RL}(h:Sim ls z)(s:Shp ns ls)(hc:∀l∈z,0<=l.2.c):Shp ns z:=by
 refine⟨by rw[h.ns];exact s.u,λl hl=>?_,λl hl=>?_,hc⟩
 ·have:l.2.p∈z.map (·.2.p):=zc.mpr ⟨l,hl,rfl⟩
  rw[h.ps]at this;obtain⟨q,hq,e⟩:=zc.mp this;exact e▸s.p q hq
 ·have:l.2.n∈z.map (·.2.n):=zc.mpr ⟨l,hl,rfl⟩
  rw[h.ns]at this;obtain⟨q,hq,e⟩:=zc.mp this;exact e▸s.m q hq
theorem Shp.nil{ns:List Int}:Shp ns []:=⟨.nil,λl h=>(zj h).elim,λl h=>(zj h).elim,λl h=>(zj h).elim⟩
theorem Ej{α:Type} [DecidableEq α]:∀{l k:List α},l.Nodup->(∀x∈l,x∈k)->l.length<=k.length
 |[],_,_,_=>zM _
 |x::l,k,h,s=>by
  have h':=zN.mp h;have z:x∈k:=s x (.head _);have:=Ej (l:=l) (k:=k.erase x) h'.2 λy q=>(zzW (λe=>by subst e;exact h'.1 q)).mpr (s y (.tail _ q));rw[zzx z]at this;have hp:0<k.length:=zzK z;rw[zG];lia
def Shp.len{ns:List Int}{ls:RL}(s:Shp ns ls):ls.length<=ns.length:=by
 have:=Ej s.u λn hn=>by
  obtain⟨l,q,rfl⟩:=zc.mp hn;exact s.m l q
 rwa [za]at this
def Nr(l:Addr×jD)(ls:RL):pcs (l::ls)=l.2.p+pcs ls:=zI
def ajR(a b:RL):pcs (a++b)=pcs a+pcs b:=by unfold pcs;rw[zp,yX]
theorem xN:∀{ls:RL},(∀l∈ls,1<=l.2.p)->(ls.length:Int)<=pcs ls
 |[],_=>yR _
 |l::ls,h=>by
  have h1:=h l (.head _);have h2:=xN (ls:=ls) λq z=>h q (.tail _ z);rw[Nr,zG];lia
theorem SJ:∀{ls:RL}{l:Addr×jD},(∀l∈ls,1<=l.2.p)->l∈ls->l.2.p<=pcs ls
 |q::ls,l,h,z=>by
  rw[Nr];have h2:=xN (ls:=ls) λq hq=>h q (.tail _ hq);rcases zx.mp z with rfl|z
  ·lia
  ·have:=SJ (ls:=ls) (λq hq=>h q (.tail _ hq)) z
   have:=h q (.head _);lia
def Uu{a b:RL}(h:a.Perm b):pcs a=pcs b:=Np (h.map (λl:Addr×jD=>l.2.p))
noncomputable def plD(d:jD):Int×Int:=(d.s,d.n)
noncomputable def pls(ls:RL):List (Int×Int):=(ls.map (·.2)).map plD
def lt2(a b:Int×Int):Prop:=a.1<b.1\/(a.1=b.1/\a.2<b.2)
structure ShO(ns:List Int)(ls:RL):Prop extends Shp ns ls where
 o:(pls ls).Pairwise lt2
theorem ShO.nil{ns:List Int}:ShO ns []:=⟨.nil,.nil⟩
def ShO.sub{ns:List Int}{ls q:RL}(h:ShO ns ls)(hs:Shp ns q)(z:(pls q).Sublist (pls ls)):ShO ns q:=⟨hs,h.o.sublist z⟩
inductive Ms(vs:List V)(H:Hp)(Q:VK)(E:XK):Prop
 |mk (a p w:Int) (_:vs=[.int a,.int p,.int w]) (_:Dh a p) (_:GX 0 w) (_:Q (.int (a*p/w)) H):Ms vs H Q E
def Ez:kI P w K mg base CX0 1 A.bf D.bf ["amount", "part", "whole"] Ms:=by
 refine T.di.F.okv Wv λ_ _ _ _ H vs Q E z h=>?_
 ·obtain⟨a,p,q,rfl,h1,h2,k⟩:=h
  refine⟨_,(je (jq (jw nP (jw nq (pvD 0) (pvD 1)) (pvD 2)))),?_⟩;walk_at "a";exact⟨h1,h2,k⟩
inductive Gb(A:Adr)(vs:List V)(H:Hp)(Q:VK)(E:XK):Prop
 |mk (x:Addr) (d:jD) (p:Int) (_:vs=[.ref x,.int p]) (_:nD A H x d) (_:Dh d.c p) (_:GX 0 d.p) (_:∀t y v H',Same H H'->H t=none->H' t=some (.tup [.ref y,v])->nD A H' y ⟨d.n,d.s,p,d.c*p/d.p⟩->(p=d.p->v=.non)->(p≠d.p->∃z,v=.ref z/\nD A H' z ⟨d.n,d.s,d.p - p,d.c - d.c*p/d.p⟩)->Q (.ref t) H'):Gb A vs H Q E
def QD:kI P w K mg base CX0 3 A.bk D.bk ["self", "pieces"] (Gb A):=by
 refine T.dn.ok Ab (by walk_at "v") (λ_ _ _ s H vs Q E hr h=>?_)
 ·obtain⟨x,⟨n,s,p,c⟩,p',rfl,⟨dx,hx⟩,m1,m2,k⟩:=h
  refine ⟨_,(jb (jm (i:=2) Ab.nd rfl orl (pcg (Ez T) hr T.di (JB T) (iY (fv K 0) (pav 1 (iY (fv K 0) jc)))))
   (jb (jm (i:=3) Ab.nd rfl orl (mF T.f0 (kW (K:=K) T) (hr.mono (by decide)) (by rfl) T.ek (lu T) .nil jR (iY (fv K 0) (iY (fv K 0) (pav 1 (pav 2 jc))))))
   (jb (kE (jl (nA) (pvD 1) (fv K 0) (jx _)) (je (jq (nM (pav 3 (iY mR jc))))) jC)
   (je (jq (nM (pav 3 (iY (mF T.f0 (kW (K:=K) T) (hr.mono (by decide)) (by rfl) T.ek (lu T) .nil jR (iY (fv K 0) (iY (fv K 0) (iY (jw pq (fv K 0) (pvD 1)) (iY (jw pq (fv K 0) (pvD 2)) jc))))) jc)))))))),?_⟩
  simp only[start_eq];walk_at "m";refine rd hx T.fK T.fO (by rfl) (rd hx T.fK T.fN (by rfl) ⟨c,p',p,rfl,m1,m2,?_⟩);walk_at "m";refine rd hx T.fK T.fL (by rfl) (rd hx T.fK T.fM (by rfl) (λy dy hy ab _=>?_));refine qQ (A:=A) ⟨n,s,p',c*p'/p⟩ hy ab λH1 s1 hY=>?_;have q:=s1 _ _ hx;walk_at "m";refine rd q T.fK T.fN (by rfl) ⟨rfl,?_⟩;by_cases e:p'=p
  ·rw[zi (by simp[e])]
   refine⟨sz,λt ht=>k t y .non _ (s1.trans (ji ht)) (s1.free ht) jd (hY.same (ji ht)) (λ_=>rfl) λh=>(h e).elim⟩
  ·rw[zf (by simp[e])]
   refine rd q T.fK T.fL (by rfl) (rd q T.fK T.fM (by rfl) (rd q T.fK T.fN (by rfl) ⟨_,rfl,rd q T.fK T.fO (by rfl) ⟨_,rfl,λz dz hz aa _=>?_⟩⟩));refine qQ (A:=A) ⟨n,s,p - p',c - c*p'/p⟩ hz aa λH2 s2 hZ=>⟨sz,λt ht=>?_⟩;exact k t y (.ref z) _ (s1.trans (s2.trans (ji ht))) ((s1.trans s2).free ht) jd (hY.same (s2.trans (ji ht))) (λh=>(e h).elim) λ_=>⟨z,rfl,hZ.same (ji ht)⟩
noncomputable def shares(a W:Int):Int->List Int->List Int
 |_,[]=>[]
 |t,w::r=>(a*(t+w)/W - a*t/W)::shares a W (t+w) r
theorem Ik(a W:Int):∀(t:Int)(l:List Int)(x:Int),shares a W t (l++[x])=shares a W t l++[a*(t+l.sum+x)/W - a*(t+l.sum)/W]
 |t,[],x=>by simp[shares]
 |t,y::r,x=>by
  show _::shares a W (t+y) (r++[x])=_::shares a W (t+y) r++_;rw[Ik a W (t+y) r x,zI,Int.add_assoc t y r.sum];rfl
theorem Bt(a W:Int):∀(t:Int)(l:List Int),(shares a W t l).length=l.length
 |_,[]=>rfl
 |t,y::r=>congrArg (·+1) (Bt a W (t+y) r)
theorem Fi(a W:Int):∀(t:Int)(l:List Int),(shares a W t l).sum=a*(t+l.sum)/W - a*t/W
 |t,[]=>by simp[shares]
 |t,y::r=>by
  show((a*(t+y)/W - a*t/W)::shares a W (t+y) r).sum=_;rw[zI,Fi a W (t+y) r,zI,Int.add_assoc t y r.sum];lia
theorem pI:∀{l:List Int},(∀x∈l,0<=x)->0<=l.sum
 |[],_=>by simp
 |x::r,h=>by
  have h1:=h x zg;have h2:=pI (l:=r) λy q=>h y (zn _ q);rw[zI];lia
def TF{l:List Int}(h:∀x∈l,0<=x)(i:Nat):0<=(l.take i).sum/\(l.take i).sum<=l.sum:=by
 have h1:0<=(l.take i).sum:=pI λx q=>h x (yZ q);have h2:0<=(l.drop i).sum:=pI λx q=>h x (List.mem_of_mem_drop q);have z:l.sum=(l.take i).sum+(l.drop i).sum:=by rw[<-yX,zzo]
 lia
theorem Xd{B:Int}:∀{l:List Int},(∀x∈l,x<=B)->l.sum<=(l.length:Int)*B
 |[],_=>by simp
 |x::r,h=>by
  have h1:=h x zg;have h2:=Xd (l:=r) λy q=>h y (zn _ q);rw[zI,zG,yyr,Int.add_mul];lia
inductive uX(K:Fg_)(vs:List V)(H:Hp)(Q:VK)(E:XK):Prop
 |mk (l:Addr) (ws:List Int) (_:vs=[.ref l]) (_:SqL K H l (ws.map V.int)) (_:(∀x∈ws,0<=x)) (_:0<ws.sum) (_:ws.length<=1000) (_:∀H',Same H H'->Q (.int ws.sum) H'):uX K vs H Q E
def Fg:kI P w K mg base CX0 1 A.be D.be ["weights"] (uX K):=by
 refine T.dh.F.okv vB λ_ _ _ _ H vs Q E hr h=>?_
 ·obtain⟨l,ws,rfl,hS,h0,hp,hl,k⟩:=h
  refine ⟨_,(jb (kE (qp (jy (Qn (K:=K) rfl) (by rfl) T.d8 (by decide+kernel) (iY (jW (cap:=[none]) (N':=["weight"]) rfl (by walk_at "c") (jP (K:=K) (pv 0)) (λ_ _ _ _=>(jk (i:=0) nd1 rfl orl orr)) (λ_ _ _ _=>kh) (λ_ _ _ _=>(uP (Dr) (pvD 0) jf (jx _)))) jc))) (je (mC)) jC)
   (jb (jm (i:=1) vB.nd rfl orl (jy (lK (K:=K) rfl) (by rfl) T.d6 (by decide+kernel) (pav 0 jc)))
   (jb (kE (jl (nA) (pvD 1) jf (jx _)) (je (mC)) jC)
   (je (jq (pvD 1)))))),?_⟩
  walk_at "a";refine⟨⟨_,hS⟩,?_⟩;refine lU.list (xs:=ws.map V.int) (λσ=>∃v,σ=[v]) (λ_=>true) (λv=>match v with|.int z=> .bl (decide (z<0))|_=> .non) hS ⟨none,rfl⟩ (by rw[za,zw];lia) ?_ ?_
  ·rintro x hx σ H5 R1 R2 ⟨v,rfl⟩ sm k1 k2
   obtain⟨c,_,rfl⟩:=zc.mp hx;walk_at "a";exact k1 rfl _ _ ⟨_,rfl⟩ (same_refl _)
  ·intro Da H' hD sm e
   rw[JS,zu]at e;walk_at "i";refine⟨ws.map λz=>decide (z<0),jh (by rw[e,zu];rfl),?_⟩
   have q:(ws.map λz=>decide (z<0)).any id=false:=by
    rw[List.any_eq_false];intro b hb;obtain⟨z,hz,rfl⟩:=zc.mp hb;have:=h0 z hz;simp only[id,decide_eq_true_eq];lia
   rw[q];walk_at "a";refine⟨ws,sm.seq hS,?_⟩;rw[zf (by lia)];exact k H' sm
inductive UW(K:Fg_)(vs:List V)(H:Hp)(Q:VK)(E:XK):Prop
 |mk (a:Int) (l:Addr) (ws:List Int) (_:vs=[.int a,.ref l]) (_:SqL K H l (ws.map V.int)) (_:(∀x∈ws,0<=x)) (_:0<ws.sum) (_:ws.length<=1000) (_:Bd a) (_:Bd ws.sum) (_:Qy H Q (shares a ws.sum 0 ws)):UW K vs H Q E
def Vv:kI P w K mg base CX0 2 A.bg D.bg ["amount", "weights"] (UW K):=by
 refine T.dj.F.okv qX λ_ _ _ _ H vs Q E hr h=>?_
 ·obtain⟨a,l,ws,rfl,hS,h0,hp,hl,ha,hw,k⟩:=h
  refine ⟨_,(jb (jm (i:=2) qX.nd rfl orl (pcg (Fg T) hr T.dh (GF T) (pav 1 jc)))
   (jb (jm (i:=3) qX.nd rfl orl (lE jc))
   (jb (jm (i:=4) qX.nd rfl orl jf)
   (jb (jm (i:=5) qX.nd rfl orl jf)
   (jb (oh zR rfl (jP (K:=K) (pv 1)) (jk (i:=6) qX.nd rfl orl)
    (jb (jm (i:=4) qX.nd rfl orl (jw jZ (pvD 4) (pvD 6)))
    (jb (jm (i:=7) qX.nd rfl orl (pcg (Ez T) hr T.di (JB T) (pav 0 (pav 4 (pav 2 jc)))))
    (jb (jA (tD (K:=K) zP zV zW mJ (pvD 3) (iY (jw pq (pvD 7) (pvD 5)) jc)))
    (je (jm (i:=5) qX.nd rfl orl (pvD 7)))))))
   (je (jq (pvD 3)))))))),?_⟩
  walk_at "a";refine⟨l,ws,rfl,hS,h0,hp,hl,λH1 s1=>?_⟩;walk_at "a";refine⟨zM _,λp aa=>⟨⟨_,(s1.trans (ji aa)).seq hS⟩,?_⟩⟩;have q:H p=none:=s1.free aa;have hd:GX 0 ws.sum:=hw.div hp
  refine qu (xs:=ws.map V.int) (λi σ H2=>(∃v6 v7,σ=[some (.int a),some (.ref l),some (.int ws.sum),some (.ref p),some (.int (ws.take i).sum),some (.int (a*(ws.take i).sum/ws.sum)),v6,v7])/\Same H H2/\H2 p=some (.lst ((shares a ws.sum 0 (ws.take i)).map V.int)))
   ⟨⟨none,none,by simp⟩,s1.upd q,by rw[jd];simp[shares]⟩ (λi σ H2 _ ⟨_,s2,_⟩=>s2.seq hS) ?_ ?_
  ·rintro i y σ H2 hi ⟨⟨v6,v7,rfl⟩,s2,h2⟩
   obtain⟨x,rfl,ab⟩:=wg hi;have ac:i<ws.length:=(zk.mp ab).1;have ht:ws.take (i+1)=ws.take i++[x]:=by rw[zK,ab];rfl
   have z:(ws.take (i+1)).sum=(ws.take i).sum+x:=by rw[ht,yX];simp
   have hb:=TF h0 (i+1);rw[z]at hb;walk_at "a";refine⟨a,(ws.take i).sum+x,ws.sum,rfl,ha.mul (hw.of hb.1 hb.2),hd,?_⟩;walk_at "a";refine⟨tyL (jh h2),_,h2,?_,by rw[z],by rw[z],s2.upd q,?_⟩
   ·rw[za,Bt,zT]
    exact Qe (by lia)
   ·rw[jd,ht,Ik,zp,Int.zero_add]
    rfl
  ·rintro σ H2 ⟨⟨v6,v7,rfl⟩,s2,h2⟩
   rw[za,zX]at h2;walk_at "a";exact k p H2 s2 q h2
def Ei{ls:RL}{f:Addr×jD->Int}(z:acc.length=ls.length)(h:∀(i:Nat) v,acc[i]? =some v->∃l,ls[i]? =some l/\v=.int (f l)):acc=(ls.map f).map V.int:=by
 refine zzt (by simp[z]) λi h1 h2=>?_;obtain⟨l,q,e2⟩:=h i acc[i] (by simp);rw[e2];have h3:i<ls.length:=by lia
 have:ls[i]=l:=by
  rw[zq h3]at q;exact zy q
 simp[this]
inductive Mp(A:Adr)(vs:List V)(H:Hp)(Q:VK)(E:XK):Prop
 |mk (q:Addr) (ls:RL) (_:vs=[.ref q]) (_:H q=some (.lst (jH ls))) (_:lD A H ls) (_:ls.length<=100) (_:∀H',Same H H'->Q (.int ((ls.map (·.2)).map jD.c).sum) H'):Mp A vs H Q E
def Ey:kI P w K mg base CX0 1 A.aO D.aO ["lots"] (Mp A):=by
 refine T.cR.F.okv VR λ_ _ _ _ H vs Q E hr h=>?_
 ·obtain⟨q,ls,rfl,hq,hL,hl,k⟩:=h
  refine⟨_,(je (jq (jy (lK (K:=K) rfl) (by rfl) T.d6 (by decide+kernel) (iY (jW (cap:=[none]) (N':=["lot"]) rfl (by walk_at "c") (jP (K:=K) (pv 0)) (λ_ _ _ _=>(jk (i:=0) nd1 rfl orl orr)) (λ_ _ _ _=>kh) (λ_ _ _ _=>(fv K 0))) jc)))),?_⟩;walk_at "a";refine⟨⟨_,jh hq⟩,?_⟩;refine lU.listE (K:=K) (λσ=>∃a,σ=[a]) (λi v _=>∃l,ls[i]? =some l/\v=.int l.2.c) (jh hq) ⟨_,rfl⟩ (by rw[jr,zw];lia) ?_ ?_
  ·rintro Da i x hx σ H5 R ⟨_,rfl⟩ sm hD _ kk
   obtain⟨l,z,rfl⟩:=kO hx;obtain⟨dx,ab⟩:=(hL l (get_mem z)).same sm;walk_at "i";exact rd ab T.fK T.fO (by rfl) (kk _ _ H5 ⟨_,rfl⟩ (same_refl _) λH' _=>⟨l,z,rfl⟩)
  ·intro Da H' acc hD sm hA aa hF
   rw[Ei (f:=λl=>l.2.c) (by rw[aa,jr]) hF]at hA;have ec:(ls.map (·.2)).map jD.c=ls.map (λl=>l.2.c):=by rw[zu];rfl
   rw[ec]at k;walk_at "a";exact⟨_,jh hA,k H' sm⟩
inductive Gj(A:Adr)(vs:List V)(H:Hp)(Q:VK)(E:XK):Prop
 |mk (q:Addr) (ls:RL) (_:vs=[.ref q]) (_:H q=some (.lst (jH ls))) (_:lD A H ls) (_:ls.length<=100) (_:∀H',Same H H'->Q (.int ((ls.map (·.2)).map jD.p).sum) H'):Gj A vs H Q E
def Rt:kI P w K mg base CX0 1 A.aS D.aS ["lots"] (Gj A):=by
 refine T.cV.F.okv PJ λ_ _ _ _ H vs Q E hr h=>?_
 ·obtain⟨q,ls,rfl,hq,hL,hl,k⟩:=h
  refine⟨_,(je (jq (jy (lK (K:=K) rfl) (by rfl) T.d6 (by decide+kernel) (iY (jW (cap:=[none]) (N':=["lot"]) rfl (by walk_at "c") (jP (K:=K) (pv 0)) (λ_ _ _ _=>(jk (i:=0) nd1 rfl orl orr)) (λ_ _ _ _=>kh) (λ_ _ _ _=>(fv K 0))) jc)))),?_⟩;walk_at "a";refine⟨⟨_,jh hq⟩,?_⟩;refine lU.listE (K:=K) (λσ=>∃a,σ=[a]) (λi v _=>∃l,ls[i]? =some l/\v=.int l.2.p) (jh hq) ⟨_,rfl⟩ (by rw[jr,zw];lia) ?_ ?_
  ·rintro Da i x hx σ H5 R ⟨_,rfl⟩ sm hD _ kk
   obtain⟨l,z,rfl⟩:=kO hx;obtain⟨dx,ab⟩:=(hL l (get_mem z)).same sm;walk_at "i";exact rd ab T.fK T.fN (by rfl) (kk _ _ H5 ⟨_,rfl⟩ (same_refl _) λH' _=>⟨l,z,rfl⟩)
  ·intro Da H' acc hD sm hA aa hF
   rw[Ei (f:=λl=>l.2.p) (by rw[aa,jr]) hF]at hA;have ec:(ls.map (·.2)).map jD.p=ls.map (λl=>l.2.p):=by rw[zu];rfl
   rw[ec]at k;walk_at "a";exact⟨_,jh hA,k H' sm⟩
noncomputable def lH(ls:RL):Int:=(ls.map (·.2.c)).sum
def nG(ls:RL):lH ls=((ls.map (·.2)).map jD.c).sum:=by unfold lH;rw[zu];rfl
def Qc(l:Addr×jD)(ls:RL):lH (l::ls)=l.2.c+lH ls:=zI
theorem CV:∀{ls:RL},(∀l∈ls,0<=l.2.c)->0<=lH ls
 |[],_=>yR _
 |l::ls,h=>by
  have h1:=h l (.head _);have h2:=CV (ls:=ls) λq z=>h q (.tail _ z);rw[Qc];lia
theorem Nu:∀{ls:RL}{l:Addr×jD},(∀l∈ls,0<=l.2.c)->l∈ls->l.2.c<=lH ls
 |q::ls,l,h,z=>by
  rw[Qc];have h2:=CV (ls:=ls) λq hq=>h q (.tail _ hq);rcases zx.mp z with rfl|z
  ·lia
  ·have:=Nu (ls:=ls) (λq hq=>h q (.tail _ hq)) z
   have:=h q (.head _);lia
theorem RD{a W:Int}(ha:0<=a)(hW:0<W):∀{l:List Int}{t:Int},(∀x∈l,0<=x)->∀y∈shares a W t l,0<=y
 |[],_,_,y,q=>(zj q).elim
 |x::r,t,h,y,q=>by
  rcases zx.mp q with rfl|q
  ·have h1:=h x (.head _)
   have:a*t/W<=a*(t+x)/W:=zzS hW (zze (by lia) ha);lia
  ·exact RD ha hW (λz hz=>h z (.tail _ hz)) y q
theorem ajq{H:Hp}:∀{acc:List V}{ls:RL}{cs:List Int},acc.length=ls.length->cs.length=ls.length->(∀(i:Nat) v,acc[i]? =some v->∃b l d,ls[i]? =some l/\v=.ref b/\nD A H b d/\d.n=l.2.n/\d.p=l.2.p/\cs[i]? =some d.c/\d.s=l.2.s)->∃q:RL,acc=jH q/\lD A H q/\Sim ls q/\lH q=cs.sum/\(∀m∈q,m.2.c∈cs)/\pls q=pls ls
 |[],ls,cs,hl,hc,_=>by
  cases ls with
  |nil=>cases cs with
   |nil=>exact⟨[],rfl,λr h=>(zj h).elim,rfl,rfl,(λr h=>(zj h).elim),rfl⟩
   |cons _ _=>simp at hc
  |cons _ _=>simp at hl
 |v::acc,ls,cs,hl,hc,h=>by
  cases ls with
  |nil=>simp at hl
  |cons l ls=>
   cases cs with
   |nil=>simp at hc
   |cons c cs=>
    obtain⟨b,l',d,e,rfl,hb,e1,e2,e3,e4⟩:=h 0 v rfl;cases e;cases e3;obtain⟨q,g1,g2,g3,g4,g5,g6⟩:=ajq (acc:=acc) (ls:=ls) (cs:=cs) (by simpa using hl) (by simpa using hc) λi v hv=>h (i+1) v hv;refine⟨(b,d)::q,by rw[g1];rfl,λr z=>?_,?_,?_,λr z=>?_,?_⟩
    ·rcases zx.mp z with rfl|z
     ·exact hb
     ·exact g2 r z
    ·show Wq (b,d)::q.map Wq=Wq l::ls.map Wq
     rw[g3];unfold Wq;rw[e1,e2]
    ·show d.c+lH q=d.c+cs.sum
     rw[g4]
    ·rcases zx.mp z with rfl|z
     ·exact .head _
     ·exact .tail _ (g5 r z)
    ·show plD d::pls q=plD l.2::pls ls
     rw[g6];unfold plD;rw[e1,e4]
inductive Qj(A:Adr)(vs:List V)(H:Hp)(Q:VK)(E:XK):Prop
 |mk (x q:Addr) (ls:RL) (_:vs=[.ref x,.ref q]) (_:H q=some (.lst (jH ls))) (_:lD A H ls) (_:ls.length<=100) (_:(∀l∈ls,1<=l.2.p)) (_:(∀l∈ls,0<=l.2.c)) (_:Bd (pcs ls)) (_:Bd (lH ls)) (_:∀p ms H',Same H H'->H p=none->H' p=some (.lst (jH ms))->lD A H' ms->Sim ls ms->lH ms=lH ls->(∀l∈ms,0<=l.2.c)->pls ms=pls ls->Q (.ref p) H'):Qj A vs H Q E
def sO:kI P w K mg base CX0 1 A.bi D.bi ["self", "lots"] (Qj A):=by
 refine T.dl.okv Jw λ_ _ _ _ H vs Q E hr h=>?_
 ·obtain⟨x,q,ls,rfl,hq,hL,hl,z,hc,hs,aa,k⟩:=h
  refine⟨_,(je (jq (mZ (vI (K:=K)) (by rfl) T.d5 (by decide+kernel) (pav 1 jc)))),?_⟩;simp only[start_eq];walk_at "i";exact⟨_,.inl (jh hq),λp z=>k p ls _ (ji z) z jd (hL.same (ji z)) rfl rfl hc rfl⟩
def Gx:kI P w K mg base CX0 3 A.bj D.bj ["self", "lots"] (Qj A):=by
 refine T.dm.okv wL λ_ _ _ _ H vs Q E hr h=>?_
 ·obtain⟨x,q,ls,rfl,hq,hL,hl,hp,hc,hs,aq,k⟩:=h
  refine ⟨_,(jb (kE (jl (nA) (jy (lX (K:=K)) (by rfl) T.dT (by decide+kernel) (pav 1 jc)) jf (jx _)) (je (jq (lE jc))) jC)
   (jb (jm (i:=2) wL.nd rfl orl (pcg (Vv T) hr T.dj (aal T) (iY (pcg (Ey T) hr T.cR (JG T) (pav 1 jc)) (iY (jW (cap:=[none]) (N':=["lot"]) rfl (by walk_at "c") (jP (K:=K) (pv 1)) (λ_ _ _ _=>(jk (i:=0) nd1 rfl orl orr)) (λ_ _ _ _=>kh) (λ_ _ _ _=>(fv K 0))) jc))))
   (je (jq (jW (cap:=[none,none]) (N':=["lot", "cost"]) rfl (by walk_at "c") (Mz (K:=K) (by rfl) T.d0 (pav 1 (pav 2 jc))) (λ_ _ _ _=>(pY (K:=K) (n:=2) rfl (jG (jk (i:=0) (show(["lot", "cost"]:List Str).Nodup from by decide+kernel) rfl orl orr) (jG (jk (i:=1) (show(["lot", "cost"]:List Str).Nodup from by decide+kernel) rfl orl orr) oF)))) (λ_ _ _ _=>kh) (λ_ _ _ _=>(mF T.f0 (kW (K:=K) T) (hr.mono (by decide)) (by rfl) T.ek (lu T) .nil jR (iY (fv K 0) (iY (fv K 0) (iY (fv K 0) (pav 1 jc))))))))))),?_⟩
  simp only[start_eq];walk_at "n";refine⟨_,.inl (jh hq),?_⟩;rw[jr];have lz:∀n:Nat,n<=1000->n<=sizeLine:=λn h=>by rw[zw];lia
  by_cases h0:ls=[]
  ·subst h0
   rw[zi (by simp)];exact⟨lz _ (by decide),λp hp=>k p [] _ (ji hp) hp jd (λr h=>(zj h).elim) rfl rfl hc rfl⟩
  ·have av:0<ls.length:=yP.mpr h0
   rw[zf (by lia)];have af:=xN hp;walk_at "n";refine⟨q,ls,rfl,hq,hL,hl,λH1 s1=>⟨⟨_,jh (s1 _ _ hq)⟩,?_⟩⟩;refine lU.listE (K:=K) (λσ=>∃a,σ=[a]) (λi v _=>∃l,ls[i]? =some l/\v=.int l.2.p) (jh (s1 _ _ hq)) ⟨_,rfl⟩ (lz _ (by rw[jr];lia)) ?_ ?_
   ·rintro Da i x hx σ H5 R ⟨_,rfl⟩ sm hD _ kk
    obtain⟨l,ab,rfl⟩:=kO hx;obtain⟨dx,aa⟩:=(hL l (get_mem ab)).same (s1.trans sm);walk_at "i";exact rd aa T.fK T.fN (by rfl) (kk _ _ H5 ⟨_,rfl⟩ (same_refl _) λH' _=>⟨l,ab,rfl⟩)
   ·intro Da H2 acc hD sm hA ak as
    rw[Ei (f:=λl=>l.2.p) (by rw[ak,jr]) as]at hA;have S2:=s1.trans sm;refine⟨_,Da,_,rfl,jh hA,λy hy=>?_,by show 0<pcs ls;lia,by rw[za];lia,by rw[<-nG];exact aq,hs,λpc H3 s3 ax ae=>?_⟩
    ·obtain⟨l,ab,rfl⟩:=zc.mp hy
     have:=hp l ab;lia
    have S3:=S2.trans s3
    try dsimp only
    rw[ap_ret];walk_at "i";refine⟨⟨_,jh (S3 _ _ hq)⟩,⟨_,jh ae⟩,?_⟩;obtain⟨cs,ad⟩:∃cs,cs=shares ((ls.map (·.2)).map jD.c).sum (ls.map λl=>l.2.p).sum 0 (ls.map λl=>l.2.p):=⟨_,rfl⟩;have ai:cs.length=ls.length:=by rw[ad,Bt,za]
    rw[<-ad]at ae;refine lU.zipE (K:=K) (λσ=>∃a b,σ=[a,b]) (λi v H'=>∃b l d,ls[i]? =some l/\v=.ref b/\nD A H' b d/\d.n=l.2.n/\d.p=l.2.p/\cs[i]? =some d.c/\d.s=l.2.s) (jh (S3 _ _ hq)) (jh ae) (by rw[jr,za,ai]) ⟨_,_,rfl⟩ (lz _ (by rw[jr];lia)) ?_ ?_
    ·rintro Db i x y hx hy σ H5 p R ⟨_,_,rfl⟩ al ag ⟨akJ,ar⟩ hp kk
     obtain⟨l,ab,rfl⟩:=kO hx;obtain⟨c,rfl,hc⟩:=wg hy;obtain⟨dx,aa⟩:=(hL l (get_mem ab)).same (S3.trans al);have aa:=ji (o:=.tup [V.ref l.1,V.int c]) hp _ _ aa;have af:(upd H5 p (.tup [V.ref l.1,V.int c])) p=some (.tup [V.ref l.1,V.int c]):=jd;have aj:=ji (o:=.tup [V.ref l.1,V.int c]) hp _ _ ar;generalize upd H5 p (.tup [V.ref l.1,V.int c])=H6 at aa af aj kk;walk_at "i";refine⟨_,jE af,rfl,_,_,rfl,_,_,rfl,rfl,?_⟩;refine rd aa T.fK T.fL (by rfl) (rd aa T.fK T.fM (by rfl) (rd aa T.fK T.fN (by rfl) (λz dz hz ao _=>?_)));exact qQ (A:=A) ⟨l.2.n,l.2.s,l.2.p,c⟩ hz ao λH7 s7 hZ=>kk (.ref z) _ H7 ⟨_,_,rfl⟩ s7 λH' hb=>⟨z,l,_,ab,rfl,hZ.but (λe=>by rw[e,aj]at hz;cases hz) hb,rfl,rfl,hc,rfl⟩
    ·intro Db H4 aw ag am au ac ap
     rw[jr]at ac;obtain⟨ms,q1,q2,q3,q4,q5,q6⟩:=ajq ac ai ap;have an:0<(ls.map λl=>l.2.p).sum:=by show 0<pcs ls;lia
     refine k Db ms H4 (S3.trans am) (S3.free ag) (q1▸au) q2 q3 ?_ (λl hl=>RD (a:=((ls.map (·.2)).map jD.c).sum) (by rw[<-nG];exact CV hc) an (l:=ls.map λl=>l.2.p) (t:=0) (λy hy=>?_) _ (ad▸q5 l hl)) q6
     rotate_left
     ·obtain⟨l',ah,rfl⟩:=zc.mp hy
      have:=hp l' ah;lia
     have hW:(ls.map λl=>l.2.p).sum≠0:=by show pcs ls≠0;lia
     rw[q4,ad,Fi,Int.zero_add,y9 _ hW,Int.mul_zero,Int.zero_ediv,Int.sub_zero,nG]
inductive wO(A:Adr)(vs:List V)(H:Hp)(Q:VK)(E:XK):Prop
 |mk (x y:Addr) (d e:jD) (_:vs=[.ref x,.ref y]) (_:nD A H x d) (_:nD A H y e) (_:Dh d.c e.p) (_:Dh e.c d.p) (_:Q (.bl (decide (d.c*e.p>e.c*d.p))) H):wO A vs H Q E
def GQ:kI P w K mg base CX0 1 A.bp D.bp ["self", "other"] (wO A):=by
 refine T.dt.ok GC (by walk_at "v") (λ_ _ _ s H vs Q E hr h=>?_)
 ·obtain⟨x,y,⟨n,s,p,c⟩,⟨n',s',p',c'⟩,rfl,⟨dx,z⟩,⟨dy,q⟩,m1,m2,k⟩:=h
  refine⟨_,(je (jq (uP (Fj) (jw nq (fv K 0) (fv K 1)) (jw nq (fv K 1) (fv K 0)) (jx _)))),?_⟩;walk_at "a";refine rd z T.fK T.fO (by rfl) (?_);refine rd q T.fK T.fN (by rfl) (?_);exact⟨_,rfl,_,rfl,m1,rd q T.fK T.fO (by rfl) (rd z T.fK T.fN (by rfl) ⟨_,rfl,_,rfl,m2,k⟩)⟩
abbrev PL:=List (Addr×Int×Int)
noncomputable def Ld(ps:PL):List V:=ps.map λr=>V.ref r.1
def amC(H:Hp)(ps:PL):Prop:=∀r∈ps,H r.1=some (.tup [.int r.2.1,.int r.2.2])
def Yz{ps:PL}(h:(Ld ps)[i]? =some y):∃r,ps[i]? =some r/\y=.ref r.1:=by
 unfold Ld at h;rw[zo]at h
 cases e:ps[i]? with
 |none=>rw[e]at h;cases h
 |some r=>rw[e]at h;exact⟨r,rfl,(zy h).symm⟩
def QV(ps:PL):(Ld ps).length=ps.length:=by unfold Ld;rw[za]
noncomputable def Kz:List jD->Int->List (Int×Int)
 |[],_=>[]
 |d::ds,w=>if w<=0 then[]else(d.n,min d.p w)::Kz ds (w - min d.p w)
def aaz{ds:List jD}{w:Int}(h:w<=0):Kz ds w=[]:=by
 cases ds with
 |nil=>rfl
 |cons d ds=>rw[Kz,zi h]
inductive wH(A:Adr)(vs:List V)(H:Hp)(Q:VK)(E:XK):Prop
 |mk (q:Addr) (ls:RL) (w:Int) (_:vs=[.ref q,.int w]) (_:H q=some (.lst (jH ls))) (_:lD A H ls) (_:ls.length<=100) (_:∀pk ps H',Same H H'->H pk=none->H' pk=some (.lst (Ld ps))->amC H' ps->ps.map (·.2)=Kz (ls.map (·.2)) w->Q (.ref pk) H'):wH A vs H Q E
def qy:kI P w K mg base CX0 1 A.bm D.bm ["lots", "pieces"] (wH A):=by
 refine T.dq.F.okv lW λ_ _ _ _ H vs Q E hr h=>?_
 ·obtain⟨q,ls,w,rfl,hq,hL,hl,k⟩:=h
  refine ⟨_,(jb (jm (i:=2) lW.nd rfl orl (lE jc))
   (jb (jm (i:=3) lW.nd rfl orl (pvD 1))
   (jb (oh zR rfl (jP (K:=K) (pv 0)) (jk (i:=4) lW.nd rfl orl)
    (jb (kE (jl (alO) (pvD 3) jf (jx _)) (je (aix)) jC)
    (jb (jm (i:=5) lW.nd rfl orl (jy (Ah rfl) (by rfl) T.dV (by decide+kernel) (iY (fv K 4) (pav 3 jc))))
    (jb (jA (tD (K:=K) zP zV zW mJ (pvD 2) (iY (nM (iY (fv K 4) (pav 5 jc))) jc)))
    (je (jm (i:=3) lW.nd rfl orl (jw pq (pvD 3) (pvD 5))))))))
   (je (jq (pvD 2)))))),?_⟩
  simp only[start_eq];walk_at "m";refine⟨sz,λpk aa=>?_⟩;have S1:=ji (o:=.lst []) aa;have h1:(upd H pk (.lst [])) pk=some (.lst []):=jd;generalize upd H pk (.lst [])=H1 at S1 h1;walk_at "m";rw[ap_seq,ap_for];walk_at "i";refine⟨⟨_,jh (S1 _ _ hq)⟩,?_⟩
  refine Eg.listN (K:=K) (a:=q) (xs:=jH ls) (λi σ Hx=>∃(ps:PL)(wx:Int)(v4 v5:Option V),σ=[some (.ref q),some (.int w),some (.ref pk),some (.int wx),v4,v5]/\Same H Hx/\Hx pk=some (.lst (Ld ps))/\amC Hx ps/\ps.length=i/\ps.map (·.2)++Kz ((ls.map (·.2)).drop i) wx=Kz (ls.map (·.2)) w)
   ⟨[],w,_,_,rfl,S1,h1,λr h=>(zj h).elim,rfl,rfl⟩ (λi σ Hx _ ⟨_,_,_,_,_,s,_⟩=>jh (s _ _ hq)) ?_ ?_
  ·rintro i y σ Hx hy ⟨ps,wx,v4,v5,rfl,Sx,z,hP,ad,he⟩ N hN
   obtain⟨l,ac,rfl⟩:=kO hy;obtain⟨dy,ae⟩:=(hL l (get_mem ac)).same Sx;have af:i<ls.length:=(zk.mp ac).1
   have hd:(ls.map (·.2)).drop i=l.2::(ls.map (·.2)).drop (i+1):=by
    rw[zzu (by simpa using af)];congr 1;rw[ye,(zk.mp ac).2]
   walk_at "i";walk_at "m";by_cases hw:wx<=0
   ·rw[zi hw]
    refine k pk ps Hx Sx aa z hP ?_;rw[aaz hw,yk]at he;exact he
   ·rw[zf hw]
    walk_at "m";refine rd ae T.fK T.fN (by rfl) (?_);refine⟨_,_,rfl,?_⟩;walk_at "m";refine⟨.inl ⟨rfl,_,jh z⟩,rd ae T.fK T.fL (by rfl) ⟨sz,λt ht=>⟨_,ji ht _ _ z,by rw[QV,zw];lia,?_⟩⟩⟩;have em:(if wx<l.2.p then wx else l.2.p)=min l.2.p wx:=by split<;>lia
    rw[em];have ab:=ji (o:=.tup [V.int l.2.n,V.int (min l.2.p wx)]) ht;have ag:pk≠t:=jY z ht;refine hN _ _ ⟨ps++[(t,l.2.n,min l.2.p wx)],_,_,_,rfl,(Sx.trans ab).upd aa,?_,λr hr=>?_,by rw[zC,ad];rfl,?_⟩
    ·rw[jd];unfold Ld;rw[zp];rfl
    ·rcases zD.mp hr with hr|hr
     ·have e1:=hP r hr
      exact(jn λe=>by rw[e,z]at e1;cases e1).trans (ab _ _ e1)
     ·obtain rfl:=zr.mp hr
      exact(jn ag.symm).trans jd
    ·rw[hd,Kz,zf hw]at he
     rw[zp,yL,<-he];rfl
  ·rintro σ Hx ⟨ps,wx,v4,v5,rfl,Sx,z,hP,ad,he⟩
   walk_at "a";refine k pk ps Hx Sx aa z hP ?_;rw[zzJ (by rw[za,jr];exact zm _),Kz,yk]at he;exact he
structure PkS(ls:RL)(ks:List (Int×Int))(w:Int):Prop where
 u:(ks.map (·.1)).Nodup
 h:∀k∈ks,∃l∈ls,l.2.n=k.1/\1<=k.2/\k.2<=l.2.p
 s:(ks.map (·.2)).sum=w
def PkS.perm{ls q:RL}{ks:List (Int×Int)}{w:Int}(h:PkS ls ks w)(p:ls.Perm q):PkS q ks w:=⟨h.u,λk z=>let⟨l,a,b⟩:=h.h k z;⟨l,p.mem_iff.mp a,b⟩,h.s⟩
theorem Bp:∀{ls:RL}{w:Int},(ls.map (·.2.n)).Nodup->(∀l∈ls,1<=l.2.p)->0<=w->w<=pcs ls->PkS ls (Kz (ls.map (·.2)) w) w
 |[],w,_,_,h0,h1=>by
  have:w=0:=by have:pcs []=0:=rfl;lia
  subst this;exact⟨.nil,λk h=>(zj h).elim,rfl⟩
 |l::ls,w,hu,hp,h0,h1=>by
  rw[zl,Kz];split
  ·have:w=0:=by lia
   subst this;exact⟨.nil,λk h=>(zj h).elim,rfl⟩
  ·rename_i hw
   have hl:=hp l (.head _);rw[Nr]at h1;have hu':=zN.mp hu;have aa:=xN (ls:=ls) λq hq=>hp q (.tail _ hq);have ih:=Bp (ls:=ls) (w:=w - min l.2.p w) hu'.2 (λq hq=>hp q (.tail _ hq)) (by lia) (by lia);refine⟨zN.mpr ⟨λz=>?_,ih.u⟩,λk hk=>?_,?_⟩
   ·obtain⟨k,hk,e⟩:=zc.mp z
    obtain⟨q,hq,e2,_⟩:=ih.h k hk;exact hu'.1 (zc.mpr ⟨q,hq,e2.trans e⟩)
   ·rcases zx.mp hk with rfl|hk
    ·exact⟨l,.head _,rfl,by show 1<=min l.2.p w;lia,by show min l.2.p w<=_;lia⟩
    ·obtain⟨q,hq,r⟩:=ih.h k hk
     exact⟨q,.tail _ hq,r⟩
   ·rw[zl,zI,ih.s]
    show min l.2.p w+_=w;lia
inductive wQ(A:Adr)(vs:List V)(H:Hp)(Q:VK)(E:XK):Prop
 |mk (q:Addr) (ls:RL) (_:vs=[.ref q]) (_:H q=some (.lst (jH ls))) (_:lD A H ls) (_:ls.length<=100) (_:(∀l∈ls,1<=l.2.p/\Bd l.2.p/\Bd l.2.c)) (_:∀p ms H',Same H H'->H p=none->H' p=some (.lst (jH ms))->lD A H' ms->ms.Perm ls->Q (.ref p) H'):wQ A vs H Q E
def Gs:kI P w K mg base CX0 2 A.bq D.bq ["lots"] (wQ A):=by
 refine T.du.F.okv ou λ_ _ _ _ H vs Q E hr h=>?_
 ·obtain⟨q,ls,rfl,hq,hL,hl,hp,k⟩:=h
  refine ⟨_,(jb (jm (i:=1) ou.nd rfl orl (lE jc))
   (jb (oh zR rfl (jP (K:=K) (pv 0)) (jk (i:=2) ou.nd rfl orr)
    (jb (nT (i:=3) ou.nd rfl rfl (cap:=[none,none,some 2]) (N':=["place", "other", "lot"]) rfl (by walk_at "c") (ZX (K:=K) (by rfl) T.dY (pav 1 jc)) (λ_ _ _ _=>(pY (K:=K) (n:=2) rfl (jG (jk (i:=0) (show(["place", "other", "lot"]:List Str).Nodup from by decide+kernel) rfl orl orr) (jG (jk (i:=1) (show(["place", "other", "lot"]:List Str).Nodup from by decide+kernel) rfl orl orr) oF)))) (λ_ _ _ _=>(ul (qp (jN (pv 2) (mc T.fK T.gw (GQ T) hr (HJ T) .nil) jR (pav 1 jc))))) (λ_ _ _ _=>(pvD 0)))
    (je (jA (tD (K:=K) zP PySem.F.slot_list_insert PySem.F.type_list_insert aaj (pvD 1) (iY (ahV (K:=K) (by rfl) (aky rfl (by rfl) T.dV (pav 3 jc) (jy (lX (K:=K)) (by rfl) T.dT (by decide+kernel) (pav 1 jc)))) (pav 2 jc)))))))
   (je (jq (pvD 1))))),?_⟩
  simp only[start_eq];walk_at "n";refine⟨sz,λpt af=>?_⟩;have S1:=ji (o:=.lst []) af;have h1:(upd H pt (.lst [])) pt=some (.lst []):=jd;generalize upd H pt (.lst [])=H1 at S1 h1
  try dsimp only
  rw[ap_seq,ap_for];walk_at "i";refine⟨⟨_,jh (S1 _ _ hq)⟩,?_⟩
  refine Eg.listN (K:=K) (a:=q) (xs:=jH ls) (λi σ Hx=>∃(ts:RL)(v2 v3:Option V),σ=[some (.ref q),some (.ref pt),v2,v3]/\Same H Hx/\Hx pt=some (.lst (jH ts))/\ts.Perm (ls.take i))
   ⟨[],_,_,rfl,S1,h1,.refl _⟩ (λi σ Hx _ ⟨_,_,_,_,s,_⟩=>jh (s _ _ hq)) ?_ ?_
  ·rintro i y σ Hx hi ⟨ts,v2,v3,rfl,Sx,hx,aa⟩ N hN
   obtain⟨l,ac,rfl⟩:=kO hi;obtain⟨dy,ah⟩:=(hL l (get_mem ac)).same Sx;have ap:i<ls.length:=(zk.mp ac).1;have ao:ts.length<=100:=by rw[aa.length_eq,zT];lia
   have al:∀m∈ts,m∈ls:=λm hm=>yZ (aa.mem_iff.mp hm);walk_at "n";refine⟨⟨_,jh hx⟩,?_⟩;refine lU.enumI (K:=K) (λσ=>∃a b,σ=[a,b,some (.ref l.1)]) (λj=>((ts.map (·.2))[j]?).any λe=>decide (l.2.c*e.p>e.c*l.2.p)) (jh hx) ⟨_,_,rfl⟩ (by rw[jr,zw];lia) ?_ ?_
   ·rintro j x am σ H5 qt R1 R2 ⟨_,_,rfl⟩ s5 an k1 k2
    obtain⟨m,hm,rfl⟩:=kO am;have ai:=al m (get_mem hm);have p1:=hp l (get_mem ac);have p2:=hp m ai;walk_at "i";refine⟨_,jE an,rfl,_,_,rfl,_,_,rfl,rfl,md (s5 _ _ ah) zg (by rfl) ⟨l.1,m.1,l.2,m.2,rfl,⟨dy,s5 _ _ ah⟩,(hL m ai).same (Sx.trans s5),p1.2.2.mul p2.2.1,p2.2.2.mul p1.2.1,_,rfl,?_⟩⟩;have ag:(((ts.map (·.2))[j]?).any λe=>decide (l.2.c*e.p>e.c*l.2.p))=decide (l.2.c*m.2.p>m.2.c*l.2.p):=by rw[zo,hm];rfl
    by_cases c:l.2.c*m.2.p>m.2.c*l.2.p
    ·rw[zi (zH c)]
     exact k1 (ag.trans (zH c)) _ H5 ⟨_,_,rfl⟩ (same_refl _)
    ·rw[zf (λz=>c (yf z))]
     exact k2 (ag.trans (zJ c)) _ H5 ⟨_,_,rfl⟩ (same_refl _)
   ·intro Dc H2 hD s2 ad
    rw[jr]at ad;obtain⟨js,ae⟩:∃js,js=(List.range ts.length).filter λj=>((ts.map (·.2))[j]?).any λe=>decide (l.2.c*e.p>e.c*l.2.p):=⟨_,rfl⟩;have aj:∀j∈js,j<ts.length:=λj hj=>yA.mp (yj.mp (ae▸hj)).1;have ak:js.Pairwise (·<·):=ae▸List.pairwise_lt_range.filter _;rw[<-ae]at ad;have ab:=s2 _ _ hx
    (try dsimp only)
    walk_at "i";refine⟨.inl ⟨rfl,_,jh ab⟩,_,.inl (jh ab),js.map λi:Nat=>(i:Int),jh (by rw[ad,zu];rfl),zY.mpr (ak.imp λh=>by lia),?_⟩;rw[jr]
    obtain ⟨n0,e0,aq⟩:∃n0:Nat,(js.map λi:Nat=>(i:Int)).headD (ts.length:Int)=n0/\n0<=ts.length:=by
     cases js with
     |nil=>exact⟨ts.length,rfl,zm _⟩
     |cons j js=>exact⟨j,rfl,zzC (aj j (.head _))⟩
    rw[e0];refine⟨pt,jH ts,(n0:Int),.ref l.1,rfl,rfl,ab,by lia,by rw[jr];lia,by lia,by rw[jr,zw];lia,hN _ _ ⟨ts.take n0++l::ts.drop n0,_,_,rfl,(Sx.trans s2).upd af,?_,?_⟩⟩
    ·rw[jd,yyd]
     unfold jH;rw[zp,zl,yS,List.map_drop]
    ·rw[zK,ac]
     refine List.Perm.trans ?_ (aa.append_right _);refine List.perm_middle.trans ?_;rw[zzo];exact(List.perm_append_singleton _ _).symm
  ·rintro σ Hx ⟨ts,v2,v3,rfl,Sx,hx,aa⟩
   walk_at "a";rw[jr,zX]at aa;exact k pt ts Hx Sx af hx (λr hr=>(hL r (aa.mem_iff.mp hr)).same Sx) aa
inductive DY(A:Adr)(vs:List V)(H:Hp)(Q:VK)(E:XK):Prop
 |mk (x q:Addr) (ls:RL) (w:Int) (_:vs=[.ref x,.ref q,.int w]) (_:H q=some (.lst (jH ls))) (_:lD A H ls) (_:ls.length<=100) (_:(ls.map (·.2.n)).Nodup) (_:(∀l∈ls,1<=l.2.p/\Bd l.2.p/\Bd l.2.c)) (_:0<=w) (_:w<=pcs ls) (_:∀pk ps H',Same H H'->H pk=none->H' pk=some (.lst (Ld ps))->amC H' ps->PkS ls (ps.map (·.2)) w->Q (.ref pk) H'):DY A vs H Q E
def Ai:kI P w K mg base CX0 2 A.bn D.bn ["self", "lots", "pieces"] (DY A):=by
 refine T.dr.okv Jh λ_ _ _ _ H vs Q E hr h=>?_
 ·obtain⟨x,q,ls,w,rfl,hq,hL,z,hu,hp,h0,h1,k⟩:=h
  refine⟨_,(je (jq (pcg (qy T) hr T.dq (rC T) (pav 1 (pav 2 jc))))),?_⟩;simp only[start_eq];walk_at "i";exact⟨q,ls,w,rfl,hq,hL,z,λpk ps H' s hn h hP e=>k pk ps H' s hn h hP (e▸Bp hu (λl z=>(hp l z).1) h0 h1)⟩
def Ir:kI P w K mg base CX0 2 A.bo D.bo ["self", "lots", "pieces"] (DY A):=by
 refine T.ds.okv Jb λ_ _ _ _ H vs Q E hr h=>?_
 ·obtain⟨x,q,ls,w,rfl,hq,hL,hl,hu,hp,h0,h1,k⟩:=h
  refine⟨_,(je (jq (pcg (qy T) hr T.dq (rC T) (iY (RQ (K:=K) (by rfl) (VD rfl (by rfl) T.d5 (by rfl) T.d9 (pav 1 jc))) (pav 2 jc))))),?_⟩;simp only[start_eq];walk_at "i";refine⟨_,jh hq,λl aa=>?_⟩;have z:=List.reverse_perm ls;have s1:=ji (o:=.lst (jH ls).reverse) aa;refine⟨l,ls.reverse,w,rfl,by rw[jd];unfold jH;rw[List.map_reverse],λr hr=>(hL r (z.mem_iff.mp hr)).same s1,by rw[z.length_eq];exact hl,λpk ps H' s hn h hP e=>k pk ps H' (s1.trans s) (s1.free hn) h hP (e▸(Bp ((z.map (λl:Addr×jD=>l.2.n)).nodup_iff.mpr hu) (λl hl=>(hp l (z.mem_iff.mp hl)).1) h0 (by rw[Uu z];exact h1)).perm z)⟩
def Hj:kI P w K mg base CX0 3 A.br D.br ["self", "lots", "pieces"] (DY A):=by
 refine T.dv.okv GJ λ_ _ _ _ H vs Q E hr h=>?_
 ·obtain⟨x,q,ls,w,rfl,hq,hL,hl,hu,hp,h0,h1,k⟩:=h
  refine⟨_,(je (jq (pcg (qy T) hr T.dq (rC T) (iY (pcg (Gs T) hr T.du (Ji T) (pav 1 jc)) (pav 2 jc))))),?_⟩;simp only[start_eq];walk_at "i";refine⟨q,ls,rfl,hq,hL,hl,hp,λp ms H1 s1 ac ab aa z=>?_⟩;refine⟨p,ms,w,rfl,ab,aa,by rw[z.length_eq];exact hl,λpk ps H' s hn h hP e=>k pk ps H' (s1.trans s) (s1.free hn) h hP (e▸(Bp ((z.map (λl:Addr×jD=>l.2.n)).nodup_iff.mpr hu) (λl hl=>(hp l (z.mem_iff.mp hl)).1) h0 (by rw[Uu z];exact h1)).perm z)⟩
abbrev Pk:=List (Int×Int)
noncomputable def nR(ks:Pk)(d:jD):jD:=match ks.lookup d.n with
 |some w=>⟨d.n,d.s,d.p - w,d.c - d.c*w/d.p⟩
 |none=>d
noncomputable def Df(ds:List jD)(k:Int×Int):jD:=match ds.find? (λd=>d.n==k.1)with
 |some d=>⟨d.n,d.s,k.2,d.c*k.2/d.p⟩
 |none=>⟨0,0,0,0⟩
noncomputable def NP(ks:Pk)(ds:List jD):List jD:=(ds.map (nR ks)).filter λd=>decide (0<d.p)
structure Sq(ds:List jD):Prop where
 u:(ds.map jD.n).Nodup
 g:∀d∈ds,1<=d.p/\Bd d.p/\0<=d.c/\Bd d.c
 l:ds.length<=63
structure akT(ds:List jD)(ks:Pk):Prop where
 u:(ks.map (·.1)).Nodup
 h:∀k∈ks,∃d∈ds,d.n=k.1/\1<=k.2/\k.2<=d.p
noncomputable def kz(ds:List jD)(vs:List V):List (Key×V):=List.zipWith (λd v=>((Sum.inl d.n:Key),v)) ds vs
theorem ZJ:∀{ds:List jD}{vs:List V}{j:Nat}{d:jD}{v:V},(ds.map jD.n).Nodup->ds[j]? =some d->vs[j]? =some v->oM (kz ds vs) (Sum.inl d.n)=some v
 |[],_,_,_,_,_,h,_=>by simp at h
 |_::_,[],_,_,_,_,_,h=>by simp at h
 |d0::ds,v0::vs,0,d,v,_,h1,h2=>by
  cases h1;cases h2;exact lG rfl
 |d0::ds,v0::vs,j+1,d,v,hu,h1,h2=>by
  rw[zl,zN]at hu;have h1':ds[j]? =some d:=h1
  have q:¬((Sum.inl d0.n:Key)=Sum.inl d.n):=λe=>hu.1 (by
   have e':d0.n=d.n:=yyb e;rw[e'];exact zc.mpr ⟨d,zh h1',rfl⟩)
  show oM ((Sum.inl d0.n,v0)::kz ds vs) _=_;rw[lq q];exact ZJ hu.2 h1' h2
theorem aiR:∀{ds:List jD}{vs:List V}{j:Nat}{d:jD}{v':V},(ds.map jD.n).Nodup->ds[j]? =some d->(kz ds vs).map (λq=>if q.1=(Sum.inl d.n:Key)then(q.1,v')else q)=kz ds (vs.set j v')
 |[],_,_,_,_,_,h=>by simp at h
 |d0::ds,[],j,d,v',_,_=>by simp[kz]
 |d0::ds,v0::vs,0,d,v',hu,h1=>by
  cases h1;rw[zl,zN]at hu;show(if(Sum.inl d0.n:Key)=Sum.inl d0.n then((Sum.inl d0.n:Key),v')else _)::(kz ds vs).map _=(Sum.inl d0.n,v')::kz ds vs;rw[zi rfl];congr 1;refine(zQ λq aa=>?_).trans (yyt _);rw[zf]
  ·rfl
  ·intro e
   obtain⟨i,hi,e2⟩:=z9 aa;have hd:i<ds.length:=by simp[kz]at hi;lia
   have:q.1=Sum.inl ds[i].n:=by rw[<-e2];simp[kz]
   rw[this]at e;exact hu.1 (by rw[<-yyb e];exact zc.mpr ⟨ds[i],yT hd,rfl⟩)
 |d0::ds,v0::vs,j+1,d,v',hu,h1=>by
  rw[zl,zN]at hu;have h1':ds[j]? =some d:=h1
  have z:¬((Sum.inl d0.n:Key)=Sum.inl d.n):=λe=>hu.1 (by
   have e':d0.n=d.n:=yyb e;rw[e'];exact zc.mpr ⟨d,zh h1',rfl⟩)
  show(if(Sum.inl d0.n:Key)=Sum.inl d.n then _ else((Sum.inl d0.n:Key),v0))::(kz ds vs).map _=(Sum.inl d0.n,v0)::kz ds (vs.set j v');rw[zf z,aiR hu.2 h1']
def amj{ds:List jD}{vs:List V}{d:jD}{z:V}(q:(ds.map jD.n).Nodup)(h1:ds[j]? =some d)(h2:vs[j]? =some v):putK (kz ds vs) (Sum.inl d.n) z=kz ds (vs.set j z):=by
 unfold putK;rw[zi (by rw[qe,ZJ q h1 h2];rfl)];exact aiR q h1
theorem Zj:∀{ds:List jD}{vs:List V}{n:Int},n∉ds.map jD.n->oM (kz ds vs) (Sum.inl n)=none
 |[],_,_,_=>rfl
 |_::_,[],_,_=>rfl
 |d::ds,v::vs,n,h=>by
  rw[zl,zx,not_or]at h;show oM ((Sum.inl d.n,v)::kz ds vs) _=_;rw[lq (λe=>h.1 (yyb e).symm)];exact Zj h.2
def ama{ds:List jD}{vs:List V}{d:jD}(q:vs.length=ds.length)(h:d.n∉ds.map jD.n):putK (kz ds vs) (Sum.inl d.n) v=kz (ds++[d]) (vs++[v]):=by
 unfold putK;rw[zf (by rw[qe,Zj h];simp)];unfold kz;rw[List.zipWith_append q.symm];rfl
theorem Zh:∀{ds:List jD}{vs:List V},vs.length=ds.length->(kz ds vs).map (·.2)=vs
 |[],[],_=>rfl
 |[],_::_,h=>by simp at h
 |_::_,[],h=>by simp at h
 |d::ds,v::vs,h=>by
  show v::(kz ds vs).map (·.2)=_;rw[Zh (by simpa using h)]
def ajh{ds:List jD}{vs:List V}(h:vs.length=ds.length):(kz ds vs).length=ds.length:=by simp[kz,h]
def Ra{ks:Pk}{n:Int}(h:n∉ks.map (·.1)):ks.lookup n=none:=by
 induction ks with
 |nil=>rfl
 |cons k ks ih=>
  rw[zl,zx,not_or]at h;have e:(n==k.1)=false:=by simpa using h.1
  obtain⟨a,b⟩:=k;show(match n==a with|true=>some b|false=>ks.lookup n)=_;rw[show(n==a)=false from e];exact ih h.2
def Qs{ks:Pk}{n w:Int}(m:Int):(ks++[(n,w)]).lookup m=match ks.lookup m with|some x=>some x|none=>if m=n then some w else none:=by
 induction ks with
 |nil=>
  show(match m==n with|true=>some w|false=>none)=_;by_cases e:m=n
  ·simp[e]
  ·have e':(m==n)=false:=by simpa using e
   rw[e'];simp[e]
 |cons k ks ih=>
  obtain⟨a,b⟩:=k;show(match m==a with|true=>some b|false=>(ks++[(n,w)]).lookup m)=match(match m==a with|true=>some b|false=>ks.lookup m)with|some x=>some x|none=>_
  cases m==a with
  |true=>rfl
  |false=>exact ih
def Kf{ks:Pk}{n w:Int}{d:jD}(h:d.n≠n):nR (ks++[(n,w)]) d=nR ks d:=by
 unfold nR;rw[Qs]
 cases ks.lookup d.n with
 |none=>simp[h]
 |some x=>rfl
def Ui{ks:Pk}{w:Int}{d:jD}(h:d.n∉ks.map (·.1)):nR (ks++[(d.n,w)]) d=⟨d.n,d.s,d.p - w,d.c - d.c*w/d.p⟩:=by
 unfold nR;rw[Qs,Ra h];simp
def Vt{ks:Pk}{d:jD}(h:d.n∉ks.map (·.1)):nR ks d=d:=by
 unfold nR;rw[Ra h]
def some_at{ds:List jD}{d:jD}{w:Int}(q:(ds.map jD.n).Nodup)(h:d∈ds):Df ds (d.n,w)=⟨d.n,d.s,w,d.c*w/d.p⟩:=by
 have:ds.find? (λe=>e.n==d.n)=some d:=by
  induction ds with
  |nil=>cases h
  |cons e ds ih=>
   rw[zl,zN]at q;rcases zx.mp h with rfl|h
   ·simp
   ·have:e.n≠d.n:=λz=>q.1 (by rw[z];exact zc.mpr ⟨d,h,rfl⟩)
    rw[List.find?_cons_of_neg (by simpa using this)];exact ih q.2 h
 unfold Df;rw[this]
def Ub{ks:Pk}{k:Int×Int}(h:(ks.map (·.1)).Nodup)(e:ks[i]? =some k):k.1∉(ks.take i).map (·.1):=by
 intro hm;have h2:ks.map (·.1)=(ks.take i).map (·.1)++(ks.drop i).map (·.1):=by rw[<-zp,zzo]
 rw[h2]at h;exact(yB.mp h).2.2 _ hm k.1 (zc.mpr ⟨k,by rw[yW];exact⟨0,by rw[List.getElem?_drop];exact e⟩,rfl⟩) rfl
theorem Pq:∀{l k:List Int},l.Nodup->(∀x∈l,x∈k)->l.length<=k.length
 |[],_,_,_=>zM _
 |x::l,k,h,s=>by
  have h':=zN.mp h;have z:x∈k:=s x (.head _);have:=Pq (l:=l) (k:=k.erase x) h'.2 λy q=>(zzW (λe=>by subst e;exact h'.1 q)).mpr (s y (.tail _ q));rw[zzx z]at this;have hp:0<k.length:=zzK z;rw[zG];lia
def nD.put{d:jD}(h:nD A H x d)(q:∀C dx fs,H l≠some (.ins C dx fs)):nD A (upd H l o) x d:=by
 obtain⟨dx,e⟩:=h;exact⟨dx,(jn λz=>q _ _ _ (z▸e)).trans e⟩
def OkV(A:Adr)(H:Hp)(d:jD)(v:V):Prop:=(0<d.p/\∃x,v=.ref x/\nD A H x d)\/(d.p=0/\v=.non)
theorem OkV.same{H H':Hp}{d:jD}{v:V}(h:OkV A H d v)(s:Same H H'):OkV A H' d v:=h.imp (fun⟨a,x,e,l⟩=>⟨a,x,e,l.same s⟩) id
theorem OkV.put{H:Hp}{d:jD}{v:V}{l:Addr}{o:HO}(h:OkV A H d v)(q:∀C dx fs,H l≠some (.ins C dx fs)):OkV A (upd H l o) d v:=h.imp (fun⟨a,x,e,i⟩=>⟨a,x,e,i.put q⟩) id
theorem ZC{H:Hp}:∀{ds:List jD}{vs:List V},vs.length=ds.length->(∀(j:Nat) d v,ds[j]? =some d->vs[j]? =some v->OkV A H d v)->∃q:RL,(vs.filter λv=>decide (v≠.non))=jH q/\q.map (·.2)=(ds.filter λd=>decide (0<d.p))/\lD A H q
 |[],[],_,_=>⟨[],rfl,rfl,λr h=>(zj h).elim⟩
 |[],_::_,h,_=>by simp at h
 |_::_,[],h,_=>by simp at h
 |d::ds,v::vs,hl,h=>by
  obtain⟨q,e1,e2,e3⟩:=ZC (ds:=ds) (vs:=vs) (by simpa using hl) λj d v h1 h2=>h (j+1) d v h1 h2;rcases h 0 d v rfl rfl with⟨z,x,rfl,hx⟩|⟨z,rfl⟩
  ·refine⟨(x,d)::q,?_,?_,λr hr=>?_⟩
   ·rw[z5 (by simp),e1];rfl
   ·rw[z5 (by simpa using z),zl,e2]
   ·rcases zx.mp hr with rfl|hr
    ·exact hx
    ·exact e3 r hr
  ·refine⟨q,?_,?_,e3⟩
   ·rw[z6 (by simp),e1]
   ·rw[z6 (by simp[z]),e2]
noncomputable def kfH(H:Hp):V->Key
 |.ref b=>match H b with
  |some (.tup [.int n,_])=>Sum.inl n
  |_=>Sum.inl 0
 |_=>Sum.inl 0
noncomputable def vfH(H:Hp):V->V
 |.ref b=>match H b with
  |some (.tup [_,v])=>v
  |_=> .non
 |_=> .non
def aiU{n:Int}(h:H b=some (.tup [.int n,v])):kfH H (.ref b)=Sum.inl n:=by
 show(match H b with|some (.tup [.int n,_])=>Sum.inl n|_=>Sum.inl 0)=_;rw[h]
def aiN{n:Int}(h:H b=some (.tup [.int n,v])):vfH H (.ref b)=v:=by
 show(match H b with|some (.tup [_,v])=>v|_=> .non)=_;rw[h]
theorem Zw{H:Hp}:∀{ls:RL}{ys:List V}{pre:RL},ys.length=ls.length->(∀(i:Nat) y,ys[i]? =some y->∃b l,ls[i]? =some l/\y=.ref b/\H b=some (.tup [.int l.2.n,.ref l.1]))->((pre++ls).map λr=>r.2.n).Nodup->
  ys.foldl (λa y=>putK a (kfH H y) (vfH H y)) (kz (pre.map (·.2)) (jH pre))=kz ((pre++ls).map (·.2)) (jH (pre++ls))
 |[],[],pre,_,_,_=>by rw[yk];rfl
 |[],_::_,_,h,_,_=>by simp at h
 |_::_,[],_,h,_,_=>by simp at h
 |l::ls,y::ys,pre,hl,h,hu=>by
  obtain⟨b,l',e1,rfl,z⟩:=h 0 y rfl;cases e1;rw[yO,aiU z,aiN z]
  have hn:l.2.n∉(pre.map (·.2)).map jD.n:=by
   rw[zp,zl]at hu;intro hm;rw[zu]at hm;exact(yB.mp hu).2.2 _ hm _ zg rfl
  rw[ama (by rw[jr,za]) hn];have e2:pre.map (·.2)++[l.2]=(pre++[l]).map (·.2):=by rw[zp];rfl
  have e3:jH pre++[V.ref l.1]=jH (pre++[l]):=by unfold jH;rw[zp];rfl
  have q:pre++l::ls=(pre++[l])++ls:=by simp
  rw[e2,e3,q];exact Zw (by simpa using hl) (λi y hy=>h (i+1) y hy) (q▸hu)
inductive Bx(A:Adr)(vs:List V)(H:Hp)(Q:VK)(E:XK):Prop
 |mk (q pk:Addr) (ls:RL) (ps:PL) (_:vs=[.ref q,.ref pk]) (_:H q=some (.lst (jH ls))) (_:lD A H ls) (_:H pk=some (.lst (Ld ps))) (_:amC H ps) (_:Sq (ls.map (·.2))) (_:akT (ls.map (·.2)) (ps.map (·.2))) (_:∀t la lb l1 l2 H',Same H H'->H' t=some (.tup [.ref la,.ref lb])->H' la=some (.lst (jH l1))->H' lb=some (.lst (jH l2))->lD A H' l1->lD A H' l2->l1.map (·.2)=(ps.map (·.2)).map (Df (ls.map (·.2)))->l2.map (·.2)=NP (ps.map (·.2)) (ls.map (·.2))->H la=none->H lb=none->la≠lb->Q (.ref t) H'):Bx A vs H Q E
def KJ:kI P w K mg base CX0 4 A.bl D.bl ["lots", "picks"] (Bx A):=by
 refine T.dp.F.okv mq λ_ _ _ _ H vs Q E hr h=>?_
 ·obtain⟨q,pk,ls,ps,rfl,hq,hL,bf,hP,hR,hK,k⟩:=h
  refine ⟨_,(jb (jm (i:=2) mq.nd rfl orl (mZ (rR (K:=K) rfl) (by rfl) T.dS (by decide+kernel) (iY (jW (cap:=[none]) (N':=["lot"]) rfl (by walk_at "c") (jP (K:=K) (pv 0)) (λ_ _ _ _=>(jk (i:=0) nd1 rfl orl orr)) (λ_ _ _ _=>kh) (λ_ _ _ _=>(nM (iY (fv K 0) (pav 0 jc))))) jc)))
   (jb (jm (i:=3) mq.nd rfl orl (lE jc))
   (jb (oh zR rfl (jP (K:=K) (pv 1)) (pY (K:=K) (n:=2) rfl (jG (jk (i:=4) mq.nd rfl orl) (jG (jk (i:=5) mq.nd rfl orl) oF)))
    (jb (jm (i:=6) mq.nd rfl orl (aiw (oK hr) (pvD 2) (pvD 4) ⟨rfl,rfl,rfl,rfl⟩))
    (jb (kE (PW.pt (GP (jl (Gd) (pvD 6) mR (jx _)) (BV (jl (Dr) (fv K 6) (pvD 5) (jx _))))) (je (mC)) jC)
    (jb (jm (i:=7) mq.nd rfl orl (jN (pv 6) (mc T.fK T.gv (QD T) hr (Tp T) .nil) jR (pav 5 jc)))
    (jb (jA (tD (K:=K) zP zV zW mJ (pvD 3) (iY (jL (ju (K:=K)) (pvD 7) jf (λ_ _=>rfl)) jc)))
    (je (Jd (oK hr) (pvD 2) (pvD 4) (jL (ju (K:=K)) (pvD 7) jf (λ_ _=>rfl)) rfl)))))))
   (je (jq (nM (pav 3 (iY (jW (cap:=[none]) (N':=["lot"]) rfl (by walk_at "c") (YT (HS (K:=K) yd zzw PySem.F.type_dict_values PX (pvD 2))) (λ_ _ _ _=>(jk (i:=0) nd1 rfl orl orr)) (λ_ _ _ _=>(ul (jl (CJ) (pvD 0) mR (jx _)))) (λ_ _ _ _=>(pvD 0))) jc)))))))),?_⟩
  simp only[start_eq];walk_at "m";have b0:ls.length<=63:=by have:=hR.l;rwa [za]at this
  refine⟨⟨_,jh hq⟩,?_⟩;refine lU.listE (K:=K) (λσ=>∃a,σ=[a]) (λi v H'=>∃b l,ls[i]? =some l/\v=.ref b/\H' b=some (.tup [.int l.2.n,.ref l.1])) (jh hq) ⟨_,rfl⟩ (by rw[jr,zw];lia) ?_ ?_
  ·rintro Da i x hx σ H5 R ⟨_,rfl⟩ sm hD ⟨acc,hA⟩ kk
   obtain⟨l,be,rfl⟩:=kO hx;obtain⟨dx,al⟩:=(hL l (get_mem be)).same sm;walk_at "i";exact rd al T.fK T.fL (by rfl) ⟨sz,λt ht=>kk (.ref t) _ _ ⟨_,rfl⟩ (ji ht) λH' hb=>⟨t,l,be,rfl,hb _ _ (λe=>by rw[e,hA]at ht;cases ht) jd⟩⟩
  ·intro Da H1 acc hD s1 hA an hF
   rw[jr]at an;walk_at "i";obtain⟨ds,ab⟩:∃ds,ls.map (·.2)=ds:=⟨_,rfl⟩;obtain⟨ks,ak⟩:∃ks,ps.map (·.2)=ks:=⟨_,rfl⟩;rw[ab,ak]at hK;rw[ab]at hR;rw[ab,ak]at k;have bv:ds.length=ls.length:=by rw[<-ab,za]
   refine⟨_,jh hA,by lia,kfH H1,vfH H1,λy hy=>?_,λpd bo=>?_⟩
   ·obtain⟨i,hi,e⟩:=z9 hy
    obtain⟨b,l,_,h2,h3⟩:=hF i y (by rw[zq hi,e]);subst h2;exact⟨b,rfl,by rw[aiU h3,aiN h3];exact jE h3⟩
   have ez:Nk (kfH H1) (vfH H1) acc=kz ds (jH ls):=by
    rw[<-ab];refine Zw (pre:=[]) an hF ?_;have:=hR.u;rw[<-ab,zu]at this;exact this
   rw[ez];have S2:=s1.trans (ji (o:=.dK (kz ds (jH ls))) bo);have ba:(upd H1 pd (.dK (kz ds (jH ls)))) pd=some (.dK (kz ds (jH ls))):=jd;have bi:=s1.free bo;generalize upd H1 pd _=H2 at S2 ba;walk_at "m";refine⟨sz,λpt am=>?_⟩;have S3:=S2.trans (ji (o:=.lst []) am);have bj:(upd H2 pt (.lst [])) pt=some (.lst []):=jd;have bn:=ji (o:=.lst []) am _ _ ba;have bb:=S2.free am;have ay:pd≠pt:=jY ba am;generalize upd H2 pt _=H3 at S3 bj bn;rw[ap_seq,ap_for];walk_at "i";refine⟨⟨_,jh (S3 _ _ bf)⟩,?_⟩
   refine Eg.listN (K:=K) (a:=pk) (xs:=Ld ps) (λi σ Hx=>∃(vs:List V)(l1:RL)(w4 w5 w6 w7:Option V),σ=[some (.ref q),some (.ref pk),some (.ref pd),some (.ref pt),w4,w5,w6,w7]/\Same H Hx/\vs.length=ds.length/\Hx pd=some (.dK (kz ds vs))/\Hx pt=some (.lst (jH l1))/\lD A Hx l1/\
    l1.map (·.2)=(ks.take i).map (Df ds)/\∀(j:Nat) d v,ds[j]? =some d->vs[j]? =some v->OkV A Hx (nR (ks.take i) d) v) ⟨jH ls,[],_,_,_,_,rfl,S3,by rw[jr,bv],bn,bj,λr h=>(zj h).elim,rfl,λj d v h1 h2=>?_⟩ (λi σ Hx _ ⟨_,_,_,_,_,_,_,s,_⟩=>s.seq (jh bf)) ?_ ?_
   ·obtain⟨l,e1,rfl⟩:=kO h2
    have e2:ds[j]? =some l.2:=by rw[<-ab,zo,e1];rfl
    rw[h1]at e2;cases e2;refine .inl ⟨?_,l.1,rfl,(hL l (get_mem e1)).same S3⟩;have:=(hR.g l.2 (zh h1)).1;show 0<l.2.p;lia
   ·rintro i y σ H4 hy ⟨vs,l1,w4,w5,w6,w7,rfl,S4,ad,aa,aj,av,af,ag⟩ N hN
    obtain⟨r,bp,rfl⟩:=Yz hy;have as:ks[i]? =some r.2:=by rw[<-ak,zo,bp];rfl
    obtain⟨d,hd,ar,b1,bw⟩:=hK.h r.2 (zh as);obtain⟨j,hj,ej⟩:=z9 hd;have ae:ds[j]? =some d:=by rw[zq hj,ej]
    have au:vs[j]? =some (vs[j]'(by lia)):=by simp
    have ao:d.n∉(ks.take i).map (·.1):=by rw[ar];exact Ub hK.u as
    have hg:=hR.g d hd;have bh:=ag j d _ ae au;rw[Vt ao]at bh;have ap:=ZJ (v:=vs[j]'(by lia)) hR.u ae au
    obtain ⟨x,ex,hx⟩:∃x,vs[j]'(by lia)=.ref x/\nD A H4 x d:=by
     rcases bh with⟨_,x,e,h⟩|⟨e,_⟩
     ·exact⟨x,e,h⟩
     ·lia
    rw[ex]at ap;obtain⟨dx,al⟩:=id hx;have bg:=S4 _ _ (hP r (zh bp));rw[<-ar]at bg;walk_at "i";refine⟨_,jE bg,rfl,_,_,rfl,_,_,rfl,rfl,?_⟩;walk_at "m";refine⟨.inl ⟨_,.inl aa⟩,_,Za (k:=Sum.inl d.n) aa,?_⟩;rw[ap];simp only[Option.getD_some];walk_at "m";refine rd al T.fK T.fN (by rfl) ⟨_,rfl,?_⟩;rw[zf (by show¬(d.p<r.2.2);lia)];walk_at "m";refine md al zg (by rfl) ⟨x,d,r.2.2,rfl,hx,hg.2.2.2.mul (hg.2.1.of (by lia) bw),hg.2.1.div (by lia),λt y v' H5 s5 bl ac hY f1 f2=>?_⟩;walk_at "m";have S5:=S4.trans s5;have aw:=s5 _ _ aj;have br:=s5 _ _ aa;have bx:t≠pt:=λe=>by rw[e,aj]at bl;cases bl
    have bk:(upd H5 pt (.lst (jH l1++[V.ref y]))) pd=some (.dK (kz ds vs)):=(jn ay).trans br;have ai:∀C dx fs,H5 pt≠some (.ins C dx fs):=λ_ _ _=>by rw[aw];simp
    have ah:∀C dx fs,(upd H5 pt (.lst (jH l1++[V.ref y]))) pd≠some (.ins C dx fs):=λ_ _ _=>by rw[bk];simp
    have er:r.2=(d.n,r.2.2):=by rw[ar]
    have bd:ks.take (i+1)=ks.take i++[(d.n,r.2.2)]:=by rw[zK,as,<-er];rfl
    have b2:l1.length<=63:=by
     have e1:=congrArg List.length af;rw[za,za,zT]at e1
     have e2:ks.length<=ds.length:=by
      have:=Pq (l:=ks.map (·.1)) (k:=ds.map jD.n) hK.u λz hz=>by
       obtain⟨k0,bs,rfl⟩:=zc.mp hz;obtain⟨d0,bu,e0,_⟩:=hK.h k0 bs;exact zc.mpr ⟨d0,bu,e0⟩
      rwa [za,za]at this
     have:=hR.l;lia
    refine ⟨.inl ⟨rfl,_,jh aw⟩,_,jE ac,_,rfl,_,aw,by rw[jr,zw];lia,_,jE ((jn bx).trans ac),_,rfl,_,.inl ⟨_,Sum.inl d.n,bk,rfl,by rw[ajh ad,zw];have:=hR.l;lia,by rw[amj hR.u ae au]⟩,
     hN _ _ ⟨vs.set j v',l1++[(y,Df ds (d.n,r.2.2))],_,_,_,_,rfl,(S5.upd bb).upd bi,by rw[List.length_set,ad],jd,?_,λz hz=>?_,?_,λj' d' v0 h1 h2=>?_⟩⟩
    ·rw[jn ay.symm,jd];unfold jH;rw[zp];rfl
    ·rcases zD.mp hz with hz|hz
     ·exact(((av z hz).same s5).put ai).put ah
     ·obtain rfl:=zr.mp hz
      rw[some_at hR.u hd];exact(hY.put ai).put ah
    ·rw[zp,af,bd,zp];rfl
    ·rw[bd]
     by_cases ax:j'=j
     ·subst ax
      rw[ae]at h1;cases h1;rw[zzD (by lia)]at h2;cases h2;rw[Ui ao];by_cases ew:r.2.2=d.p
      ·exact .inr ⟨by show d.p - r.2.2=0;lia,f1 ew⟩
      ·obtain⟨z,ez,hz⟩:=f2 ew
       exact .inl ⟨by show 0<d.p - r.2.2;lia,z,ez,(hz.put ai).put ah⟩
     ·rw[zzU (λe=>ax e.symm)]at h2
      have bz:d'.n≠d.n:=λe=>ax (by
       have hl1':j'<(ds.map jD.n).length:=by rw[za];exact(zk.mp h1).1
       refine(yye hl1' hR.u).mp ?_;rw[zo,zo,h1,ae];show some d'.n=some d.n;rw[e])
      rw[Kf bz];exact(((ag j' d' v0 h1 h2).same s5).put ai).put ah
   ·rintro σ H4 ⟨vs,l1,w4,w5,w6,w7,rfl,S4,ad,aa,aj,av,af,ag⟩
    rw[QV,show ps.length=ks.length by rw[<-ak,za],zX]at af ag;walk_at "i";refine⟨.inr (.inr (.inl ⟨rfl,.inl ⟨_,aa⟩⟩)),_,aa,λv hv=>⟨pd,jd,_,(jn (jY aa hv)).trans aa,λo=>?_⟩⟩;have sv:=ji (o:=Ba v pd) hv;have bt:=sv _ _ aa;have ni:∀C dx fs,(upd H4 v (Ba v pd)) pd≠some (.ins C dx fs):=λ_ _ _=>by rw[bt];simp
    have S5:Same H (upd (upd H4 v (Ba v pd)) pd (.frz o (.dK (kz ds vs)))):=(S4.trans sv).upd bi;have ac:(upd (upd H4 v (Ba v pd)) pd (.frz o (.dK (kz ds vs)))) pt=some (.lst (jH l1)):=(jn ay.symm).trans (sv _ _ aj);have bc:lD A (upd (upd H4 v (Ba v pd)) pd (.frz o (.dK (kz ds vs)))) l1:=λz hz=>((av z hz).same sv).put ni;have bq:(upd (upd H4 v (Ba v pd)) pd (.frz o (.dK (kz ds vs)))) pd=some (.frz o (.dK (kz ds vs))):=jd
    have bm:∀(j:Nat) d v0,(ds.map (nR ks))[j]? =some d->vs[j]? =some v0->OkV A (upd (upd H4 v (Ba v pd)) pd (.frz o (.dK (kz ds vs)))) d v0:=λj d v0 h1 h2=>by
     rw[zo]at h1
     cases e:ds[j]? with
     |none=>rw[e]at h1;cases h1
     |some d0=>
      rw[e]at h1;cases h1;exact((ag j d0 v0 e h2).same sv).put ni
    generalize upd (upd H4 v (Ba v pd)) pd (.frz o (.dK (kz ds vs)))=H5 at S5 ac bc bq bm;refine lU.vals (λσ=>∃a,σ=[a]) (λv=>decide (v≠.non)) id bq ⟨_,rfl⟩ (by rw[ajh ad,zw];have:=hR.l;lia) ?_ ?_
    ·rintro x hx σ H6 R1 R2 ⟨_,rfl⟩ sm k1 k2
     walk_at "i";by_cases e:x=.non
     ·rw[zf (by simp[e])]
      exact k2 (by simp[e]) _ _ ⟨_,rfl⟩ (same_refl _)
     ·rw[zi (by simp[e])]
      exact k1 (by simp[e]) _ _ ⟨_,rfl⟩ (same_refl _)
    ·intro Da H6 aq s6 az
     rw[Zh ad,yyt]at az;obtain⟨l2,e1,e2,e3⟩:=ZC (A:=A) (H:=H5) (ds:=ds.map (nR ks)) (vs:=vs) (by rw[za,ad]) bm;rw[e1]at az;refine⟨sz,λt ht=>?_⟩;have st:=ji (o:=.tup [V.ref pt,V.ref Da]) ht;have S6:=S5.trans (s6.trans st);exact k t pt Da l1 l2 _ S6 jd ((s6.trans st) _ _ ac) (st _ _ az) (bc.same (s6.trans st)) (e3.same (s6.trans st)) af e2 bb (S5.free aq) (λe=>by rw[<-e,ac]at aq;cases aq)
def alY{ds:List jD}(hu:(ds.map jD.n).Nodup){d e:jD}(h1:ds[i]? =some d)(h2:ds[j]? =some e)(q:i≠j):d.n≠e.n:=λz=>q (by
 have hl:i<(ds.map jD.n).length:=by rw[za];exact(zk.mp h1).1
 refine(yye hl hu).mp ?_;rw[zo,zo,h1,h2];show some d.n=some e.n;rw[z])
def ahO{ks:Pk}{n w:Int}(h:ks.lookup n=some w):(n,w)∈ks:=by
 induction ks with
 |nil=>cases h
 |cons k ks ih=>
  obtain⟨a,b⟩:=k;have h':(match n==a with|true=>some b|false=>ks.lookup n)=some w:=h;by_cases e:n=a
  ·have e':(n==a)=true:=by simpa using e
   rw[e']at h';cases h';rw[e];exact zg
  ·have e':(n==a)=false:=by simpa using e
   rw[e']at h';exact zn _ (ih h')
def alA{ds:List jD}(hu:(ds.map jD.n).Nodup){d e:jD}(h1:d∈ds)(h2:e∈ds)(h:d.n=e.n):d=e:=by
 obtain⟨i,hi,q⟩:=z9 h1;obtain⟨j,hj,ej⟩:=z9 h2
 have:i=j:=by
  by_cases z:i=j
  ·exact z
  ·exact(alY hu (by rw[zq hi,q]) (by rw[zq hj,ej]) z h).elim
 subst this;rw[<-q,<-ej]
def Bo{ds:List jD}{ks:Pk}(hR:Sq ds)(hK:akT ds ks){d:jD}(hd:d∈ds):(nR ks d).n=d.n/\(0<=(nR ks d).p/\(nR ks d).p<=d.p/\0<=(nR ks d).c/\(nR ks d).c<=d.c)/\(¬0<(nR ks d).p->(nR ks d).p=0/\(nR ks d).c=0):=by
 have hg:=hR.g d hd;unfold nR
 cases e:ks.lookup d.n with
 |none=>exact⟨rfl,⟨by show 0<=d.p;lia,yR _,hg.2.2.1,yR _⟩,λh=>absurd (show 0<d.p by lia) h⟩
 |some w=>
  obtain⟨d',h1,h2,h3,q⟩:=hK.h _ (ahO e);obtain rfl:=alA hR.u h1 hd h2;have q:w<=d'.p:=q;have h3:1<=w:=h3;have z:=hg.2.2.1;have c1:0<=d'.c*w/d'.p:=zzl (yU z (by lia)) (by lia)
  have c2:d'.c*w/d'.p<=d'.c:=by
   have h5:d'.c*w<=d'.c*d'.p:=zze q z;have h6:=zzS (c:=d'.p) (by lia) h5
   rwa [y9 _ (by lia)]at h6
  refine⟨rfl,⟨by show 0<=d'.p - w;lia,by show d'.p - w<=_;lia,by show 0<=d'.c - d'.c*w/d'.p;lia,by show d'.c - d'.c*w/d'.p<=_;lia⟩,λh=>?_⟩;have h:¬0<d'.p - w:=h;have ew:w=d'.p:=by lia
  refine⟨by show d'.p - w=0;lia,?_⟩;show d'.c - d'.c*w/d'.p=0;rw[ew,y9 _ (by lia)];lia
theorem vy{f g:jD->Int}:∀{ds:List jD}{d0:jD},(ds.map jD.n).Nodup->d0∈ds->(∀d∈ds,d.n≠d0.n->f d=g d)->(ds.map f).sum=(ds.map g).sum - g d0+f d0
 |[],_,_,h,_=>by cases h
 |d::ds,d0,hu,h,hf=>by
  rw[zl,zN]at hu;rw[zl,zl,zI,zI];rcases zx.mp h with rfl|h
  ·have:ds.map f=ds.map g:=zQ λe q=>hf e (zn _ q) λz=>hu.1 (by rw[<-z];exact zc.mpr ⟨e,q,rfl⟩)
   rw[this];lia
  ·have h1:=vy hu.2 h λe q=>hf e (zn _ q)
   have h2:=hf d zg λz=>hu.1 (by rw[z];exact zc.mpr ⟨d0,h,rfl⟩);rw[h1,h2];lia
theorem Pj{ds:List jD}{ks:Pk}(hR:Sq ds)(hK:akT ds ks):∀i:Nat,i<=ks.length->
  (((ks.take i).map (Df ds)).map jD.p).sum+((ds.map (nR (ks.take i))).map jD.p).sum=(ds.map jD.p).sum/\(((ks.take i).map (Df ds)).map jD.c).sum+((ds.map (nR (ks.take i))).map jD.c).sum=(ds.map jD.c).sum
 |0,_=>by
  have e:ds.map (nR [])=ds:=(zQ λd _=>rfl).trans (yyt _);rw[List.take_zero,e];exact⟨by simp,by simp⟩
 |i+1,hi=>by
  obtain⟨h1,h2⟩:=Pj hR hK i (by lia);have z:ks[i]? =some ks[i]:=by simp
  obtain⟨d,hd,aa,hw⟩:=hK.h ks[i] (yT _);have q:d.n∉(ks.take i).map (·.1):=by rw[aa];exact Ub hK.u z
  have er:ks[i]=(d.n,ks[i].2):=by rw[aa]
  generalize ks[i].2=w at er hw;have ab:ks.take (i+1)=ks.take i++[(d.n,w)]:=by rw[zK,z,er];rfl
  have c1:=vy (f:=λe=>(nR (ks.take i++[(d.n,w)]) e).p) (g:=λe=>(nR (ks.take i) e).p) hR.u hd λe _ he=>by rw[Kf he]
  have c2:=vy (f:=λe=>(nR (ks.take i++[(d.n,w)]) e).c) (g:=λe=>(nR (ks.take i) e).c) hR.u hd λe _ he=>by rw[Kf he]
  simp only[Ui q,Vt q]at c1 c2;have es:=some_at (w:=w) hR.u hd;rw[ab];simp only[zu,zp,yX,zl,zzs,zI,List.sum_nil,Function.comp_def,es]at h1 h2 c1 c2⊢;rw[c1,c2];lia
theorem RV{f:jD->Int}:∀{l:List jD},(∀d∈l,¬0<d.p->f d=0)->((l.filter λd=>decide (0<d.p)).map f).sum=(l.map f).sum
 |[],_=>rfl
 |d::l,h=>by
  have q:=RV (l:=l) λe z=>h e (zn _ z);by_cases e:0<d.p
  ·rw[z5 (by simpa using e),zl,zl,zI,zI,q]
  ·rw[z6 (by simpa using e),zl,zI,q,h d zg e]
   lia
def TY{ds:List jD}{ks:Pk}(hR:Sq ds)(hK:akT ds ks):((ks.map (Df ds)).map jD.p).sum+((NP ks ds).map jD.p).sum=(ds.map jD.p).sum/\((ks.map (Df ds)).map jD.c).sum+((NP ks ds).map jD.c).sum=(ds.map jD.c).sum:=by
 have h:=Pj hR hK ks.length (zm _);rw[zX]at h
 have hz:∀e∈ds.map (nR ks),¬0<e.p->e.p=0/\e.c=0:=λe q=>by
  obtain⟨d,hd,rfl⟩:=zc.mp q;exact(Bo hR hK hd).2.2
 unfold NP;rw[RV (f:=jD.p) λe q z=>(hz e q z).1,RV (f:=jD.c) λe q z=>(hz e q z).2];exact h
def aju{ds:List jD}{ks:Pk}(q:Sq ds)(hK:akT ds ks):Sq (NP ks ds):=by
 have e:(ds.map (nR ks)).map jD.n=ds.map jD.n:=by
  rw[zu];exact zQ λd hd=>(Bo q hK hd).1
 refine⟨?_,λz hz=>?_,?_⟩
 ·refine yV ?_ q.u
  rw[<-e];exact List.Sublist.map _ List.filter_sublist
 ·obtain⟨h1,h2⟩:=yj.mp hz
  obtain⟨d,hd,rfl⟩:=zc.mp h1;have hs:=Bo q hK hd;have h2:0<(nR ks d).p:=by simpa using h2
  have hg:=q.g d hd;exact⟨by lia,hg.2.1.of (by lia) hs.2.1.2.1,hs.2.1.2.2.1,hg.2.2.2.of hs.2.1.2.2.1 hs.2.1.2.2.2⟩
 ·have:=yo (λd:jD=>decide (0<d.p)) (ds.map (nR ks))
  rw[za]at this;have:=q.l;unfold NP;lia
def aiJ{ns:List Int}{ls:RL}(h:Shp ns ls)(hn:ns.length<=63)(z:Bd (pcs ls))(hc:Bd (lH ls)):Sq (ls.map (·.2)):=by
 refine⟨by rw[zu];exact h.u,λd hd=>?_,by rw[za];exact zS h.len hn⟩;obtain⟨l,q,rfl⟩:=zc.mp hd;have h1:=h.p l q;have h2:=SJ h.p q;exact⟨h1,z.of (by lia) h2,h.c l q,hc.of (h.c l q) (Nu h.c q)⟩
def amc{ls:RL}{ks:Pk}{w:Int}(h:PkS ls ks w):akT (ls.map (·.2)) ks:=⟨h.u,λk q=>let⟨l,a,b⟩:=h.h k q;⟨l.2,zc.mpr ⟨l,a,rfl⟩,b⟩⟩
def aiy(ks:Pk)(ds:List jD):((NP ks ds).map plD).Sublist (ds.map plD):=by
 have e:(ds.map (nR ks)).map plD=ds.map plD:=by
  rw[zu];refine zQ λd _=>?_;show plD (nR ks d)=plD d;unfold nR;split<;>rfl
 rw[<-e];exact List.filter_sublist.map _
def WT{ns:List Int}{ls l1 l2:RL}{ks:Pk}{w:Int}(h:Shp ns ls)(hn:ns.length<=63)(hp:Bd (pcs ls))(hc:Bd (lH ls))(hk:PkS ls ks w)(e1:l1.map (·.2)=ks.map (Df (ls.map (·.2))))(e2:l2.map (·.2)=NP ks (ls.map (·.2))):
  l1.map Wq=ks/\Shp ns l2/\pcs l2=pcs ls - w/\lH l1+lH l2=lH ls/\∀l∈l1,0<=l.2.c:=by
 have hR:=aiJ h hn hp hc;have hK:=amc hk
 have hs:∀k∈ks,(Df (ls.map (·.2)) k).n=k.1/\(Df (ls.map (·.2)) k).p=k.2:=λk z=>by
  obtain⟨d,hd,e,_⟩:=hK.h k z;have:=some_at (w:=k.2) hR.u hd;rw[e]at this;rw[this];exact⟨rfl,rfl⟩
 have ac:l1.map Wq=ks:=by
  have:l1.map Wq=(l1.map (·.2)).map λd=>(d.n,d.p):=by rw[zu];rfl
  rw[this,e1,zu]
  exact NK λk z=>by
   show((Df _ k).n,(Df _ k).p)=k;rw[(hs k z).1,(hs k z).2]
 have ab:=(TY hR hK).1;have aa:=(TY hR hK).2;rw[<-e1,<-e2]at ab aa;rw[<-nG,<-nG,<-nG]at aa
 have f1:((l1.map (·.2)).map jD.p).sum=w:=by
  have:(l1.map (·.2)).map jD.p=ks.map (·.2):=by
   rw[<-ac,zu,zu];rfl
  rw[this,hk.s]
 have f2:∀ms:RL,((ms.map (·.2)).map jD.p).sum=pcs ms:=λms=>by unfold pcs;rw[zu];rfl
 rw[f1,f2,f2]at ab;have hok:=aju hR hK;rw[<-e2]at hok;refine⟨ac,⟨?_,λl hl=>(hok.g l.2 (zc.mpr ⟨l,hl,rfl⟩)).1,λl hl=>?_,λl hl=>(hok.g l.2 (zc.mpr ⟨l,hl,rfl⟩)).2.2.1⟩,by lia,aa,λl hl=>?_⟩
 ·have:=hok.u
  rwa [zu]at this
 ·have h1:l.2∈NP ks (ls.map (·.2)):=e2▸zc.mpr ⟨l,hl,rfl⟩
  obtain⟨h2,_⟩:=yj.mp h1;obtain⟨d,hd,e⟩:=zc.mp h2;obtain⟨q,hq,rfl⟩:=zc.mp hd;rw[<-e,(Bo hR hK hd).1];exact h.m q hq
 ·have h1:l.2∈ks.map (Df (ls.map (·.2))):=e1▸zc.mpr ⟨l,hl,rfl⟩
  obtain⟨k,z,e⟩:=zc.mp h1;obtain⟨d,hd,en,h3,h4⟩:=hK.h k z;have:=some_at (w:=k.2) hR.u hd;rw[en]at this;have hg:=hR.g d hd;rw[<-e,this];exact zzl (yU hg.2.2.1 (by lia)) (by lia)
inductive Tg(A:Adr):Addr->Prop
 |e:Tg A A.b1
 |n:Tg A A.b2
 |d:Tg A A.b3
 |m:Tg A A.b0
def alx(q:Tg A C):(C,Qj A)∈[(A.b1,Qj A),(A.b2,Qj A),(A.b3,Qj A),(A.b0,Qj A)]:=by cases q<;>simp
def ahY(q:Tg A C):(C,DY A)∈[(A.b1,DY A),(A.b2,DY A),(A.b3,DY A),(A.b0,DY A)]:=by cases q<;>simp
inductive FP(A:Adr)(vs:List V)(H:Hp)(Q:VK)(E:XK):Prop
 |mk (x C dx q:Addr) (ns:List Int) (ls:RL) (w:Int) (_:vs=[.ref x,.ref q,.int w,.non]) (_:H x=some (.ins C dx [])) (_:Tg A C) (_:H q=some (.lst (jH ls))) (_:lD A H ls) (_:ShO ns ls) (_:ns.length<=63) (_:Bd (pcs ls)) (_:Bd (lH ls)) (_:1<=w) (_:w<=pcs ls) (_:∀t la lb l1 l2 H',Same H H'->H' t=some (.tup [.ref la,.ref lb])->H' la=some (.lst (jH l1))->H' lb=some (.lst (jH l2))->lD A H' l1->lD A H' l2->Shp ns l1->pcs l1=w->l1≠[]->ShO ns l2->pcs l2=pcs ls - w->lH l1+lH l2=lH ls->H la=none->H lb=none->la≠lb->Q (.ref t) H'):FP A vs H Q E
def QJ:kI P w K mg base CX0 5 A.bs D.bs ["way", "lots", "pieces", "named"] (FP A):=by
 refine T.dw.F.okv Aj λ_ _ _ _ H vs Q E hr h=>?_
 ·obtain⟨x,C,dx,q,ns,ls,w,rfl,hx,hC,hq,hL,hS,hn,hp,hc,h0,h1,k⟩:=h
  refine ⟨_,(jb (jm (i:=4) Aj.nd rfl orl (jN (pv 0) (mc T.fQ T.gx (sO T) hr (ux T) (mc T.fR T.gy (sO T) hr (ux T) (mc T.fS T.gz (sO T) hr (ux T) (mc T.fP T.gA (Gx T) hr (Ib T) .nil)))) jR (pav 1 jc)))
   (jb (jm (i:=5) Aj.nd rfl orl (Eu (jl (Gd) (pvD 3) mR (jx _)) (jN (pv 0) (mc T.fQ T.gB (Ai T) hr (Cd T) (mc T.fR T.gC (Ir T) hr (Ls T) (mc T.fS T.gD (Hj T) hr (Jg T) (mc T.fP T.gE (Ai T) hr (Cd T) .nil)))) jR (pav 4 (pav 2 jc))) (pvD 3)))
   (je (jq (pcg (KJ T) hr T.dp (Nb T) (pav 4 (pav 5 jc))))))),?_⟩
  have ac:ls.length<=100:=by have:=hS.len;lia
  simp only[start_eq];walk_at "n";refine⟨C,dx,_,hx,_,alx hC,by rfl,x,q,ls,rfl,hq,hL,ac,hS.p,hS.c,hp,hc,λl ms H1 s1 hl h2 aj af ab ae ak=>?_⟩;have aa:=af.shp hS.toShp ae;have ad:=af.pcs;walk_at "n";refine⟨C,dx,_,s1 _ _ hx,_,ahY hC,by rfl,x,l,ms,w,rfl,h2,aj,by rw[af.len];exact ac,aa.u,λq hq=>⟨aa.p q hq,(ad▸hp).of (by have:=aa.p q hq;lia) (SJ aa.p hq),(ab▸hc).of (ae q hq) (Nu ae hq)⟩,by lia,by lia,λpk ps H2 s2 an h3 hP hK=>?_⟩
  try dsimp only
  rw[ap_ret];walk_at "i";refine⟨l,pk,ms,ps,rfl,s2 _ _ h2,aj.same s2,h3,hP,aiJ aa hn (ad▸hp) (ab▸hc),amc hK,λt la lb l1 l2 H3 s3 ht g1 g2 g3 g4 e1 e2 f1 f2 f3=>?_⟩;obtain⟨k1,k2,k3,k4,k5⟩:=WT aa hn (ad▸hp) (ab▸hc) hK e1 e2;have S2:=s1.trans s2;have ai:l1.map (·.2.n)=(ps.map (·.2)).map (·.1):=by rw[<-k1,zu];rfl
  have ah:l1.map (·.2.p)=(ps.map (·.2)).map (·.2):=by rw[<-k1,zu];rfl
  have ag:pcs l1=w:=by unfold pcs;rw[ah];exact hK.s
  have am:Shp ns l1:=by
   refine⟨by rw[ai];exact hK.u,λr hr=>?_,λr hr=>?_,k5⟩
   ·have:Wq r∈ps.map (·.2):=k1▸zc.mpr ⟨r,hr,rfl⟩
    obtain⟨q,_,_,a,_⟩:=hK.h _ this;exact a
   ·have:Wq r∈ps.map (·.2):=k1▸zc.mpr ⟨r,hr,rfl⟩
    obtain⟨q,al,e,_⟩:=hK.h _ this;have e:q.2.n=r.2.n:=e;exact e▸aa.m q al
  refine k t la lb l1 l2 H3 (S2.trans s3) ht g1 g2 g3 g4 am ag (λz=>?_) (hS.sub k2 (by rw[<-ak];unfold pls;rw[e2];exact aiy _ _)) (by lia) (k4.trans ab) (S2.free f1) (S2.free f2) f3;rw[z]at ag;have:pcs []=0:=rfl;lia
inductive wX(A:Adr)(vs:List V)(H:Hp)(Q:VK)(E:XK):Prop
 |mk (x:Addr) (d:jD) (p c:Int) (_:vs=[.ref x,.int p,.int c]) (_:nD A H x d) (_:∀y H',Same H H'->H y=none->nD A H' y ⟨d.n,d.s,d.p+p,d.c+c⟩->Q (.ref y) H'):wX A vs H Q E
def wN:kI P w K mg base CX0 3 A.a4 D.a4 ["self", "pieces", "cost"] (wX A):=by
 refine T.c7.ok Gr (by walk_at "v") (λ_ _ _ s H vs Q E hr h=>?_)
 ·obtain⟨x,⟨n,s,p,c⟩,p',c',rfl,⟨dx,q⟩,k⟩:=h
  refine⟨_,(je (jq (mF T.f0 (kW (K:=K) T) (hr.mono (by decide)) (by rfl) T.ek (lu T) .nil jR (iY (fv K 0) (iY (fv K 0) (iY (jw jZ (fv K 0) (pvD 1)) (iY (jw jZ (fv K 0) (pvD 2)) jc))))))),?_⟩;walk_at "a";refine rd q T.fK T.fL (by rfl) (?_);refine rd q T.fK T.fM (by rfl) (?_);refine rd q T.fK T.fN (by rfl) (?_);refine⟨_,rfl,rd q T.fK T.fO (by rfl) ⟨_,rfl,λy dy hy z _=>?_⟩⟩;exact qQ ⟨n,s,p+p',c+c'⟩ hy z λH' sm hL=>k y H' sm hy hL
noncomputable def toI:V->Int
 |.int i=>i
 |_=>0
inductive Ac(A:Adr)(vs:List V)(H:Hp)(Q:VK)(E:XK):Prop
 |mk (x:Addr) (d:jD) (_:vs=[.ref x]) (_:nD A H x d) (_:∀t,H t=none->Q (.ref t) (upd H t (.tup [.int d.s,.int d.n]))):Ac A vs H Q E
def JR:kI P w K mg base CX0 1 A.a2 D.a2 ["lot"] (Ac A):=by
 refine T.c5.F.okv Jl λ_ _ _ _ H vs Q E hr h=>?_
 ·obtain⟨x,d,rfl,⟨dx,q⟩,k⟩:=h
  refine⟨_,(je (jq (nM (iY (fv K 0) (iY (fv K 0) jc))))),?_⟩;walk_at "a";refine rd q T.fK T.fM (by rfl) (rd q T.fK T.fL (by rfl) (?_));exact⟨sz,λt z=>k t z⟩
def aag{ls:RL}{f:Addr×jD->Bool}(z:acc.length=ls.length)(h:∀(i:Nat) v,acc[i]? =some v->∃l,ls[i]? =some l/\v=.bl (f l)):acc=(ls.map f).map V.bl:=by
 refine zzt (by simp[z]) λi h1 h2=>?_;obtain⟨l,q,e2⟩:=h i acc[i] (by simp);rw[e2];have h3:i<ls.length:=by lia
 have:ls[i]=l:=by
  rw[zq h3]at q;exact zy q
 simp[this]
noncomputable def pD(d e:jD):jD:=if e.n=d.n then⟨e.n,e.s,e.p+d.p,e.c+d.c⟩else e
noncomputable def kfL(H:Hp):V->List Int
 |.ref b=>match H b with
  |some (.ins _ _ fs)=>[toI ((fs.lookup ("since" :Str)).getD .non),toI ((fs.lookup ("number" :Str)).getD .non)]
  |_=>[]
 |_=>[]
def Xo{d:jD}(h:nD A H b d):kfL H (.ref b)=[d.s,d.n]:=by
 obtain⟨dx,e⟩:=h;unfold kfL
 try dsimp only
 rw[e];rfl
def anN{a b d:Int}(h:xH [a,b] [c,d] false=true):lt2 (a,b) (c,d):=by
 unfold xH at h;by_cases e:a=c
 ·rw[zi e]at h
  unfold xH at h;by_cases q:b=d
  ·rw[zi q]at h
   cases h
  ·rw[zf q]at h
   exact .inr ⟨e,yf h⟩
 ·rw[zf e]at h
  exact .inl (yf h)
inductive Jr(A:Adr)(vs:List V)(H:Hp)(Q:VK)(E:XK):Prop
 |mk (q x:Addr) (ls:RL) (d:jD) (_:vs=[.ref q,.ref x]) (_:H q=some (.lst (jH ls))) (_:lD A H ls) (_:nD A H x d) (_:ls.length<=61) (_:(ls.map (·.2.n)).Nodup) (_:∀l ls' H',Same H H'->H l=none->H' l=some (.lst (jH ls'))->lD A H' ls'->(d.n∈ls.map (·.2.n)->ls'.map (·.2)=(ls.map (·.2)).map (pD d))->(d.n∉ls.map (·.2.n)->(ls'.map (·.2)).Perm (ls.map (·.2)++[d])/\(pls ls').Pairwise lt2)->Q (.ref l) H'):Jr A vs H Q E
def SM:kI P w K mg base CX0 4 A.a5 D.a5 ["lots", "lot"] (Jr A):=by
 refine T.c8.F.okv RP λ_ _ _ _ H vs Q E hr h=>?_
 ·obtain⟨q,x,ls,d,rfl,hq,hL,⟨dx,hx⟩,hl,hu,k⟩:=h
  refine ⟨_,(jb (kE (qp (jy (Qn (K:=K) rfl) (by rfl) T.d8 (by decide+kernel) (iY (jW (cap:=[none,some 1]) (N':=["one", "lot"]) rfl (by walk_at "c") (jP (K:=K) (pv 0)) (λ_ _ _ _=>(jk (i:=0) (show(["one", "lot"]:List Str).Nodup from by decide+kernel) rfl orl orr)) (λ_ _ _ _=>kh) (λ_ _ _ _=>(uP (nA) (fv K 0) (fv K 1) (jx _)))) jc))) (je (jq (jW (cap:=[none,some 1]) (N':=["one", "lot"]) rfl (by walk_at "c") (jP (K:=K) (pv 0)) (λ_ _ _ _=>(jk (i:=0) (show(["one", "lot"]:List Str).Nodup from by decide+kernel) rfl orl orr)) (λ_ _ _ _=>kh) (λ_ _ _ _=>(Eu (jl (nA) (fv K 0) (fv K 1) (jx _)) (jN (pv 0) (mc T.fK T.gn (wN T) hr (Bf T) .nil) jR (iY (fv K 1) (iY (fv K 1) jc))) (pvD 0)))))) jC)
   (je (jq (Kd (K:=K) (by rfl) (Mm (JR (K:=K) T) (hr.mono (by decide)) (Lj T) (by rfl) T.dZ (by decide+kernel) (by rfl) T.c5.m (iY (jw Xv (pvD 0) (lE (pav 1 jc))) jc)))))),?_⟩
  simp only[start_eq];walk_at "m";have ax:nD A H x d:=⟨dx,hx⟩;refine⟨⟨_,jh hq⟩,?_⟩;refine lU.listE (K:=K) (λσ=>∃a,σ=[a,some (.ref x)]) (λi v _=>∃l,ls[i]? =some l/\v=.bl (decide (l.2.n=d.n))) (jh hq) ⟨_,rfl⟩ (by rw[jr,zw];lia) ?_ ?_
  ·rintro Da i y hy σ H5 R ⟨_,rfl⟩ sm hD _ kk
   obtain⟨l,ab,rfl⟩:=kO hy;obtain⟨dy,aa⟩:=(hL l (get_mem ab)).same sm;walk_at "i";refine rd aa T.fK T.fL (by rfl) (rd (sm _ _ hx) T.fK T.fL (by rfl) (?_));exact⟨rfl,kk _ _ H5 ⟨_,rfl⟩ (same_refl _) λH' _=>⟨l,ab,by simp⟩⟩
  ·intro Da H1 acc hD sm hA aq hF
   have ao:acc=(ls.map λl=>decide (l.2.n=d.n)).map V.bl:=aag (by rw[aq,jr]) hF;rw[ao]at hA;walk_at "i";refine⟨_,jh hA,?_⟩;have bb:=hL.same sm;have ar:=sm _ _ hx;have ag:=sm _ _ hq;by_cases hm:d.n∈ls.map (·.2.n)
   ·obtain⟨l0,af,e0⟩:=zc.mp hm
    rw[zi (yx.mpr ⟨true,zc.mpr ⟨l0,af,zH e0⟩,rfl⟩)];refine⟨⟨_,jh ag⟩,?_⟩;refine lU.listE (K:=K) (λσ=>∃a,σ=[a,some (.ref x)]) (λi v H'=>∃b l,ls[i]? =some l/\v=.ref b/\nD A H' b (pD d l.2)) (jh ag) ⟨_,rfl⟩ (by rw[jr,zw];lia) ?_ ?_
    ·rintro Db i y hy σ H5 R ⟨_,rfl⟩ aj al ⟨akJ,ap⟩ kk
     obtain⟨l,ab,rfl⟩:=kO hy;obtain⟨dy,aa⟩:=(bb l (get_mem ab)).same aj;have ai:=aj _ _ ar;walk_at "i";refine rd aa T.fK T.fL (by rfl) (rd ai T.fK T.fL (by rfl) ⟨rfl,?_⟩);by_cases e:l.2.n=d.n
     ·rw[zi (by simp[e])]
      refine md aa zg (by rfl) (rd ai T.fK T.fN (by rfl) (rd ai T.fK T.fO (by rfl) ⟨l.1,l.2,d.p,d.c,rfl,⟨dy,aa⟩,λz H6 s6 hz hZ=>kk (.ref z) _ H6 ⟨_,rfl⟩ s6 λH' hb=>⟨z,l,ab,rfl,?_⟩⟩));unfold pD;rw[zi e];exact hZ.but (λe=>by rw[e,ap]at hz;cases hz) hb
     ·rw[zf (by simp[e])]
      refine kk (.ref l.1) _ H5 ⟨_,rfl⟩ (same_refl _) λH' hb=>⟨l.1,l,ab,rfl,?_⟩;unfold pD;rw[zf e];exact nD.but ⟨dy,aa⟩ (λe=>by rw[e,ap]at aa;cases aa) hb
    ·intro Db H4 an al au bc ac ay
     rw[jr]at ac
     obtain ⟨as,q1,q2,q3⟩:=Th (λ_ H r=>nD A H r.1 r.2) (H:=H4) (acc:=an) (ds:=(ls.map (·.2)).map (pD d)) (by rw[ac,za,za]) λi v hv=>by
      obtain⟨b,l,h1,h2,h3⟩:=ay i v hv;exact⟨b,_,by rw[zo,zo,h1];rfl,h2,h3⟩
     exact k Db as H4 (sm.trans au) (sm.free al) (q1▸bc) q3 (λ_=>q2) λh=>(h hm).elim
   ·rw[zf (λh=>hm ?_)]
    ·obtain⟨os,ad⟩:∃os:RL,os=ls++[(x,d)]:=⟨_,rfl⟩
     have ak:jH ls++[V.ref x]=jH os:=by rw[ad];unfold jH;rw[zp];rfl
     refine⟨sz,λp hp=>⟨_,ji hp _ _ ag,_,jd,by rw[jr,zw];show ls.length+1<=_;lia,λp1 ba=>?_⟩⟩;rw[ak];have s2:=sm.trans ((ji (o:=.lst [V.ref x]) hp).trans (ji (o:=.lst (jH os)) ba));have h2:(upd (upd H1 p (.lst [V.ref x])) p1 (.lst (jH os))) p1=some (.lst (jH os)):=jd;generalize upd (upd H1 p (.lst [V.ref x])) p1 (.lst (jH os))=H2 at s2 h2
     have hO:lD A H2 os:=λo ho=>by
      rw[ad]at ho;rcases zD.mp ho with ho|ho
      ·exact(hL o ho).same s2
      ·obtain rfl:=zr.mp ho
       exact ax.same s2
     have bd:os.length<=62:=by rw[ad,zC,yn];lia
     refine⟨_,jh h2,by rw[jr];lia,kfL H2,λy hy=>?_,λp2 zs H3 s3 hn hz ah am=>?_⟩
     ·obtain⟨o,ho,rfl⟩:=zc.mp hy
      rw[Xo (hO o ho)];refine⟨by simp,λH5 s5 R hR=>⟨o.1,o.2,rfl,(hO o ho).same s5,λt ht=>hR t _ (ji ht) ?_⟩⟩;rw[Xo (hO o ho)];exact jd
     ·obtain⟨aw,rfl,ae⟩:=Lx (f:=λr:Addr×jD=>V.ref r.1) ah rfl
      refine k p2 aw H3 (s2.trans s3) (s2.free hn) hz (λr hr=>(hO r (ae.mem_iff.mp hr)).same s3) (λh=>(hm h).elim) λ_=>⟨?_,?_⟩
      ·have:=ae.map (·.2)
       rw[ad,zp]at this;exact this
      ·have kf:∀o∈os,kfL H2 (V.ref o.1)=[o.2.s,o.2.n]:=λo ho=>Xo (hO o ho)
       have av:(os.map λo=>o.2.n).Nodup:=by
        rw[ad,zp];refine yB.mpr ⟨hu,by simp,λy hy x hx=>?_⟩;have:x=d.n:=zr.mp hx;rw[this];exact λe=>hm (e▸hy)
       have h1:=am 2 (λy hy=>by
        obtain⟨o,ho,rfl⟩:=zc.mp hy;rw[kf o ho];rfl) (by
        unfold jH;rw[zu,show os.map (kfL H2∘λr=>V.ref r.1)=os.map (λo=>[o.2.s,o.2.n])from zQ λo ho=>kf o ho];refine zY.mpr ((zY.mp av).imp λaz e=>az ?_);injection e with _ e
        injection e)
       unfold pls;rw[zu];refine zY.mpr ((zY.mp h1).imp_of_mem fun{a c} ha hc hl=>?_);rw[kf a (ae.mem_iff.mp ha),kf c (ae.mem_iff.mp hc)]at hl;exact anN hl
    ·obtain⟨b,hb,eb⟩:=yx.mp h
     obtain⟨l0,af,e0⟩:=zc.mp hb;have eb:b=true:=eb;rw[eb]at e0;exact zc.mpr ⟨l0,af,yf e0⟩
def Wg{ns:List Int}{ls ms:RL}{d:jD}(hO:ShO ns ls)(hd:1<=d.p)(ac:0<=d.c)(hn:d.n∈ns)(e1:d.n∈ls.map (·.2.n)->ms.map (·.2)=(ls.map (·.2)).map (pD d))(e2:d.n∉ls.map (·.2.n)->(ms.map (·.2)).Perm (ls.map (·.2)++[d])/\(pls ms).Pairwise lt2):ShO ns ms/\pcs ms=pcs ls+d.p:=by
 have h:=hO.toShp;have fn:∀l:RL,l.map (·.2.n)=(l.map (·.2)).map jD.n:=λl=>by rw[zu];rfl
 have fp:∀l:RL,pcs l=((l.map (·.2)).map jD.p).sum:=λl=>by unfold pcs;rw[zu];rfl
 by_cases hm:d.n∈ls.map (·.2.n)
 ·have e:=e1 hm
  have aa:ms.map (·.2.n)=ls.map (·.2.n):=by
   rw[fn,fn,e,zu];exact zQ λx _=>by show(pD d x).n=x.n;unfold pD;split<;>rfl
  refine⟨⟨⟨by rw[aa];exact h.u,λl hl=>?_,λl hl=>?_,λl hl=>?_⟩,?_⟩,?_⟩
  rotate_left 3
  ·unfold pls
   rw[e,zu,zQ (g:=plD) λx _=>by show plD (pD d x)=plD x;unfold pD;split<;>rfl];exact hO.o
  rotate_right 3
  ·have:l.2∈(ls.map (·.2)).map (pD d):=e▸zc.mpr ⟨l,hl,rfl⟩
   obtain⟨x,hx,e'⟩:=zc.mp this;obtain⟨q,hq,rfl⟩:=zc.mp hx;have:=h.p q hq;rw[<-e'];unfold pD;split
   ·show 1<=q.2.p+d.p;lia
   ·exact this
  ·have:l.2.n∈ms.map (·.2.n):=zc.mpr ⟨l,hl,rfl⟩
   rw[aa]at this;obtain⟨q,hq,e'⟩:=zc.mp this;exact e'▸h.m q hq
  ·have:l.2∈(ls.map (·.2)).map (pD d):=e▸zc.mpr ⟨l,hl,rfl⟩
   obtain⟨x,hx,e'⟩:=zc.mp this;obtain⟨q,hq,rfl⟩:=zc.mp hx;have:=h.c q hq;rw[<-e'];unfold pD;split
   ·show 0<=q.2.c+d.c;lia
   ·exact this
  ·rw[fp,fp,e]
   obtain⟨q,hq,eq⟩:=zc.mp hm;have hu:=h.u;rw[fn]at hu
   have c:=vy (f:=λx=>(pD d x).p) (g:=jD.p) hu (zc.mpr ⟨q,hq,rfl⟩) λx _ ad=>by
    show(pD d x).p=x.p;unfold pD;rw[zf (λz=>ad (z.trans eq.symm))]
   rw[zu];show((ls.map (·.2)).map λx=>(pD d x).p).sum=_;rw[c];show _ - q.2.p+(pD d q.2).p=_;unfold pD;rw[zi eq];show _ - q.2.p+(q.2.p+d.p)=_;lia
 ·obtain⟨e,eo⟩:=e2 hm
  have ab:=e.map jD.n;rw[zp,<-fn,<-fn]at ab;refine⟨⟨⟨ab.nodup_iff.mpr (yB.mpr ⟨h.u,zN.mpr ⟨zj,.nil⟩,λa ha b hb=>?_⟩),λl hl=>?_,λl hl=>?_,λl hl=>?_⟩,eo⟩,?_⟩
  ·have:b=d.n:=zr.mp hb
   rw[this];exact λz=>hm (z▸ha)
  ·rcases zD.mp (e.mem_iff.mp (zc.mpr ⟨l,hl,rfl⟩))with g|g
   ·obtain⟨q,hq,e'⟩:=zc.mp g
    exact e'▸h.p q hq
   ·rw[zr.mp g];exact hd
  ·rcases zD.mp (e.mem_iff.mp (zc.mpr ⟨l,hl,rfl⟩))with g|g
   ·obtain⟨q,hq,e'⟩:=zc.mp g
    exact e'▸h.m q hq
   ·rw[zr.mp g];exact hn
  ·rcases zD.mp (e.mem_iff.mp (zc.mpr ⟨l,hl,rfl⟩))with g|g
   ·obtain⟨q,hq,e'⟩:=zc.mp g
    exact e'▸h.c q hq
   ·rw[zr.mp g];exact ac
  ·rw[fp,fp,Np (e.map jD.p),zp,yX]
   simp
noncomputable def Xb(m o:Int)(ps:List Int)(i:Nat):Int:=(ps.take (i+1)).sum*m/o - (ps.take i).sum*m/o
noncomputable def Zy(m o:Int)(ps:List Int):List Int:=(List.range ps.length).map (Xb m o ps)
def Vs(m o:Int)(ps:List Int):(Zy m o ps).length=ps.length:=by unfold Zy;simp
def Uw{o:Int}{ps:List Int}(h:i<ps.length):(Zy m o ps)[i]? =some (Xb m o ps i):=by
 unfold Zy;rw[zo,zz2 h];rfl
def Zn{o:Int}{ps:List Int}(h:i<ps.length):(Zy m o ps).take (i+1)=(Zy m o ps).take i++[Xb m o ps i]:=by
 rw[zK,Uw h];rfl
def Um{ps:List Int}(h:ps[i]? =some p):(ps.take (i+1)).sum=(ps.take i).sum+p:=by
 rw[zK,h];simp
structure Mo(m o:Int):Prop where
 a:1<=m/\m<=10000000
 b:1<=o/\o<=10000000
def Mo.mul{o x:Int}(h:Mo m o):Dh x m:=JM (by have:=h.a;lia) (by have:=h.a;lia)
def Mo.div{o x:Int}(h:Mo m o):GX x o:=⟨by have:=h.b;lia,yv (show o.natAbs<=10000000 by have:=h.b;lia) (zL (show 10000000<2^24 by decide) (yy (by decide) (by decide)))⟩
noncomputable def stp(st:List jD×Int)(d:jD)(c:Int):List jD×Int:=if c=0 then(st.1,st.2+d.c)else(st.1++[⟨d.n,d.s,c,d.c+st.2⟩],0)
noncomputable def stI(m o:Int)(ds:List jD):Nat->List jD×Int
 |0=>([],0)
 |i+1=>match ds[i]? with
  |some d=>stp (stI m o ds i) d (Xb m o (ds.map jD.p) i)
  |none=>stI m o ds i
def Ht{o:Int}{ds:List jD}{d:jD}(h:ds[i]? =some d):stI m o ds (i+1)=stp (stI m o ds i) d (Xb m o (ds.map jD.p) i):=by
 rw[stI,h]
noncomputable def aaq(st:List jD×Int):List jD:=match st.1.getLast? with
 |some d=>st.1.dropLast++[⟨d.n,d.s,d.p,d.c+st.2⟩]
 |none=>[]
def Aq(r:List jD)(d:jD)(g:Int):aaq (r++[d],g)=r++[⟨d.n,d.s,d.p,d.c+g⟩]:=by
 unfold aaq;simp
inductive Ax(A:Adr)(vs:List V)(H:Hp)(Q:VK)(E:XK):Prop
 |mk (q:Addr) (ls:RL) (m o:Int) (_:vs=[.ref q,.int m,.int o]) (_:H q=some (.lst (jH ls))) (_:lD A H ls) (_:ls.length<=100) (_:Mo m o) (_:∀p H',Same H H'->H p=none->H' p=some (.lst ((Zy m o (ls.map λl=>l.2.p)).map V.int))->Q (.ref p) H'):Ax A vs H Q E
def Ih:kI P w K mg base CX0 1 A.bw D.bw ["lots", "many", "of"] (Ax A):=by
 refine T.dA.F.okv lB λ_ _ _ _ H vs Q E hr h=>?_
 ·obtain⟨q,ls,m,o,rfl,hq,hL,hl,hM,k⟩:=h
  refine ⟨_,(jb (jm (i:=3) lB.nd rfl orl (lE jc))
   (jb (jm (i:=4) lB.nd rfl orl jf)
   (jb (jm (i:=5) lB.nd rfl orl jf)
   (jb (oh zR rfl (jP (K:=K) (pv 0)) (jk (i:=6) lB.nd rfl orl)
    (jb (jm (i:=4) lB.nd rfl orl (jw jZ (pvD 4) (fv K 6)))
    (jb (jm (i:=7) lB.nd rfl orl (jw nP (jw nq (pvD 4) (pvD 1)) (pvD 2)))
    (jb (jA (tD (K:=K) zP zV zW mJ (pvD 3) (iY (jw pq (pvD 7) (pvD 5)) jc)))
    (je (jm (i:=5) lB.nd rfl orl (pvD 7)))))))
   (je (jq (pvD 3))))))),?_⟩
  simp only[start_eq];walk_at "m";refine⟨sz,λp hp=>?_⟩;have s1:=ji (o:=.lst []) hp;have h1:(upd H p (.lst [])) p=some (.lst []):=jd;generalize upd H p (.lst [])=H1 at s1 h1
  iterate 2 walk_at "m"
  rw[ap_seq,ap_for];walk_at "i";refine⟨⟨_,jh (s1 _ _ hq)⟩,?_⟩;obtain⟨ps,aa⟩:∃ps,(ls.map λl=>l.2.p)=ps:=⟨_,rfl⟩;have ac:ps.length=ls.length:=by rw[<-aa,za]
  rw[aa]at k
  refine qu (K:=K) (a:=q) (xs:=jH ls) (λi σ H2=>(∃v6 v7,σ=[some (.ref q),some (.int m),some (.int o),some (.ref p),some (.int (ps.take i).sum),some (.int ((ps.take i).sum*m/o)),v6,v7])/\Same H H2/\H2 p=some (.lst (((Zy m o ps).take i).map V.int)))
   ⟨⟨none,none,by simp⟩,s1,h1⟩ (λi σ H2 _ ⟨_,s2,_⟩=>s2.seq (jh hq)) ?_ ?_
  ·rintro i y σ H2 hy ⟨⟨v6,v7,rfl⟩,s2,h2⟩
   obtain⟨l,z,rfl⟩:=kO hy;have ae:i<ls.length:=(zk.mp z).1;have ad:ps[i]? =some l.2.p:=by rw[<-aa,zo,z];rfl
   obtain⟨dx,ab⟩:=(hL l (get_mem z)).same s2;walk_at "i";walk_at "m";refine rd ab T.fK T.fN (by rfl) ⟨_,rfl,?_⟩;rw[<-Um ad];walk_at "m";refine⟨hM.mul,hM.div,?_⟩;walk_at "m";refine⟨.inl ⟨rfl,_,jh h2⟩,_,h2,?_,?_⟩
   ·rw[za,zT,zw];lia
   refine⟨s2.upd hp,?_⟩;rw[jd,Zn (by lia),zp];rfl
  ·rintro σ H2 ⟨⟨v6,v7,rfl⟩,s2,h2⟩
   rw[jr,<-ac,<-Vs m o ps,zX]at h2;walk_at "a";exact k p H2 s2 hp h2
theorem Rq{m o:Int}(hM:Mo m o){ds:List jD}(h:∀d∈ds,1<=d.p/\0<=d.c):∀i,i<=ds.length->((stI m o ds i).1.map jD.n).Sublist ((ds.take i).map jD.n)/\(0<=(stI m o ds i).2/\∀d∈(stI m o ds i).1,1<=d.p/\0<=d.c)/\((stI m o ds i).1.map jD.p).sum=((ds.map jD.p).take i).sum*m/o
 |0,_=>⟨List.nil_sublist _,⟨yR _,λd hd=>(zj hd).elim⟩,by simp[stI]⟩
 |i+1,hi=>by
  obtain⟨i1,z,i3⟩:=Rq hM h i (by lia);obtain⟨d,hd⟩:∃d,ds[i]? =some d:=⟨_,zq (by lia)⟩;have ab:=h d (zh hd);have hs:=Um (ps:=ds.map jD.p) (i:=i) (p:=d.p) (by rw[zo,hd];rfl)
  have hc:0<=Xb m o (ds.map jD.p) i:=by
   unfold Xb;have:(((ds.map jD.p).take i).sum*m)/o<=(((ds.map jD.p).take (i+1)).sum*m)/o:=zzS (by have:=hM.b;lia) (Int.mul_le_mul_of_nonneg_right (by lia) (by have:=hM.a;lia));lia
  have aa:((ds.map jD.p).take (i+1)).sum*m/o=((ds.map jD.p).take i).sum*m/o+Xb m o (ds.map jD.p) i:=by unfold Xb;lia
  rw[Ht hd,aa,<-i3];have ht:ds.take (i+1)=ds.take i++[d]:=by rw[zK,hd];rfl
  generalize Xb m o (ds.map jD.p) i=c at hc;rw[ht,zp];unfold stp;split
  ·next e=>exact⟨i1.trans (y6 _ _),⟨by show 0<=(stI m o ds i).2+d.c;have:=z.1;lia,z.2⟩,by rw[e,Int.add_zero]⟩
  ·next e=>
   refine⟨?_,⟨yR _,λx q=>?_⟩,?_⟩
   ·show(((stI m o ds i).1++[_]).map jD.n).Sublist _
    rw[zp];exact i1.append (yM _)
   ·rcases zD.mp q with q|q
    ·exact z.2 x q
    ·rw[zr.mp q]
     have:=z.1;exact⟨by show 1<=c;lia,by show 0<=d.c+(stI m o ds i).2;lia⟩
   ·show(((stI m o ds i).1++[_]).map jD.p).sum=_
    rw[zp,yX];simp
theorem ajf{m o:Int}{ds:List jD}:∀i,i<=ds.length->((stI m o ds i).1.map plD).Sublist ((ds.take i).map plD)
 |0,_=>List.nil_sublist _
 |i+1,hi=>by
  have q:=ajf (m:=m) (o:=o) (ds:=ds) i (by lia);obtain⟨d,hd⟩:∃d,ds[i]? =some d:=⟨_,zq (by lia)⟩;have z:ds.take (i+1)=ds.take i++[d]:=by rw[zK,hd];rfl
  rw[Ht hd,z,zp];unfold stp;split
  ·exact q.trans (y6 _ _)
  ·show(((stI m o ds i).1++[_]).map plD).Sublist _
   rw[zp];exact q.append (yM _)
def ajt(r:List jD)(g:Int):(aaq (r,g)).map plD=r.map plD:=by
 rcases zzp r with rfl|⟨q,z,rfl⟩
 ·rfl
 ·rw[zzq,Aq]
  simp[plD]
def aah(r:List jD)(g:Int):(aaq (r,g)).map jD.n=r.map jD.n/\(aaq (r,g)).map jD.p=r.map jD.p:=by
 rcases zzp r with rfl|⟨q,z,rfl⟩
 ·exact⟨rfl,rfl⟩
 ·rw[zzq,Aq]
  exact⟨by simp,by simp⟩
def akB{r:List jD}{g:Int}(hg:0<=g)(h:∀d∈r,0<=d.c):∀d∈aaq (r,g),0<=d.c:=by
 rcases zzp r with rfl|⟨q,z,rfl⟩
 ·exact λd hd=>(zj hd).elim
 ·rw[zzq]at h⊢
  rw[Aq];intro d hd;rcases zD.mp hd with hd|hd
  ·exact h d (yg _ hd)
  ·rw[zr.mp hd]
   have:=h z (zF _ (.head _));show 0<=z.c+g;lia
theorem Vu{m o:Int}{ds:List jD}:∀i,i<=ds.length->((stI m o ds i).1.map jD.c).sum+(stI m o ds i).2=((ds.take i).map jD.c).sum
 |0,_=>by simp[stI]
 |i+1,hi=>by
  have q:=Vu (m:=m) (o:=o) (ds:=ds) i (by lia);obtain⟨d,hd⟩:∃d,ds[i]? =some d:=⟨_,zq (by lia)⟩;have z:ds.take (i+1)=ds.take i++[d]:=by rw[zK,hd];rfl
  rw[Ht hd,z,zp,yX,<-q];generalize Xb m o (ds.map jD.p) i=c;unfold stp;split
  ·simp;lia
  ·simp;lia
def ZD(r:List jD)(g:Int)(h:r≠[]):((aaq (r,g)).map jD.c).sum=(r.map jD.c).sum+g:=by
 rcases zzp r with rfl|⟨q,z,rfl⟩
 ·exact(h rfl).elim
 ·rw[zzq,Aq]
  simp;lia
def Tw{o:Int}(hM:Mo m o){ns:List Int}{ls:RL}(hO:ShO ns ls)(hw:1<=pcs ls*m/o):(stI m o (ls.map (·.2)) ls.length).1≠[]/\∀{z:RL},z.map (·.2)=aaq (stI m o (ls.map (·.2)) ls.length)->ShO ns z/\pcs z=pcs ls*m/o/\lH z=lH ls:=by
 have hS:=hO.toShp;have aa:=ajf (m:=m) (o:=o) (ds:=ls.map (·.2)) ls.length (by rw[za];lia);rw[z3 (by rw[za];lia)]at aa;have fn:∀l:RL,l.map (·.2.n)=(l.map (·.2)).map jD.n:=λl=>by rw[zu];rfl
 have fp:∀l:RL,pcs l=((l.map (·.2)).map jD.p).sum:=λl=>by unfold pcs;rw[zu];rfl
 obtain⟨a,b,c⟩:=Rq hM (ds:=ls.map (·.2)) (λd hd=>by obtain⟨l,hl,rfl⟩:=zc.mp hd;exact⟨hS.p l hl,hS.c l hl⟩) ls.length (by rw[za];lia);rw[z3 (by rw[za];lia)]at a;rw[z3 (by rw[za,za];lia),<-fp]at c;have cc:=Vu (m:=m) (o:=o) (ds:=ls.map (·.2)) ls.length (by rw[za];lia);rw[z3 (by rw[za];lia),<-nG]at cc;generalize stI m o (ls.map (·.2)) ls.length=st at a b c cc aa;obtain⟨r,g⟩:=st
 have ab:r≠[]:=λe=>by
  subst e;have c:(0:Int)=_:=c;lia
 refine⟨ab,fun{z} e=>?_⟩
 ·obtain⟨f1,f2⟩:=aah r g
  have hn:z.map (·.2.n)=r.map jD.n:=by rw[fn,e,f1]
  have hp:(z.map (·.2)).map jD.p=r.map jD.p:=by rw[e,f2]
  refine⟨hO.sub ⟨by rw[hn];exact yV a (fn ls▸hS.u),λl hl=>?_,λl hl=>?_,λl hl=>akB b.1 (λd hd=>(b.2 d hd).2) l.2 (e▸zc.mpr ⟨l,hl,rfl⟩)⟩ (by unfold pls;rw[e,ajt];exact aa),by rw[fp,hp];exact c,by rw[nG,e,ZD r g ab];exact cc⟩
  ·have:l.2.p∈(z.map (·.2)).map jD.p:=zc.mpr ⟨l.2,zc.mpr ⟨l,hl,rfl⟩,rfl⟩
   rw[hp]at this;obtain⟨x,hx,e'⟩:=zc.mp this;exact e'▸(b.2 x hx).1
  ·have:l.2.n∈z.map (·.2.n):=zc.mpr ⟨l,hl,rfl⟩
   rw[hn]at this;have:=a.subset this;rw[<-fn]at this;obtain⟨q,hq,e'⟩:=zc.mp this;exact e'▸hS.m q hq
inductive FQ(A:Adr)(vs:List V)(H:Hp)(Q:VK)(E:XK):Prop
 |mk (q:Addr) (ls:RL) (m o:Int) (ns:List Int) (_:vs=[.ref q,.int m,.int o]) (_:H q=some (.lst (jH ls))) (_:lD A H ls) (_:ls.length<=100) (_:Mo m o) (_:ShO ns ls) (_:(ls=[]\/1<=pcs ls*m/o)) (_:∀l l' H',Same H H'->H l=none->H' l=some (.lst (jH l'))->lD A H' l'->ShO ns l'->pcs l'=pcs ls*m/o->lH l'=lH ls->Q (.ref l) H'):FQ A vs H Q E
def Rr:kI P w K mg base CX0 4 A.bx D.bx ["lots", "many", "of"] (FQ A):=by
 refine T.dB.F.okv mQ λ_ _ _ _ H vs Q E hr h=>?_
 ·obtain⟨q,ls,m,o,ns,rfl,hq,hL,hl,hM,hS,hw,kk⟩:=h
  refine ⟨_,(jb (kE (jl (nA) (jy (lX (K:=K)) (by rfl) T.dT (by decide+kernel) (pav 0 jc)) jf (jx _)) (je (jq (lE jc))) jC)
   (jb (jm (i:=3) mQ.nd rfl orl (lE jc))
   (jb (jm (i:=4) mQ.nd rfl orl jf)
   (jb (oh zR rfl (Mz (K:=K) (by rfl) T.d0 (pav 0 (iY (pcg (Ih T) hr T.dA (Le T) (pav 0 (pav 1 (pav 2 jc)))) jc))) (pY (K:=K) (n:=2) rfl (jG (jk (i:=5) mQ.nd rfl orl) (jG (jk (i:=6) mQ.nd rfl orl) oF)))
    (je (kE (jl (nA) (pvD 6) jf (jx _)) (je (jm (i:=4) mQ.nd rfl orl (jw jZ (pvD 4) (fv K 5)))) (jb (jA (tD (K:=K) zP zV zW mJ (pvD 3) (iY (mF T.f0 (kW (K:=K) T) (hr.mono (by decide)) (by rfl) T.ek (lu T) .nil jR (iY (fv K 5) (iY (fv K 5) (pav 6 (iY (jw jZ (fv K 5) (pvD 4)) jc))))) jc)))
     (je (jm (i:=4) mQ.nd rfl orl jf))))))
   (jb (kE (jl (nA) (jy (lX (K:=K)) (by rfl) T.dT (by decide+kernel) (pav 3 jc)) jf (jx _)) (je (mC)) jC)
   (jb (jm (i:=7) mQ.nd rfl orl (HS (K:=K) zP PySem.F.slot_list_pop PySem.F.type_list_pop amr (pvD 3)))
   (jb (jA (tD (K:=K) zP zV zW mJ (pvD 3) (iY (jN (pv 7) (mc T.fK T.gn (wN T) hr (Bf T) .nil) jR (iY jf (pav 4 jc))) jc)))
   (je (jq (pvD 3)))))))))),?_⟩
  simp only[start_eq];walk_at "m";refine⟨_,.inl (jh hq),?_⟩;rw[jr];by_cases h0:ls=[]
  ·subst h0
   rw[zi (by simp)];exact⟨sz,λp hp=>kk p [] _ (ji hp) hp jd (λr h=>(zj h).elim) .nil (by unfold pcs;simp) rfl⟩
  ·have bh:0<ls.length:=yP.mpr h0
   have hw:1<=pcs ls*m/o:=hw.resolve_left h0;obtain⟨ax,al⟩:=Tw hM hS hw;have k:∀l l' H',Same H H'->H l=none->H' l=some (.lst (jH l'))->lD A H' l'->l'.map (·.2)=aaq (stI m o (ls.map (·.2)) ls.length)->Q (.ref l) H':=λl l' H' a b c d e=>kk l l' H' a b c d (al e).1 (al e).2.1 (al e).2.2;rw[zf (by lia)];walk_at "m";refine⟨sz,λpr ab=>?_⟩;have s1:=ji (o:=.lst []) ab;have h1:(upd H pr (.lst [])) pr=some (.lst []):=jd;generalize upd H pr (.lst [])=H1 at s1 h1;walk_at "m";rw[ap_seq,ap_for];walk_at "i";have ep:(ls.map λl=>l.2.p)=(ls.map (·.2)).map jD.p:=by rw[zu];rfl
   obtain⟨ds,ap⟩:∃ds,ls.map (·.2)=ds:=⟨_,rfl⟩;have bd:ds.length=ls.length:=by rw[<-ap,za]
   rw[ap]at ep k ax;refine⟨q,ls,m,o,rfl,s1 _ _ hq,hL.same s1,hl,hM,λpc H2 s2 ae af=>⟨pc,rfl,⟨_,jh (s2 _ _ (s1 _ _ hq))⟩,⟨_,jh af⟩,?_⟩⟩;rw[ep]at af;have S2:=s1.trans s2;have as:pr≠pc:=λe=>by rw[<-e,h1]at ae;cases ae
   have an:(jH ls).length=((Zy m o (ds.map jD.p)).map V.int).length:=by rw[jr,za,Vs,za,bd]
   refine Eg.zip (K:=K) (a:=q) (b:=pc) (xs:=jH ls) (ys:=(Zy m o (ds.map jD.p)).map V.int) (λi σ H3=>∃(r:RL)(v5 v6 v7:Option V),σ=[some (.ref q),some (.int m),some (.int o),some (.ref pr),some (.int (stI m o ds i).2),v5,v6,v7]/\Same H H3/\H3 pr=some (.lst (jH r))/\H3 pc=some (.lst ((Zy m o (ds.map jD.p)).map V.int))/\lD A H3 r/\r.map (·.2)=(stI m o ds i).1/\r.length<=i) an
    ⟨[],none,none,none,rfl,S2,s2 _ _ h1,af,λr h=>(zj h).elim,rfl,zM _⟩ (λi σ H3 _ ⟨_,_,_,_,_,s3,_,h3,_⟩=>⟨s3.seq (jh hq),jh h3⟩) ?_ ?_
   ·rintro i x y σ H3 pt hx hy ⟨r,v5,v6,v7,rfl,s3,h3,aw,ad,aa,am⟩ bg
    obtain⟨l,ah,rfl⟩:=kO hx;obtain⟨c,rfl,ay⟩:=wg hy;have bl:i<ls.length:=(zk.mp ah).1;have az:ds[i]? =some l.2:=by rw[<-ap,zo,ah];rfl
    rw[Uw (by rw[za];lia)]at ay;obtain rfl:=zy ay;obtain⟨dx,bf⟩:=(hL l (get_mem ah)).same s3;have ai:=Ht (m:=m) (o:=o) az;generalize bj:Xb m o (ds.map jD.p) i=c at ai;generalize stI m o ds i=st0 at aa ai⊢;obtain⟨r0,g0⟩:=st0;have aa:r.map (·.2)=r0:=aa
    try dsimp only
    have n4:=ji (o:=.tup [V.ref l.1,V.int c]) bg;have au:(upd H3 pt (.tup [V.ref l.1,V.int c])) pt=some (.tup [V.ref l.1,V.int c]):=jd;have S4:=s3.trans n4;have h4:=n4 _ _ h3;have aj:=n4 _ _ aw;have ak:=ad.same n4;have ac:=n4 _ _ bf;generalize upd H3 pt (.tup [V.ref l.1,V.int c])=H4 at S4 h4 aj ak ac au;walk_at "i";refine⟨_,jE au,rfl,_,_,rfl,_,_,rfl,rfl,?_⟩;rw[ai];unfold stp;by_cases ao:c=0
    ·subst ao
     rw[zi rfl];refine⟨rfl,?_⟩;rw[zi rfl];exact rd ac T.fK T.fO (by rfl) ⟨_,rfl,rfl,S4,r,h4,aj,ak,aa,by lia⟩
    ·rw[zf ao]
     refine⟨rfl,?_⟩;rw[zf (by simpa using ao)];walk_at "m";refine⟨.inl ⟨rfl,_,jh h4⟩,rd ac T.fK T.fL (by rfl) (rd ac T.fK T.fM (by rfl) (rd ac T.fK T.fO (by rfl) ⟨_,rfl,λz dz hz bc _=>?_⟩))⟩;refine qQ (A:=A) ⟨l.2.n,l.2.s,c,l.2.c+g0⟩ hz bc λH5 s5 hZ=>?_;have h5:=s5 _ _ h4;refine⟨_,h5,by rw[jr,zw];lia,(S4.trans s5).upd ab,r++[(z,⟨l.2.n,l.2.s,c,l.2.c+g0⟩)],?_,(jn as.symm).trans (s5 _ _ aj),λx hx=>?_,by rw[zp,aa];rfl,by rw[zC];show r.length+1<=_;lia⟩
     ·rw[jd];unfold jH;rw[zp];rfl
     ·have hx':nD A H5 x.1 x.2:=by
       rcases zD.mp hx with hx|hx
       ·exact(ak x hx).same s5
       ·obtain rfl:=zr.mp hx
        exact hZ
      obtain⟨ag,e⟩:=hx';exact⟨ag,(jn λz=>by rw[z,h5]at e;cases e).trans e⟩
   ·rintro σ H3 ⟨r,v5,v6,v7,rfl,s3,h3,aw,ad,aa,am⟩
    rw[jr]at aa am⊢;walk_at "m";refine⟨_,.inl (jh h3),?_⟩;rw[jr];have e:r≠[]:=λz=>ax (by rw[z]at aa;exact aa.symm);have bm:0<r.length:=yP.mpr e;rw[zf (by lia)];obtain⟨r',z,rfl⟩:∃r' z,r=r'++[z]:=⟨_,_,(List.dropLast_concat_getLast e).symm⟩;generalize stI m o ds ls.length=ba at aa k;obtain⟨st,g⟩:=ba;have aa:(r'++[z]).map (·.2)=st:=aa;subst aa;rw[zp]at k
    try dsimp only
    have bb:∃dz,H3 z.1=some (.ins A.bY dz z.2.fs):=ad z (zF _ zg);obtain⟨dz,hz⟩:=bb;walk_at "m";refine⟨.inl ⟨rfl,_,jh h3⟩,pr,_,.ref z.1,rfl,rfl,h3,?_,?_⟩
    ·unfold jH;simp
    have be:(jH (r'++[z])).dropLast=jH r':=by unfold jH;simp
    rw[be];have h5:(upd H3 pr (.lst (jH r'))) pr=some (.lst (jH r')):=jd;have S5:=s3.upd (o:=.lst (jH r')) ab;have av:∀{b:Addr}{u:HO},H3 b=some u->(∀xs,u≠.lst xs)->b≠pr:=λe n z=>by rw[z,h3]at e;exact n _ (zy e).symm
    have aq:(upd H3 pr (.lst (jH r'))) z.1=some (.ins A.bY dz z.2.fs):=(jn (av hz λ_ z=>by cases z)).trans hz
    have ar:lD A (upd H3 pr (.lst (jH r'))) r':=λx hx=>by
     obtain⟨dx,e⟩:=ad x (yg _ hx);exact⟨dx,(jn (av e λ_ z=>by cases z)).trans e⟩
    generalize upd H3 pr (.lst (jH r'))=H5 at h5 S5 aq ar
    try dsimp only
    walk_at "m";refine⟨.inl ⟨rfl,_,jh h5⟩,md aq zg (by rfl) ⟨z.1,z.2,0,g,rfl,⟨dz,aq⟩,λy H6 s6 bk hY=>?_⟩⟩;have h6:=s6 _ _ h5;have bi:r'.length<101:=by rw[zC]at am;lia
    refine⟨_,h6,by rw[jr,zw];lia,k pr (r'++[(y,⟨z.2.n,z.2.s,z.2.p+0,z.2.c+g⟩)]) _ ((S5.trans s6).upd ab) ab ?_ (λx hx=>?_) ?_⟩
    ·rw[jd];unfold jH;rw[zp];rfl
    ·have hx':nD A H6 x.1 x.2:=by
      rcases zD.mp hx with hx|hx
      ·exact(ar x hx).same s6
      ·obtain rfl:=zr.mp hx
       exact hY
     obtain⟨ag,e⟩:=hx';exact⟨ag,(jn λz=>by rw[z,h6]at e;cases e).trans e⟩
    ·rw[zp]
     show _=aaq (r'.map (·.2)++[z.2],g);rw[Aq,Int.add_zero];rfl
noncomputable def prt(sh wh:Int)(d:jD):jD:=⟨d.n,d.s,d.p,d.c*sh/wh⟩
noncomputable def rst(sh wh:Int)(d:jD):jD:=⟨d.n,d.s,d.p,d.c - d.c*sh/wh⟩
structure Shr(sh wh:Int):Prop where
 a:0<=sh/\sh<=10000000
 b:1<=wh/\wh<=10000000
def Shr.mul{q z:Int}(h:Shr q z):Dh c q:=JM (by have:=h.a;lia) (by have:=h.a;lia)
def Shr.div{z q:Int}(h:Shr z q):GX 0 q:=⟨by have:=h.b;lia,yv (show q.natAbs<=10000000 by have:=h.b;lia) (zL (show 10000000<2^24 by decide) (yy (by decide) (by decide)))⟩
inductive El(A:Adr)(vs:List V)(H:Hp)(Q:VK)(E:XK):Prop
 |mk (q:Addr) (ls:RL) (sh wh:Int) (_:vs=[.ref q,.int sh,.int wh]) (_:H q=some (.lst (jH ls))) (_:lD A H ls) (_:ls.length<=100) (_:Shr sh wh) (_:∀t q1 q2 l1 l2 H',Same H H'->H q1=none->H q2=none->q1≠q2->H' t=some (.tup [.ref q1,.ref q2])->H' q1=some (.lst (jH l1))->H' q2=some (.lst (jH l2))->lD A H' l1->lD A H' l2->l1.map (·.2)=(ls.map (·.2)).map (rst sh wh)->l2.map (·.2)=(ls.map (·.2)).map (prt sh wh)->Q (.ref t) H'):El A vs H Q E
def Ov:kI P w K mg base CX0 3 A.bA D.bA ["lots", "share", "whole"] (El A):=by
 refine T.dD.F.okv qU λ_ _ _ _ H vs Q E hr h=>?_
 ·obtain⟨q,ls,sh,wh,rfl,hq,hL,hl,hW,k⟩:=h
  refine ⟨_,(jb (nT (i:=3) qU.nd rfl rfl (cap:=[none,some 1,some 2]) (N':=["lot", "share", "whole"]) rfl (by walk_at "c") (jP (K:=K) (pv 0)) (λ_ _ _ _=>(jk (i:=0) (show(["lot", "share", "whole"]:List Str).Nodup from by decide+kernel) rfl orl orr)) (λ_ _ _ _=>kh) (λ_ _ _ _=>(pcg (Ez T) hr T.di (JB T) (iY (fv K 0) (pav 1 (pav 2 jc))))))
   (jb (nT (i:=4) qU.nd rfl rfl (cap:=[none,none]) (N':=["lot", "part"]) rfl (by walk_at "c") (Mz (K:=K) (by rfl) T.d0 (pav 0 (pav 3 jc))) (λ_ _ _ _=>(pY (K:=K) (n:=2) rfl (jG (jk (i:=0) (show(["lot", "part"]:List Str).Nodup from by decide+kernel) rfl orl orr) (jG (jk (i:=1) (show(["lot", "part"]:List Str).Nodup from by decide+kernel) rfl orl orr) oF)))) (λ_ _ _ _=>kh) (λ_ _ _ _=>(mF T.f0 (kW (K:=K) T) (hr.mono (by decide)) (by rfl) T.ek (lu T) .nil jR (iY (fv K 0) (iY (fv K 0) (iY (fv K 0) (iY (jw pq (fv K 0) (pvD 1)) jc)))))))
   (jb (nT (i:=5) qU.nd rfl rfl (cap:=[none,none]) (N':=["lot", "part"]) rfl (by walk_at "c") (Mz (K:=K) (by rfl) T.d0 (pav 0 (pav 3 jc))) (λ_ _ _ _=>(pY (K:=K) (n:=2) rfl (jG (jk (i:=0) (show(["lot", "part"]:List Str).Nodup from by decide+kernel) rfl orl orr) (jG (jk (i:=1) (show(["lot", "part"]:List Str).Nodup from by decide+kernel) rfl orl orr) oF)))) (λ_ _ _ _=>kh) (λ_ _ _ _=>(mF T.f0 (kW (K:=K) T) (hr.mono (by decide)) (by rfl) T.ek (lu T) .nil jR (iY (fv K 0) (iY (fv K 0) (iY (fv K 0) (pav 1 jc)))))))
   (je (jq (nM (pav 4 (pav 5 jc)))))))),?_⟩
  simp only[start_eq];walk_at "m";refine⟨⟨_,jh hq⟩,?_⟩;refine lU.listE (K:=K) (λσ=>∃a,σ=[a,some (.int sh),some (.int wh)]) (λi v _=>∃l,ls[i]? =some l/\v=.int (l.2.c*sh/wh)) (jh hq) ⟨_,rfl⟩ (by rw[jr,zw];lia) ?_ ?_
  ·rintro Da i x hx σ H5 R ⟨_,rfl⟩ sm hD _ kk
   obtain⟨l,ab,rfl⟩:=kO hx;obtain⟨dx,aa⟩:=(hL l (get_mem ab)).same sm;walk_at "i";exact rd aa T.fK T.fO (by rfl) ⟨_,_,_,rfl,hW.mul,hW.div,kk _ _ H5 ⟨_,rfl⟩ (same_refl _) λH' _=>⟨l,ab,rfl⟩⟩
  ·intro Da H1 acc hD s1 hA ao hF
   rw[Ei (f:=λl=>l.2.c*sh/wh) (by rw[ao,jr]) hF]at hA;walk_at "m";refine⟨⟨_,jh (s1 _ _ hq)⟩,⟨_,jh hA⟩,?_⟩;refine lU.zipE (K:=K) (λσ=>∃a b,σ=[a,b]) (λi v H'=>∃b l,ls[i]? =some l/\v=.ref b/\nD A H' b (rst sh wh l.2)) (jh (s1 _ _ hq)) (jh hA) (by rw[jr,za,za]) ⟨_,_,rfl⟩ (by rw[jr,zw];lia) ?_ ?_
   ·rintro Db i x y hx hy σ H5 p R ⟨_,_,rfl⟩ ah al ⟨akJ,ak⟩ hp kk
    obtain⟨l,ab,rfl⟩:=kO hx;obtain⟨c,rfl,hc⟩:=wg hy;rw[zo,ab]at hc;obtain rfl:=zy hc;obtain⟨dx,aa⟩:=(hL l (get_mem ab)).same (s1.trans ah);have aa:=ji (o:=.tup [V.ref l.1,V.int (l.2.c*sh/wh)]) hp _ _ aa;have ad:(upd H5 p (.tup [V.ref l.1,V.int (l.2.c*sh/wh)])) p=some (.tup [V.ref l.1,V.int (l.2.c*sh/wh)]):=jd;have af:=ji (o:=.tup [V.ref l.1,V.int (l.2.c*sh/wh)]) hp _ _ ak;generalize upd H5 p (.tup [V.ref l.1,V.int (l.2.c*sh/wh)])=H6 at aa ad af kk;walk_at "i";refine⟨_,jE ad,rfl,_,_,rfl,_,_,rfl,rfl,?_⟩;refine rd aa T.fK T.fL (by rfl) (rd aa T.fK T.fM (by rfl) (rd aa T.fK T.fN (by rfl) (rd aa T.fK T.fO (by rfl) ⟨_,rfl,_,rfl,λz dz hz ai _=>?_⟩)));refine qQ (A:=A) (rst sh wh l.2) hz ai λH7 s7 hZ=>kk (.ref z) _ H7 ⟨_,_,rfl⟩ s7 λH' hb=>⟨z,l,ab,rfl,hZ.but (λe=>by rw[e,af]at hz;cases hz) hb⟩
   ·intro Db H2 am al s2 aj ae ap
    rw[jr]at ae
    obtain ⟨l1,q1,q2,q3⟩:=Th (λ_ H r=>nD A H r.1 r.2) (H:=H2) (acc:=am) (ds:=(ls.map (·.2)).map (rst sh wh)) (by rw[ae,za,za]) λi v hv=>by
     obtain⟨b,l,h1,h3,h4⟩:=ap i v hv;refine⟨b,_,?_,h3,h4⟩;rw[zo,zo,h1];rfl
    subst q1;have S2:=s1.trans s2;walk_at "m";refine⟨⟨_,jh (S2 _ _ hq)⟩,⟨_,jh (s2 _ _ hA)⟩,?_⟩;refine lU.zipE (K:=K) (λσ=>∃a b,σ=[a,b]) (λi v H'=>∃b l,ls[i]? =some l/\v=.ref b/\nD A H' b (prt sh wh l.2)) (jh (S2 _ _ hq)) (jh (s2 _ _ hA)) (by rw[jr,za,za]) ⟨_,_,rfl⟩ (by rw[jr,zw];lia) ?_ ?_
    ·rintro Dc i x y hx hy σ H5 p R ⟨_,_,rfl⟩ ah ag ⟨akJ,ak⟩ hp kk
     obtain⟨l,ab,rfl⟩:=kO hx;obtain⟨c,rfl,hc⟩:=wg hy;rw[zo,ab]at hc;obtain rfl:=zy hc;obtain⟨dx,aa⟩:=(hL l (get_mem ab)).same (S2.trans ah);have aa:=ji (o:=.tup [V.ref l.1,V.int (l.2.c*sh/wh)]) hp _ _ aa;have ad:(upd H5 p (.tup [V.ref l.1,V.int (l.2.c*sh/wh)])) p=some (.tup [V.ref l.1,V.int (l.2.c*sh/wh)]):=jd;have af:=ji (o:=.tup [V.ref l.1,V.int (l.2.c*sh/wh)]) hp _ _ ak;generalize upd H5 p (.tup [V.ref l.1,V.int (l.2.c*sh/wh)])=H6 at aa ad af kk;walk_at "i";refine⟨_,jE ad,rfl,_,_,rfl,_,_,rfl,rfl,?_⟩;refine rd aa T.fK T.fL (by rfl) (rd aa T.fK T.fM (by rfl) (rd aa T.fK T.fN (by rfl) (λz dz hz ai _=>?_)));refine qQ (A:=A) (prt sh wh l.2) hz ai λH7 s7 hZ=>kk (.ref z) _ H7 ⟨_,_,rfl⟩ s7 λH' hb=>⟨z,l,ab,rfl,hZ.but (λe=>by rw[e,af]at hz;cases hz) hb⟩
    ·intro Dc H3 an ag s3 ar ac aq
     rw[jr]at ac
     obtain ⟨l2,p1,p2,p3⟩:=Th (λ_ H r=>nD A H r.1 r.2) (H:=H3) (acc:=an) (ds:=(ls.map (·.2)).map (prt sh wh)) (by rw[ac,za,za]) λi v hv=>by
      obtain⟨b,l,h1,h3,h4⟩:=aq i v hv;refine⟨b,_,?_,h3,h4⟩;rw[zo,zo,h1];rfl
     subst p1;have S3:=S2.trans s3;refine⟨sz,λt ht=>?_⟩;have st:=ji (o:=.tup [V.ref Db,V.ref Dc]) ht;exact k t Db Dc l1 l2 _ (S3.trans st) (s1.free al) (S2.free ag) (λe=>by rw[e]at aj;rw[aj]at ag;cases ag) jd (st _ _ (s3 _ _ aj)) (st _ _ ar) ((lD.same q3 s3).same st) (lD.same p3 st) q2 p2
def Zo{f:jD->jD}(hf:∀d,(f d).n=d.n/\(f d).p=d.p){ls z:RL}(h:z.map (·.2)=(ls.map (·.2)).map f):Sim ls z:=by
 have q:∀l:RL,l.map Wq=(l.map (·.2)).map λd=>(d.n,d.p):=λl=>by rw[zu];rfl
 unfold Sim;rw[q,q,h,zu];refine zQ λd _=>?_;obtain⟨a,b⟩:=hf d;show((f d).n,(f d).p)=_;rw[a,b]
def akI{f:jD->jD}(z:∀d,plD (f d)=plD d){ls q:RL}(h:q.map (·.2)=(ls.map (·.2)).map f):pls q=pls ls:=by
 unfold pls;rw[h,zu];exact zQ λd _=>z d
structure vp(kvs:List (Key×V)):Prop where
 k:∀kv∈kvs,∃(z:Str)(i:Int),kv=(Sum.inr z,.int i)/\1<=i
 u:(kvs.map (·.1)).Nodup
def vp.val(h:vp kvs)(z:Str):oM kvs (Sum.inr z)=if 0<jo kvs z then some (.int (jo kvs z))else none:=by
 unfold jo
 cases e:oM kvs (Sum.inr z)with
 |none=>rfl
 |some v=>
  obtain⟨y,i,q,hi⟩:=h.k _ (Km e);cases q;rw[zi (show(0:Int)<i by lia)]
def vp.nn(h:vp kvs)(z:Str):0<=jo kvs z:=by
 have:=h.val z;by_cases e:0<jo kvs z
 ·lia
 ·rw[zf e]at this
  unfold jo;rw[this];exact yR _
def Du:vp []:=⟨λq h=>(zj h).elim,.nil⟩
def rM(h:vp kvs)(z:Str):(oM kvs (Sum.inr z)).getD (.int 0)=.int (jo kvs z):=by
 rw[h.val z];have:=h.nn z;split
 ·rfl
 ·show V.int 0=V.int (jo kvs z)
  congr 1;lia
def DR(h:vp kvs){k:Key}:k∈kvs.map (·.1)↔∃z,k=Sum.inr z/\0<jo kvs z:=by
 constructor
 ·intro hk
  obtain⟨kv,q,rfl⟩:=zc.mp hk;obtain⟨z,i,e,hi⟩:=h.k kv q;subst e;refine⟨z,rfl,?_⟩;have:=Mf h.u q;unfold jo;rw[this];show 0<i;lia
 ·rintro⟨z,rfl,hz⟩
  have:=h.val z;rw[zi hz]at this;exact zc.mpr ⟨_,Km this,rfl⟩
theorem Qx{α:Type} [DecidableEq α]:∀{l k:List α},l.Nodup->(∀x∈l,x∈k)->l.length<=k.length
 |[],_,_,_=>zM _
 |x::l,k,h,s=>by
  have h':=zN.mp h;have z:x∈k:=s x (.head _);have:=Qx (l:=l) (k:=k.erase x) h'.2 λy q=>(zzW (λe=>by subst e;exact h'.1 q)).mpr (s y (.tail _ q));rw[zzx z]at this;have hp:0<k.length:=zzK z;rw[zG];lia
def Mv{ka kb:List (Key×V)}(ha:vp ka)(hb:vp kb)(h:∀z,jo ka z=jo kb z):Alike ka kb:=by
 have aa:∀{p q:List (Key×V)},vp p->vp q->(∀z,jo p z=jo q z)->p.length<=q.length:=fun{p q} hp hq e=>by
  have:=Qx (l:=p.map (·.1)) (k:=q.map (·.1)) hp.u λk hk=>by
   obtain⟨z,rfl,hz⟩:=(DR hp).mp hk;exact(DR hq).mpr ⟨z,rfl,by rw[<-e];exact hz⟩
  rwa [za,za]at this
 refine⟨Nat.le_antisymm (aa ha hb h) (aa hb ha λz=>(h z).symm),λkv ab=>?_⟩;obtain⟨z,i,e,hi⟩:=ha.k kv ab;subst e;refine⟨i,rfl,?_⟩;have h1:=Mf ha.u ab;have h2:jo ka z=i:=by unfold jo;rw[h1]
 rw[hb.val z,<-h z,h2,zi (by lia)]
noncomputable def posK(kv:Key×V):Bool:=match kv.2 with
 |.int i=>decide (0<i)
 |_=>false
def Nj(kvs:List (Key×V))(k:Key)(v:V):(putK kvs k v).length<=kvs.length+1:=by
 unfold putK;split
 ·rw[za];lia
 ·rw[zC];exact zm _
theorem Mu{f:Key×V->Bool}:∀{kvs:List (Key×V)}{k:Key},(kvs.map (·.1)).Nodup->oM (kvs.filter f) k=match oM kvs k with|some v=>if f (k,v)=true then some v else none|none=>none
 |[],_,_=>rfl
 |p::kvs,k,hu=>by
  rw[zl,zN]at hu;have z:=Mu (f:=f) (kvs:=kvs) (k:=k) hu.2;by_cases e:p.1=k
  ·rw[lG e]
   have hp:p=(k,p.2):=by rw[<-e]
   have aa:oM kvs k=none:=by
    cases h:oM kvs k with
    |none=>rfl
    |some v=>exact absurd (zc.mpr ⟨(k,v),Km h,e.symm⟩) hu.1
   rw[aa]at z;by_cases q:f p=true
   ·rw[z5 q,lG e]
    dsimp only;rw[<-hp,zi q]
   ·rw[z6 q,z]
    dsimp only;rw[<-hp,zf q]
  ·rw[lq e]
   by_cases q:f p=true
   ·rw[z5 q,lq e,z]
   ·rw[z6 q,z]
noncomputable def vM(kvs:List (Key×V))(z:Str)(n:Int):List (Key×V):=(putK kvs (Sum.inr z) (.int n)).filter posK
def Rb(h:vp kvs)(z:Str)(n:Int):vp (vM kvs z n):=by
 refine⟨λkv q=>?_,yV (List.filter_sublist.map _) (xO h.u)⟩;obtain⟨h1,h2⟩:=yj.mp q;rcases JT h1 with rfl|h1
 ·have h2:decide (0<n)=true:=h2
  exact⟨z,n,rfl,by have:=yf h2;lia⟩
 ·exact h.k kv h1
def aaL(kvs:List (Key×V))(z:Str)(n:Int):(vM kvs z n).length<=kvs.length+1:=zS (yo _ _) (Nj _ _ _)
def aiA(h:vp kvs)(z:Str){n:Int}(hn:0<=n)(y:Str):jo (vM kvs z n) y=if y=z then n else jo kvs y:=by
 unfold vM
 have e1:jo ((putK kvs (Sum.inr z) (.int n)).filter posK) y=match(match oM (putK kvs (Sum.inr z) (.int n)) (Sum.inr y)with|some v=>if posK (Sum.inr y,v)=true then some v else none|none=>none)with|some (.int i)=>i|_=>0:=by
  unfold jo
  (rw[Mu (xO h.u)])<;>rfl
 rw[e1,Hr];by_cases e:y=z
 ·rw[zi e,zi (by rw[e])]
  dsimp only;show(match(if decide (0<n)=true then some (V.int n)else none)with|some (.int i)=>i|_=>0)=n;by_cases q:0<n
  ·rw[zi (zH q)]
  ·rw[zf (by simpa using q)]
   show(0:Int)=n;lia
 ·rw[zf e,zf (λz'=>e (yF z')),h.val y]
  by_cases q:0<jo kvs y
  ·rw[zi q]
   dsimp only;show(match(if decide (0<jo kvs y)=true then some (V.int (jo kvs y))else none)with|some (.int i)=>i|_=>0)=_;rw[zi (zH q)]
  ·rw[zf q]
   show(0:Int)=_;have:=h.nn y;lia
theorem NQ:∀(ps:List (Key×V))(acc:List (Key×V)),((acc++ps).map (·.1)).Nodup->ps.foldl (λa p=>putK a p.1 p.2) acc=acc++ps
 |[],acc,_=>by rw[yk];rfl
 |p::ps,acc,hu=>by
  have q:oM acc p.1=none:=by
   cases h:oM acc p.1 with
   |none=>rfl
   |some v=>
    rw[zp,zl]at hu;exact absurd rfl ((yB.mp hu).2.2 p.1 (zc.mpr ⟨(p.1,v),Km h,rfl⟩) p.1 zg)
  rw[yO]
  have e:putK acc p.1 p.2=acc++[p]:=by
   unfold putK;rw[zf (by rw[qe,q];simp)]
  rw[e,NQ ps (acc++[p]) (by rw[yL];exact hu),yL];rfl
noncomputable def vK:V->Key
 |.str z=>Sum.inr z
 |.int i=>Sum.inl i
 |_=>Sum.inl 0
def anm(k:Key):vK (kV k)=k:=by cases k<;>rfl
noncomputable def kfD(H:Hp):V->Key
 |.ref b=>match H b with
  |some (.tup [x,_])=>vK x
  |_=>Sum.inl 0
 |_=>Sum.inl 0
noncomputable def vfD(H:Hp):V->V
 |.ref b=>match H b with
  |some (.tup [_,y])=>y
  |_=> .non
 |_=> .non
def Xg{q:Key×V}(h:H b=some (.tup [kV q.1,q.2])):kfD H (.ref b)=q.1:=by
 unfold kfD;dsimp only;rw[h];exact anm _
def ZM{q:Key×V}(h:H b=some (.tup [kV q.1,q.2])):vfD H (.ref b)=q.2:=by
 unfold vfD;dsimp only;rw[h]
def aaf{ps:List (Key×V)}(hl:acc.length=ps.length)(h:∀(i:Nat) v,acc[i]? =some v->∃q,ps[i]? =some q/\∃b,v=.ref b/\H b=some (.tup [kV q.1,q.2]))(hu:(ps.map (·.1)).Nodup):Nk (kfD H) (vfD H) acc=ps:=by
 have e:acc.map (λy=>(kfD H y,vfD H y))=ps:=by
  refine zzI λi=>?_;rw[zo];by_cases hi:i<acc.length
  ·obtain⟨q,h1,b,h2,z⟩:=h i _ (zq hi)
   rw[zq hi,h2,h1];show some (kfD H (.ref b),vfD H (.ref b))=some q;rw[Xg z,ZM z]
  ·rw[yc (by lia),yc (by lia)]
   rfl
 have:=NQ (acc.map λy=>(kfD H y,vfD H y)) [] (by rw[zzi,e];exact hu);rw[List.foldl_map,zzi]at this;unfold Nk;rw[this,e]
inductive Bc(vs:List V)(H:Hp)(Q:VK)(E:XK):Prop
 |mk (a:Addr) (kvs:List (Key×V)) (z:Str) (n:Int) (_:vs=[.ref a,.str z,.int n]) (_:Rd H a (.dK kvs)) (_:vp kvs) (_:kvs.length<=100) (_:∀p H',Same H H'->H p=none->H' p=some (.dK (vM kvs z n))->Q (.ref p) H'):Bc vs H Q E
def Av:kI P w K mg base CX0 1 A.am D.am ["held", "ware", "pieces"] (Bc):=by
 refine T.cq.F.okv Gi λ_ _ _ _ H vs Q E hr h=>?_
 ·obtain⟨a,kvs,z,n,rfl,ha,hH,hl,k⟩:=h
  refine ⟨_,(jb (jm (i:=3) Gi.nd rfl orl (mZ JH (by rfl) T.dS (by decide+kernel) (pav 0 jc)))
   (jb (Jd (oK hr) (pvD 3) (pvD 1) (pvD 2) rfl)
   (je (jq (mZ (rR (K:=K) rfl) (by rfl) T.dS (by decide+kernel) (iY (jW (cap:=[none,none]) (N':=["name", "count"]) rfl (by walk_at "c") (Vm (HS (K:=K) yd zzB PySem.F.type_dict_items Vo (pvD 3))) (λ_ _ _ _=>(pY (K:=K) (n:=2) rfl (jG (jk (i:=0) (show(["name", "count"]:List Str).Nodup from by decide+kernel) rfl orl orr) (jG (jk (i:=1) (show(["name", "count"]:List Str).Nodup from by decide+kernel) rfl orl orr) oF)))) (λ_ _ _ _=>(ul (jl (Fj) (pvD 1) jf (jx _)))) (λ_ _ _ _=>(nM (pav 0 (pav 1 jc))))) jc)))))),?_⟩
  simp only[start_eq];walk_at "m";refine⟨_,ha,λq ab=>?_⟩;have n1:=ji (o:=.dK kvs) ab;have h1:(upd H q (.dK kvs)) q=some (.dK kvs):=jd;generalize upd H q (.dK kvs)=H1 at n1 h1;walk_at "m";obtain⟨P,hP⟩:∃P,putK kvs (Sum.inr z) (.int n)=P:=⟨_,rfl⟩;have ae:P.length<=101:=by rw[<-hP];have:=Nj kvs (Sum.inr z) (.int n);lia
  have ag:∀kv∈P,∃(y:Str)(i:Int),kv=(Sum.inr y,.int i):=λkv aa=>by
   rw[<-hP]at aa;rcases JT aa with rfl|h0
   ·exact⟨z,n,rfl⟩
   ·obtain⟨y,i,e,_⟩:=hH.k kv h0
    exact⟨y,i,e⟩
  refine⟨_,Ul (k:=Sum.inr z) h1 (by rw[zw];lia),?_⟩;rw[hP];have s2:Same H (upd H1 q (.dK P)):=n1.upd ab;have h2:(upd H1 q (.dK P)) q=some (.dK P):=jd;generalize upd H1 q (.dK P)=H2 at s2 h2;refine⟨.inr (.inr (.inl ⟨rfl,.inl ⟨_,h2⟩⟩)),_,h2,λv hv=>⟨q,jd,P,?_,λo=>?_⟩⟩
  ·exact(jn (jY h2 hv)).trans h2
  have s3:Same H (upd (upd H2 v (Ho v q)) q (.frz o (.dK P))):=(s2.trans (ji hv)).upd ab;have h3:(upd (upd H2 v (Ho v q)) q (.frz o (.dK P))) q=some (.frz o (.dK P)):=jd;generalize upd (upd H2 v (Ho v q)) q (.frz o (.dK P))=H3 at s3 h3;refine lU.itemsF (λσ=>∃a b,σ=[a,b]) posK (λkv v H'=>∃b,v=.ref b/\H' b=some (.tup [kV kv.1,kv.2])) h3 ⟨_,_,rfl⟩ (by rw[zw];lia) ?_ ?_
  ·rintro D i kv aa σ H5 p R1 R2 ⟨_,_,rfl⟩ s5 hD ⟨acc,hA⟩ hp k1 k2
   obtain⟨y,j,rfl⟩:=ag kv (zh aa);have h6:(upd H5 p (.tup [kV (Sum.inr y),.int j])) p=some (.tup [.str y,.int j]):=jd;have ac:=ji (o:=.tup [kV (Sum.inr y),.int j]) hp _ _ hA;generalize upd H5 p (.tup [kV (Sum.inr y),.int j])=H6 at h6 ac k1 k2;walk_at "i";refine⟨_,jE h6,rfl,_,_,rfl,_,_,rfl,rfl,_,rfl,?_⟩;by_cases hj:0<j
   ·rw[zi hj]
    exact⟨sz,λt ht=>k1 (zH hj) _ _ _ ⟨_,_,rfl⟩ (ji ht) λH' hb=>⟨t,rfl,hb _ _ (λe=>by rw[e,ac]at ht;cases ht) jd⟩⟩
   ·rw[zf hj]
    exact k2 (zJ hj) _ _ ⟨_,_,rfl⟩ (same_refl _)
  ·intro D H4 acc hD s4 hA ad hF
   have hF':∀(i:Nat) v,acc[i]? =some v->∃kv,(P.filter posK)[i]? =some kv/\∃b,v=.ref b/\H4 b=some (.tup [kV kv.1,kv.2]):=hF
   have af:((P.filter posK).map (·.1)).Nodup:=by
    have:=(Rb hH z n).u;unfold vM at this
    rwa [hP]at this
   have ah:(P.filter posK).length<=101:=zS (yo _ _) ae;rw[ap_dictPairs];refine⟨acc,kfD H4,vfD H4,jh hA,by lia,λy hy=>?_,λp hp=>?_⟩
   ·obtain⟨i,hi,e⟩:=z9 hy
    obtain⟨kv,_,b,rfl,hb⟩:=hF' i y (by rw[zq hi,e]);exact⟨b,rfl,by rw[Xg hb,ZM hb];exact jE hb⟩
   ·rw[aaf ad hF' af]
    have S:=s3.trans s4;refine k p _ (S.trans (ji hp)) (S.free hp) ?_;rw[jd];unfold vM;rw[hP]
inductive vG(vs:List V)(H:Hp)(Q:VK)(E:XK):Prop
 |mk (a:Addr) (kvs:List (Key×V)) (z:Str) (n:Int) (_:vs=[.ref a,.str z,.int n]) (_:Rd H a (.dK kvs)) (_:vp kvs) (_:kvs.length<=100) (_:∀p H',Same H H'->H p=none->H' p=some (.dK (vM kvs z (jo kvs z+n)))->Q (.ref p) H'):vG vs H Q E
def pX:kI P w K mg base CX0 2 A.an D.an ["held", "ware", "pieces"] (vG):=by
 refine T.cr.F.okv Fy λ_ _ _ _ H vs Q E hr h=>?_
 ·obtain⟨a,kvs,z,n,rfl,ha,q,hl,k⟩:=h
  refine⟨_,(je (jq (pcg (Av T) hr T.cq (CG T) (pav 0 (pav 1 (iY (jw jZ (sX (oK hr) (pvD 0) (pvD 1) jf ⟨rfl,rfl,rfl,rfl⟩) (pvD 2)) jc)))))),?_⟩;walk_at "a";exact⟨.inl ⟨_,ha⟩,_,.inl ⟨kvs,Sum.inr z,ha,rfl,rfl⟩,jo kvs z,rM q z,a,kvs,z,_,rfl,ha,q,hl,k⟩
inductive tE(vs:List V)(H:Hp)(Q:VK)(E:XK):Prop
 |mk (a:Addr) (kvs:List (Key×V)) (z:Str) (n:Int) (_:vs=[.ref a,.str z,.int n]) (_:Rd H a (.dK kvs)) (_:vp kvs) (_:kvs.length<=100) (_:(jo kvs z<n->Q .non H)) (_:(n<=jo kvs z->∀p H',Same H H'->H p=none->H' p=some (.dK (vM kvs z (jo kvs z - n)))->Q (.ref p) H')):tE vs H Q E
def sY:kI P w K mg base CX0 2 A.ap D.ap ["held", "ware", "pieces"] (tE):=by
 refine T.ct.F.okv tK λ_ _ _ _ H vs Q E q h=>?_
 ·obtain⟨a,kvs,z,n,rfl,ha,hH,hl,k1,k2⟩:=h
  refine ⟨_,(jb (jm (i:=3) tK.nd rfl orl (sX (oK q) (pvD 0) (pvD 1) jf ⟨rfl,rfl,rfl,rfl⟩))
   (jb (kE (jl (Dr) (pvD 3) (pvD 2) (jx _)) (je (jq mR)) jC)
   (je (jq (pcg (Av T) q T.cq (CG T) (pav 0 (pav 1 (iY (jw pq (pvD 3) (pvD 2)) jc)))))))),?_⟩
  simp only[start_eq];walk_at "m";refine⟨.inl ⟨_,ha⟩,_,.inl ⟨kvs,Sum.inr z,ha,rfl,rfl⟩,?_⟩;rw[rM hH z];walk_at "m";by_cases c:jo kvs z<n
  ·rw[zi c]
   exact k1 c
  ·rw[zf c]
   exact⟨a,kvs,z,_,rfl,ha,hH,hl,k2 (by lia)⟩
noncomputable def Ent.beh:Ent->List (Key×V)->Option (List (Key×V))
 |.buy _ _ w p _ _,kvs=>some (vM kvs w (jo kvs w+p))
 |.sell _ _ w p _ _ _,kvs=>if jo kvs w<p then none else some (vM kvs w (jo kvs w - p))
 |.gift _ _ w p _ _,kvs=>some (vM kvs w (jo kvs w+p))
 |.give _ _ w p _,kvs=>if jo kvs w<p then none else some (vM kvs w (jo kvs w - p))
 |.split _ _ w m f,kvs=>if 0<jo kvs w/\jo kvs w*m/f=0 then none else some (vM kvs w (jo kvs w*m/f))
 |.part _ _ w u _ _,kvs=>some (vM kvs u (jo kvs u+jo kvs w))
inductive Em(A:Adr)(isK:Ent->Bool)(vs:List V)(H:Hp)(Q:VK)(E:XK):Prop
 |mk (x a:Addr) (e:Ent) (kvs:List (Key×V)) (_:isK e=true) (_:vs=[.ref x,.ref a]) (_:IsE A H x e) (_:e.good) (_:Rd H a (.dK kvs)) (_:vp kvs) (_:kvs.length<=100) (_:(e.beh kvs=none->∀H',Same H H'->Q .non H')) (_:∀kv2,e.beh kvs=some kv2->∀p H',Same H H'->H p=none->H' p=some (.dK kv2)->Q (.ref p) H'):Em A isK vs H Q E
def tQ:kI P w K mg base CX0 3 A.ao D.ao ["self", "held"] (Em A uV):=by
 refine T.cs.okv Es λ_ _ _ _ H vs Q E hr h=>?_
 ·obtain⟨x,a,e,kvs,hk,rfl,⟨dx,nv,z,hn⟩,hg,ha,hH,hl,k1,k2⟩:=h
  refine⟨_,(je (jq (pcg (pX T) hr T.cr (qH T) (pav 1 (iY (fv K 0) (iY (fv K 0) jc)))))),?_⟩
  cases e with
  |buy d n w p r f=>
   walk_at "a";exact rd z T.ey T.eC (by rfl) (rd z T.ey T.eD (by rfl) ⟨a,kvs,w,p,rfl,ha,hH,hl,λq H' s h1 h2=>k2 _ rfl q H' s h1 h2⟩)
  |_=>cases hk
def rT:kI P w K mg base CX0 3 A.aq D.aq ["self", "held"] (Em A pO):=by
 refine T.cu.okv CN λ_ _ _ _ H vs Q E hr h=>?_
 ·obtain⟨x,a,e,kvs,hk,rfl,⟨dx,nv,z,hn⟩,hg,ha,hH,hl,k1,k2⟩:=h
  refine⟨_,(je (jq (pcg (sY T) hr T.ct (vA T) (pav 1 (iY (fv K 0) (iY (fv K 0) jc)))))),?_⟩
  cases e with
  |sell d n w p r f o=>
   walk_at "a";refine rd z T.eH T.eL (by rfl) (rd z T.eH T.eM (by rfl) ⟨a,kvs,w,p,rfl,ha,hH,hl,λc=>k1 (zi c) H (same_refl _),λc q H' s h1 h2=>k2 _ (zf (by lia)) q H' s h1 h2⟩)
  |_=>cases hk
def rn:kI P w K mg base CX0 3 A.ar D.ar ["self", "held"] (Em A pR):=by
 refine T.cv.okv Cv λ_ _ _ _ H vs Q E hr h=>?_
 ·obtain⟨x,a,e,kvs,hk,rfl,⟨dx,nv,z,hn⟩,hg,ha,hH,hl,k1,k2⟩:=h
  refine⟨_,(je (jq (pcg (pX T) hr T.cr (qH T) (pav 1 (iY (fv K 0) (iY (fv K 0) jc)))))),?_⟩
  cases e with
  |gift d n w p c s=>
   walk_at "a";exact rd z T.eR T.eV (by rfl) (rd z T.eR T.eW (by rfl) ⟨a,kvs,w,p,rfl,ha,hH,hl,λq H' s h1 h2=>k2 _ rfl q H' s h1 h2⟩)
  |_=>cases hk
def rP:kI P w K mg base CX0 3 A.as D.as ["self", "held"] (Em A uG):=by
 refine T.cw.okv Dk λ_ _ _ _ H vs Q E hr h=>?_
 ·obtain⟨x,a,e,kvs,hk,rfl,⟨dx,nv,z,hn⟩,hg,ha,hH,hl,k1,k2⟩:=h
  refine⟨_,(je (jq (pcg (sY T) hr T.ct (vA T) (pav 1 (iY (fv K 0) (iY (fv K 0) jc)))))),?_⟩
  cases e with
  |give d n w p o=>
   walk_at "a";refine rd z T.eZ T.e3 (by rfl) (rd z T.eZ T.e4 (by rfl) ⟨a,kvs,w,p,rfl,ha,hH,hl,λc=>k1 (zi c) H (same_refl _),λc q H' s h1 h2=>k2 _ (zf (by lia)) q H' s h1 h2⟩)
  |_=>cases hk
def qM:kI P w K mg base CX0 2 A.au D.au ["self", "held"] (Em A pZ):=by
 refine T.cx.okv nZ λ_ _ _ _ H vs Q E hr h=>?_
 ·obtain⟨x,a,e,kvs,hk,rfl,⟨dx,nv,hx,hn⟩,hg,ha,hH,hl,k1,k2⟩:=h
  refine ⟨_,(jb (jm (i:=2) nZ.nd rfl orl (sX (oK hr) (pvD 1) (fv K 0) jf ⟨rfl,rfl,rfl,rfl⟩))
   (jb (jm (i:=3) nZ.nd rfl orl (jw nP (jw nq (pvD 2) (fv K 0)) (fv K 0)))
   (jb (kE (PW.pt (xR (jl (Fj) (pvD 2) jf (jx _)) (vR (jl (nA) (pvD 3) jf (jx _))))) (je (jq mR)) jC)
   (je (jq (pcg (Av T) hr T.cq (CG T) (pav 1 (iY (fv K 0) (pav 3 jc))))))))),?_⟩
  cases e with
  |split d n w m f=>
   simp only[start_eq];walk_at "m";obtain⟨_,⟨ag,ah⟩,ae,af⟩:=hg;refine⟨.inl ⟨_,ha⟩,rd hx T.e6 T.fa (by rfl) ⟨_,.inl ⟨kvs,Sum.inr w,ha,rfl,rfl⟩,?_⟩⟩;rw[rM hH w];walk_at "m"
   refine ⟨_,dx,_,hx,T.e6,T.fb,_,by rfl,_,rfl,JM (by lia) (by lia),_,dx,_,hx,T.e6,T.fc,_,by rfl,_,rfl,⟨by lia,by
    have:f.natAbs<=1000:=by lia
    exact yv this (by decide)⟩,?_⟩
   walk_at "m"
   have ac:¬(0<jo kvs w/\jo kvs w*m/f=0)->∃aa ad ab,H x=some (HO.ins aa ad ab)/\Cls K aa/\jt K aa (Str.ofString "ware")/\∃x,List.lookup (Str.ofString "ware") ab=some x/\Bc [V.ref a,x,V.int (jo kvs w*m/f)] H Q E0:=λc=>
    (rd hx T.e6 T.fa (by rfl) ⟨a,kvs,w,_,rfl,ha,hH,hl,λq H' s h1 h2=>k2 _ (zf c) q H' s h1 h2⟩)
   split
   ·rename_i c1
    split
    ·rename_i c2
     exact k1 (zi ⟨c1,c2⟩) H (same_refl _)
    ·rename_i c2
     exact ac λz=>c2 z.2
   ·rename_i c1
    exact ac λz=>c1 z.1
  |_=>cases hk
def pH:kI P w K mg base CX0 3 A.av D.av ["self", "held"] (Em A uo):=by
 refine T.cy.okv xu λ_ _ _ _ H vs Q E z h=>?_
 ·obtain⟨x,a,e,kvs,hk,rfl,⟨dx,nv,hx,hn⟩,hg,ha,hH,hl,k1,k2⟩:=h
  refine⟨_,(je (jq (pcg (pX T) z T.cr (qH T) (pav 1 (iY (fv K 0) (iY (sX (oK z) (pvD 1) (fv K 0) jf ⟨rfl,rfl,rfl,rfl⟩) jc)))))),?_⟩
  cases e with
  |part d n w u s t=>
   walk_at "a";refine rd hx T.fd T.fi (by rfl) ⟨.inl ⟨_,ha⟩,rd hx T.fd T.fh (by rfl) ⟨_,.inl ⟨kvs,Sum.inr w,ha,rfl,rfl⟩,?_⟩⟩;rw[rM hH w];exact⟨a,kvs,u,_,rfl,ha,hH,hl,λq H' s h1 h2=>k2 _ rfl q H' s h1 h2⟩
  |_=>cases hk
abbrev SP5:=List (Addr×jD×Int)
noncomputable def Js(ps:SP5):List V:=ps.map λr=>V.ref r.1
def Il(ps:SP5):(Js ps).length=ps.length:=by unfold Js;rw[za]
def Yp{rs:SP5}(h:(Js rs)[i]? =some y):∃r,rs[i]? =some r/\y=.ref r.1:=by
 unfold Js at h;rw[zo]at h
 cases e:rs[i]? with
 |none=>rw[e]at h;cases h
 |some r=>rw[e]at h;exact⟨r,rfl,(zy h).symm⟩
structure kj where
 n:Int
 d:Int
 w:Str
 pr:Int
 pl:Addr
 ps:SP5
 lo:Option Int
noncomputable def loV:Option Int->V
 |none=> .non
 |some i=> .int i
noncomputable def kj.fs(s:kj):List (Str×V):=[("number",.int s.n),("day",.int s.d),("ware",.str s.w),("proceeds",.int s.pr),("parts",.ref s.pl),("laid_on",loV s.lo)]
noncomputable def kj.co(s:kj):Int:=(s.ps.map λr=>r.2.1.c).sum
noncomputable def kj.cnt(s:kj):Int:=if s.lo=none then s.pr - s.co else 0
def akE(H:Hp)(ps:SP5):Prop:=∀r∈ps,H r.1=some (.tup (r.2.1.vs++[.int r.2.2]))
structure mz(A:Adr)(H:Hp)(x:Addr)(s:kj):Prop where
 i:∃dx,H x=some (.ins A.bV dx s.fs)
 p:H s.pl=some (.lst (Js s.ps))
 t:akE H s.ps
 l:s.ps.length<=64
def akE.same{ps:SP5}(h:akE H ps)(s:Same H H'):akE H' ps:=λr q=>s _ _ (h r q)
theorem mz.same{H H':Hp}{x:Addr}{d:kj}(h:mz A H x d)(s:Same H H'):mz A H' x d:=⟨let⟨dx,e⟩:=h.i;⟨dx,s _ _ e⟩,s _ _ h.p,h.t.same s,h.l⟩
def akJ{ps:SP5}(z:acc.length=ps.length)(h:∀(i:Nat) v,acc[i]? =some v->∃r,ps[i]? =some r/\v=.int r.2.1.c):acc=(ps.map λr=>r.2.1.c).map V.int:=by
 refine zzt (by simp[z]) λi h1 h2=>?_;obtain⟨l,q,e2⟩:=h i acc[i] (by simp);rw[e2];have h3:i<ps.length:=by lia
 have:ps[i]=l:=by
  rw[zq h3]at q;exact zy q
 simp[this]
inductive xj(vs:List V)(H:Hp)(Q:VK)(E:XK):Prop
 |mk (p:Addr) (ps:SP5) (_:vs=[.ref p]) (_:H p=some (.lst (Js ps))) (_:akE H ps) (_:ps.length<=64) (_:∀H',Same H H'->Q (.int (ps.map λr=>r.2.1.c).sum) H'):xj vs H Q E
def wY:kI P w K mg base CX0 1 A.aN D.aN ["parts"] xj:=by
 refine T.cQ.F.okv Gm λ_ _ _ _ H vs Q E hr h=>?_
 ·obtain⟨p,ps,rfl,hp,hT,hl,k⟩:=h
  refine⟨_,(je (jq (jy (lK (K:=K) rfl) (by rfl) T.d6 (by decide+kernel) (iY (jW (cap:=[none,none,none,none,none]) (N':=["lot", "since", "pieces", "cost", "share"]) rfl (by walk_at "c") (jP (K:=K) (pv 0)) (λ_ _ _ _=>(pY (K:=K) (n:=5) rfl (jG (jk (i:=0) (show(["lot", "since", "pieces", "cost", "share"]:List Str).Nodup from by decide+kernel) rfl orl orr) (jG (jk (i:=1) (show(["lot", "since", "pieces", "cost", "share"]:List Str).Nodup from by decide+kernel) rfl orl orr) (jG (jk (i:=2) (show(["lot", "since", "pieces", "cost", "share"]:List Str).Nodup from by decide+kernel) rfl orl orr) (jG (jk (i:=3) (show(["lot", "since", "pieces", "cost", "share"]:List Str).Nodup from by decide+kernel) rfl orl orr) (jG (jk (i:=4) (show(["lot", "since", "pieces", "cost", "share"]:List Str).Nodup from by decide+kernel) rfl orl orr) oF))))))) (λ_ _ _ _=>kh) (λ_ _ _ _=>(pvD 3))) jc)))),?_⟩;walk_at "a";refine⟨⟨_,jh hp⟩,?_⟩;refine lU.listE (K:=K) (λσ=>∃a b c d e,σ=[a,b,c,d,e]) (λi v _=>∃r,ps[i]? =some r/\v=.int r.2.1.c) (jh hp) ⟨_,_,_,_,_,rfl⟩ (by rw[Il,zw];lia) ?_ ?_
  ·rintro Da i x hx σ H5 R ⟨_,_,_,_,_,rfl⟩ sm hD _ kk
   obtain⟨r,q,rfl⟩:=Yp hx;have ht:=sm _ _ (hT r (zh q));walk_at "i";exact⟨_,jE ht,rfl,_,_,rfl,_,_,rfl,_,_,rfl,_,_,rfl,_,_,rfl,rfl,kk _ _ H5 ⟨_,_,_,_,_,rfl⟩ (same_refl _) λH' _=>⟨r,q,rfl⟩⟩
  ·intro Da H' acc hD sm hA z hF
   rw[akJ (by rw[z,Il]) hF]at hA;walk_at "a";exact⟨_,jh hA,k H' sm⟩
inductive wW(A:Adr)(vs:List V)(H:Hp)(Q:VK)(E:XK):Prop
 |mk (x p:Addr) (n d pr:Int) (w:Str) (lo:Option Int) (ps:SP5) (B:Hp) (dx:Addr) (_:vs=[.ref x,.int n,.int d,.str w,.int pr,.ref p,loV lo]) (_:New B H x A.bV dx []) (_:B p=some (.lst (Js ps))) (_:akE B ps) (_:ps.length<=64) (_:∀pl H',Same B H'->B pl=none->mz A H' x ⟨n,d,w,pr,pl,ps,lo⟩->Q .non H'):wW A vs H Q E
def qJ:kI P w K mg base CX0 1 A.aW D.aW ["self", "number", "day", "ware", "proceeds", "parts", "laid_on"] (wW A):=by
 refine T.cZ.okv GR λ_ _ _ _ H vs Q E hr h=>?_
 ·obtain⟨x,p,n,d,pr,w,lo,ps,B,dx,rfl,q,hp,hT,hl,k⟩:=h
  refine ⟨_,(jb (jJ (K:=K) (pv 0) (pvD 1) rfl)
   (jb (jJ (K:=K) (pv 0) (pvD 2) rfl)
   (jb (jJ (K:=K) (pv 0) (pvD 3) rfl)
   (jb (jJ (K:=K) (pv 0) (pvD 4) rfl)
   (jb (jJ (K:=K) (pv 0) (mZ (vI (K:=K)) (by rfl) T.d5 (by decide+kernel) (pav 5 jc)) rfl)
   (je (jJ (K:=K) (pv 0) (pvD 6) rfl))))))),?_⟩
  simp only[start_eq];refine lg λu z=>?_;rw[ap_seq];walk_at "i";refine sw q.h T.fl T.fm (by decide) ?_;rw[Bm _ _ (by decide+kernel)];have q:=q.put (gs:=[]++[(Str.ofString "number",V.int n)]) rfl;generalize upd H x _=G1 at q⊢;subst z
  try dsimp only
  refine lg λu z=>?_;rw[ap_seq];walk_at "i";refine sw q.h T.fl T.fn (by simp) ?_;rw[mX (f:=Str.ofString "day") ["number"]];have q:=q.put (gs:=([]++[(Str.ofString "number",V.int n)])++[(Str.ofString "day",V.int d)]) rfl;generalize upd G1 x _=G2 at q⊢;subst z
  try dsimp only
  refine lg λu z=>?_;rw[ap_seq];walk_at "i";refine sw q.h T.fl T.fo (by simp) ?_;rw[mX (f:=Str.ofString "ware") ["number", "day"]];have q:=q.put (gs:=(([]++[(Str.ofString "number",V.int n)])++[(Str.ofString "day",V.int d)])++[(Str.ofString "ware",V.str w)]) rfl;generalize upd G2 x _=G3 at q⊢;subst z
  try dsimp only
  refine lg λu z=>?_;rw[ap_seq];walk_at "i";refine sw q.h T.fl T.fp (by simp) ?_;rw[mX (f:=Str.ofString "proceeds") ["number", "day", "ware"]];have q:=q.put (gs:=((([]++[(Str.ofString "number",V.int n)])++[(Str.ofString "day",V.int d)])++[(Str.ofString "ware",V.str w)])++[(Str.ofString "proceeds",V.int pr)]) rfl;generalize upd G3 x _=G4 at q⊢;subst z
  try dsimp only
  refine lg λu z=>?_;rw[ap_seq];walk_at "i";refine⟨_,.inl (jh (q.s _ _ hp)),λpl aa=>?_⟩;have ab:pl≠x:=λe=>by rw[e,q.h]at aa;cases aa
  have ac:=q.s.free aa;have q:=q.same (ji (o:=.lst (Js ps)) aa);have hq:(upd G4 pl (.lst (Js ps))) pl=some (.lst (Js ps)):=jd;generalize upd G4 pl _=H5 at q hq⊢;refine sw q.h T.fl T.fq (by simp) ?_;rw[mX (f:=Str.ofString "parts") ["number", "day", "ware", "proceeds"]];have q:=q.put (gs:=(((([]++[(Str.ofString "number",V.int n)])++[(Str.ofString "day",V.int d)])++[(Str.ofString "ware",V.str w)])++[(Str.ofString "proceeds",V.int pr)])++[(Str.ofString "parts",V.ref pl)]) rfl;have hq:=(jn (o:=HO.ins A.bV dx ((((([]++[(Str.ofString "number",V.int n)])++[(Str.ofString "day",V.int d)])++[(Str.ofString "ware",V.str w)])++[(Str.ofString "proceeds",V.int pr)])++[(Str.ofString "parts",V.ref pl)])) ab).trans hq;generalize upd H5 x _=G5 at q hq⊢;subst z
  try dsimp only
  walk_at "i";refine sw q.h T.fl T.fr (by simp) ?_;rw[mX (f:=Str.ofString "laid_on") ["number", "day", "ware", "proceeds", "parts"]];have S:=q.s.upd (o:=HO.ins A.bV dx (((((([]++[(Str.ofString "number",V.int n)])++[(Str.ofString "day",V.int d)])++[(Str.ofString "ware",V.str w)])++[(Str.ofString "proceeds",V.int pr)])++[(Str.ofString "parts",V.ref pl)])++[(Str.ofString "laid_on",loV lo)])) q.n;exact k pl _ S ac ⟨⟨dx,jd⟩,(jn ab).trans hq,hT.same S,hl⟩
inductive Zt(A:Adr)(f:kj->Int)(vs:List V)(H:Hp)(Q:VK)(E:XK):Prop
 |mk (x:Addr) (s:kj) (_:vs=[.ref x]) (_:mz A H x s) (_:∀H',Same H H'->Q (.int (f s)) H'):Zt A f vs H Q E
def oJ:kI P w K mg base CX0 2 A.aP D.aP ["self"] (Zt A λs=>s.pr - s.co):=by
 refine T.cS.okv QC λ_ _ _ _ H vs Q E z h=>?_
 ·obtain⟨x,s,rfl,q,k⟩:=h
  refine⟨_,(je (jq (jw pq (fv K 0) (pcg (wY T) z T.cQ (Bj T) (iY (fv K 0) jc))))),?_⟩;obtain⟨dx,hi⟩:=q.i;walk_at "a";exact rd hi T.fl T.fp (by rfl) (rd hi T.fl T.fq (by rfl) ⟨s.pl,s.ps,rfl,q.p,q.t,q.l,λH' s'=>⟨_,rfl,_,rfl,k H' s'⟩⟩)
def Jq:kI P w K mg base CX0 3 A.aZ D.aZ ["self"] (Zt A kj.cnt):=by
 refine T.c2.okv Ju λ_ _ _ _ H vs Q E z h=>?_
 ·obtain⟨x,s,rfl,q,k⟩:=h
  refine⟨_,(je (jq (Eu (jl (Gd) (fv K 0) mR (jx _)) (mG (pv 0) (mc T.fl T.gd (oJ T) z (pN T) .nil) jR) jf))),?_⟩;obtain⟨dx,hi⟩:=q.i;walk_at "a";refine rd hi T.fl T.fr (v:=loV s.lo) (by rfl) (?_);unfold kj.cnt at k
  cases e:s.lo with
  |none=>
   rw[zi (show loV none=V.non from rfl)];rw[e,zi rfl]at k;exact md hi zg (by rfl) ⟨x,s,rfl,q,k⟩
  |some i=>
   rw[zf (show¬loV (some i)=V.non from λc=>by cases c)];rw[e,zf (λc=>by cases c)]at k;exact k H (same_refl _)
inductive Ae(A:Adr)(vs:List V)(H:Hp)(Q:VK)(E:XK):Prop
 |mk (x:Addr) (s:kj) (_:vs=[.ref x]) (_:mz A H x s) (_:∀y pl H',Same H H'->H y=none->H pl=none->mz A H' y {s with pl:=pl}->Q (.ref y) H'):Ae A vs H Q E
def Ko:kI P w K mg base CX0 3 A.aX D.aX ["sale"] (Ae A):=by
 refine T.c0.F.okv Jz λ_ _ _ _ H vs Q E hr h=>?_
 ·obtain⟨x,s,rfl,q,k⟩:=h
  refine⟨_,(je (jq (mF T.fZ (qJ (K:=K) T) (hr.mono (by decide)) (by rfl) T.eh (sU T) .nil jR (iY (fv K 0) (iY (fv K 0) (iY (fv K 0) (iY (fv K 0) (iY (fv K 0) (iY (fv K 0) jc))))))))),?_⟩;obtain⟨dx,hi⟩:=q.i;walk_at "a";refine rd hi T.fl T.fm (by rfl) (rd hi T.fl T.fn (by rfl) (rd hi T.fl T.fo (by rfl) (rd hi T.fl T.fp (by rfl) (rd hi T.fl T.fq (by rfl) (rd hi T.fl T.fr (by rfl) (λy dy hy z _=>?_))))));exact⟨y,s.pl,s.n,s.d,s.pr,s.w,s.lo,s.ps,H,dy,rfl,qO hy z,q.p,q.t,q.l,λpl H' s' aa hS=>⟨rfl,k y pl H' s' hy aa hS⟩⟩
theorem Vd{H:Hp}:∀{acc:List V}{ls:RL}{cs:List Int},acc.length=ls.length->cs.length=ls.length->(∀(i:Nat) v,acc[i]? =some v->∃b l c,ls[i]? =some l/\cs[i]? =some c/\v=.ref b/\H b=some (.tup (l.2.vs++[.int c])))->∃ps:SP5,acc=Js ps/\ps.map (λr=>r.2.1)=ls.map (·.2)/\ps.map (λr=>r.2.2)=cs/\akE H ps
 |[],[],[],_,_,_=>⟨[],rfl,rfl,rfl,λr h=>(zj h).elim⟩
 |[],_::_,_,h,_,_=>by simp at h
 |_::_,[],_,h,_,_=>by simp at h
 |_,_::_,[],_,h,_=>by simp at h
 |_,[],_::_,_,h,_=>by simp at h
 |v::acc,l::ls,c::cs,hl,hc,h=>by
  obtain⟨b,l',c',e,e',rfl,hb⟩:=h 0 v rfl;cases e;cases e';obtain⟨ps,e1,e2,e4,e3⟩:=Vd (acc:=acc) (ls:=ls) (cs:=cs) (by simpa using hl) (by simpa using hc) λi v z=>h (i+1) v z;refine⟨(b,l.2,c)::ps,by rw[e1];rfl,by rw[zl,e2];rfl,by rw[zl,e4],λr q=>?_⟩;rcases zx.mp q with rfl|q
  ·exact hb
  ·exact e3 r q
inductive Mh(A:Adr)(vs:List V)(H:Hp)(Q:VK)(E:XK):Prop
 |mk (x q:Addr) (d n p r f:Int) (w:Str) (o:Option Rs) (ls:RL) (_:vs=[.ref x,.ref q]) (_:IsE A H x (.sell d n w p r f o)) (_:H q=some (.lst (jH ls))) (_:lD A H ls) (_:ls≠[]) (_:ls.length<=63) (_:(∀l∈ls,1<=l.2.p)) (_:Bd (p*r - f)) (_:Bd (pcs ls)) (_:∀y s H',Same H H'->H y=none->H s.pl=none->mz A H' y s->s.n=n->s.d=d->s.w=w->s.pr=p*r - f->s.lo=none->s.ps.map (λr=>r.2.1)=ls.map (·.2)->(s.ps.map λr=>r.2.2).sum=s.pr->Q (.ref y) H'):Mh A vs H Q E
def Vz:kI P w K mg base CX0 3 A.bh D.bh ["entry", "lots"] (Mh A):=by
 refine T.dk.F.okv EY λ_ _ _ _ H vs Q E hr h=>?_
 ·obtain⟨x,q,d,n,p,r,f,w,o,ls,rfl,⟨dx,nv,hx,_⟩,hq,hL,ar,hl,hp,ha,hb,k⟩:=h
  refine ⟨_,(jb (jm (i:=2) EY.nd rfl orl (pcg (Vv T) hr T.dj (aal T) (iY (fv K 0) (iY (jW (cap:=[none]) (N':=["lot"]) rfl (by walk_at "c") (jP (K:=K) (pv 1)) (λ_ _ _ _=>(jk (i:=0) nd1 rfl orl orr)) (λ_ _ _ _=>kh) (λ_ _ _ _=>(fv K 0))) jc))))
   (jb (nT (i:=3) EY.nd rfl rfl (cap:=[none,none]) (N':=["lot", "share"]) rfl (by walk_at "c") (Mz (K:=K) (by rfl) T.d0 (pav 1 (pav 2 jc))) (λ_ _ _ _=>(pY (K:=K) (n:=2) rfl (jG (jk (i:=0) (show(["lot", "share"]:List Str).Nodup from by decide+kernel) rfl orl orr) (jG (jk (i:=1) (show(["lot", "share"]:List Str).Nodup from by decide+kernel) rfl orl orr) oF)))) (λ_ _ _ _=>kh) (λ_ _ _ _=>(nM (iY (fv K 0) (iY (fv K 0) (iY (fv K 0) (iY (fv K 0) (pav 1 jc))))))))
   (je (jq (mF T.fZ (qJ (K:=K) T) (hr.mono (by decide)) (by rfl) T.eh (sU T) .nil jR (iY (fv K 0) (iY (fv K 0) (iY (fv K 0) (iY (fv K 0) (pav 3 (iY mR jc))))))))))),?_⟩
  simp only[start_eq];walk_at "m";refine rd hx T.eH T.eQ (by rfl) ⟨⟨_,jh hq⟩,?_⟩;refine lU.listE (K:=K) (λσ=>∃a,σ=[a]) (λi v _=>∃l,ls[i]? =some l/\v=.int l.2.p) (jh hq) ⟨_,rfl⟩ (by rw[jr,zw];lia) ?_ ?_
  ·rintro Da i y hy σ H5 R ⟨_,rfl⟩ sm hD _ kk
   obtain⟨l,ac,rfl⟩:=kO hy;obtain⟨dl,aa⟩:=(hL l (get_mem ac)).same sm;walk_at "i";exact rd aa T.fK T.fN (by rfl) (kk _ _ H5 ⟨_,rfl⟩ (same_refl _) λH' _=>⟨l,ac,rfl⟩)
  ·intro D1 H1 acc bb s1 hA ak hF
   rw[Ei (f:=λl=>l.2.p) (by rw[ak,jr]) hF]at hA;have am:(ls.map λl=>l.2.p).length=ls.length:=za _;have av:=xN hp;have h0:0<ls.length:=yP.mpr ar;refine⟨_,D1,ls.map (λl:Addr×jD=>l.2.p),rfl,jh hA,λy hy=>?_,(show 0<pcs ls by lia),by lia,ha,hb,λp2 H2 s2 ax h2=>?_⟩
   ·obtain⟨e,he,rfl⟩:=zc.mp hy
    have:=hp e he;lia
   obtain⟨cs,ae⟩:∃cs,shares (p*r - f) (ls.map λl=>l.2.p).sum 0 (ls.map λl=>l.2.p)=cs:=⟨_,rfl⟩;have ah:cs.length=ls.length:=by rw[<-ae,Bt,am]
   have ao:cs.sum=p*r - f:=by
    rw[<-ae,Fi,Int.zero_add,Int.mul_zero,Int.zero_ediv,Int.sub_zero];exact y9 _ (show pcs ls≠0 by lia)
   have h2:H2 p2=some (.lst (cs.map V.int)):=ae▸h2;have S2:=s1.trans s2;walk_at "m";refine⟨⟨_,jh (S2 _ _ hq)⟩,⟨_,jh h2⟩,?_⟩;refine lU.zipE (K:=K) (λσ=>∃a b,σ=[a,b]) (λi v H'=>∃b l c,ls[i]? =some l/\cs[i]? =some c/\v=.ref b/\H' b=some (.tup (l.2.vs++[.int c]))) (jh (S2 _ _ hq)) (jh h2) (by rw[jr,za,ah]) ⟨_,_,rfl⟩ (by rw[jr,zw];lia) ?_ ?_
   ·rintro Db i y z hy hz σ H5 pp R ⟨_,_,rfl⟩ an az ⟨akJ,au⟩ af kk
    obtain⟨l,ac,rfl⟩:=kO hy;obtain⟨c,rfl,hc⟩:=wg hz;obtain⟨dl,aa⟩:=(hL l (get_mem ac)).same (S2.trans an);have aa:=ji (o:=.tup [V.ref l.1,V.int c]) af _ _ aa;have al:(upd H5 pp (.tup [V.ref l.1,V.int c])) pp=some (.tup [V.ref l.1,V.int c]):=jd;have ai:=ji (o:=.tup [V.ref l.1,V.int c]) af _ _ au;generalize upd H5 pp (.tup [V.ref l.1,V.int c])=H6 at aa al ai kk;walk_at "i";refine⟨_,jE al,rfl,_,_,rfl,_,_,rfl,rfl,?_⟩;refine rd aa T.fK T.fL (by rfl) (rd aa T.fK T.fM (by rfl) (rd aa T.fK T.fN (by rfl) (rd aa T.fK T.fO (by rfl) ⟨sz,λt ht=>?_⟩)));exact kk (.ref t) _ _ ⟨_,_,rfl⟩ (ji ht) λH' hb=>⟨t,l,c,ac,hc,rfl,hb _ _ (λe=>by rw[e,ai]at ht;cases ht) jd⟩
   ·intro D3 H3 aw ba s3 aj ab as
    rw[jr]at ab;obtain⟨ps,e1,e2,e4,e3⟩:=Vd ab ah as;rw[e1]at aj;have ad:=s3 _ _ (S2 _ _ hx)
    have ay:ps.length=ls.length:=by
     have:=congrArg List.length e1;rw[Il]at this;lia
    refine rd ad T.eH T.eK (by rfl) (rd ad T.eH T.eJ (by rfl) (rd ad T.eH T.eL (by rfl) (rd ad T.eH T.eQ (by rfl) (λy dy hy ap _=>?_))));have S3:=S2.trans s3;exact⟨y,D3,n,d,p*r - f,w,none,ps,H3,dy,rfl,qO hy ap,aj,e3,by lia,λpl H4 s4 ag aq=>⟨rfl,k y _ H4 (S3.trans s4) (S3.free hy) (S3.free ag) aq rfl rfl rfl rfl rfl e2 (by show(ps.map _).sum=_;rw[e4];exact ao)⟩⟩
abbrev RW:=List (Str×Addr×RL)
noncomputable def kvR(rs:RW):List (Key×V):=rs.map λt=>(Sum.inr t.1,.ref t.2.1)
noncomputable def rowOf:RW->Str->RL
 |[],_=>[]
 |t::rs,z=>if t.1=z then t.2.2 else rowOf rs z
noncomputable def Yw(rs:RW)(z:Str)(q:Addr)(ls:RL):RW:=if rs.any (λt=>decide (t.1=z))=true then rs.map (λt=>if t.1=z then(t.1,q,ls)else t)else rs++[(z,q,ls)]
theorem akS:∀(rs:RW)(z:Str),(∃t∈rs,t.1=z/\oM (kvR rs) (Sum.inr z)=some (.ref t.2.1)/\rowOf rs z=t.2.2)\/(oM (kvR rs) (Sum.inr z)=none/\rowOf rs z=[]/\z∉rs.map (·.1))
 |[],z=> .inr ⟨rfl,rfl,by simp⟩
 |t::rs,z=>by
  by_cases e:t.1=z
  ·refine .inl ⟨t,zg,e,?_,?_⟩
   ·show oM ((Sum.inr t.1,V.ref t.2.1)::kvR rs) _=_
    rw[lG (by rw[e])]
   ·unfold rowOf;rw[zi e]
  ·have hv:oM (kvR (t::rs)) (Sum.inr z)=oM (kvR rs) (Sum.inr z):=by
    show oM ((Sum.inr t.1,V.ref t.2.1)::kvR rs) _=_;rw[lq (λh=>e (yF h))]
   have hr:rowOf (t::rs) z=rowOf rs z:=by
    show(if t.1=z then t.2.2 else rowOf rs z)=_;rw[zf e]
   rw[hv,hr];rcases akS rs z with⟨u,h1,h2,q,h4⟩|⟨h1,h2,q⟩
   ·exact .inl ⟨u,zn _ h1,h2,q,h4⟩
   ·refine .inr ⟨h1,h2,λh=>?_⟩
    rw[zl]at h;rcases zx.mp h with h|h
    ·exact e h.symm
    ·exact q h
def akx(rs:RW)(z:Str)(q:Addr)(ls:RL):putK (kvR rs) (Sum.inr z) (.ref q)=kvR (Yw rs z q ls):=by
 unfold putK Yw kvR
 have ea:(List.any (rs.map λt=>((Sum.inr t.1:Key),V.ref t.2.1)) λkv=>decide (kv.1=Sum.inr z))=rs.any λt=>decide (t.1=z):=by
  rw[List.any_map];congr 1;funext t;show decide ((Sum.inr t.1:Key)=Sum.inr z)=decide (t.1=z);by_cases e:t.1=z
  ·rw[e];simp
  ·rw[zJ e,zJ];exact λh=>e (yF h)
 rw[ea];by_cases h:rs.any (λt=>decide (t.1=z))=true
 ·rw[zi h,zi h,zu,zu]
  refine zQ λt _=>?_;show(if(Sum.inr t.1:Key)=Sum.inr z then((Sum.inr t.1:Key),V.ref q)else(Sum.inr t.1,V.ref t.2.1))=_;by_cases e:t.1=z
  ·rw[zi (by rw[e])]
   show _=((Sum.inr (if t.1=z then(t.1,q,ls)else t).1:Key),V.ref (if t.1=z then(t.1,q,ls)else t).2.1);rw[zi e]
  ·rw[zf (λh=>e (yF h))]
   show _=((Sum.inr (if t.1=z then(t.1,q,ls)else t).1:Key),V.ref (if t.1=z then(t.1,q,ls)else t).2.1);rw[zf e]
 ·rw[zf h,zf h,zp]
  rfl
def ahN{rs:RW}{ls:RL}{t:Str×Addr×RL}(h:t∈Yw rs z q ls):t=(z,q,ls)\/t∈rs:=by
 unfold Yw at h;split at h
 ·obtain⟨u,hu,e⟩:=zc.mp h
  by_cases c:u.1=z
  ·rw[zi c,c]at e;exact .inl e.symm
  ·rw[zf c]at e;exact .inr (e▸hu)
 ·rcases zD.mp h with h|h
  ·exact .inr h
  ·exact .inl (zr.mp h)
def Wj{rs:RW}{ls:RL}:(Yw rs z q ls).map (·.1)=if z∈rs.map (·.1)then rs.map (·.1)else rs.map (·.1)++[z]:=by
 unfold Yw;by_cases h:rs.any (λt=>decide (t.1=z))=true
 ·have hm:z∈rs.map (·.1):=by
   obtain⟨t,ht,e⟩:=yx.mp h;exact zc.mpr ⟨t,ht,yf e⟩
  rw[zi h,zi hm,zu];refine zQ λt _=>?_;show(if t.1=z then(t.1,q,ls)else t).1=t.1;split<;>rfl
 ·have hm:z∉rs.map (·.1):=λhm=>by
   obtain⟨t,ht,e⟩:=zc.mp hm;exact h (yx.mpr ⟨t,ht,zH e⟩)
  rw[zf h,zf hm,zp];rfl
def akr{rs:RW}{ls:RL}(h:(rs.map (·.1)).Nodup):((Yw rs z q ls).map (·.1)).Nodup:=by
 rw[Wj];by_cases c:z∈rs.map (·.1)
 ·rw[zi c];exact h
 ·rw[zf c]
  refine yB.mpr ⟨h,by simp,λy hy x hx=>?_⟩;obtain rfl:=zr.mp hx;exact λe=>c (e▸hy)
theorem Ry:∀{rs:RW}{z:Str}{q:Addr}{ls:RL}{y:Str},rowOf (rs.map λt=>if t.1=z then(t.1,q,ls)else t) y=if y=z/\z∈rs.map (·.1)then ls else rowOf rs y
 |[],z,q,ls,y=>by rw[zf (by simp)];rfl
 |t::rs,z,q,ls,y=>by
  rw[zl];have ih:=Ry (rs:=rs) (z:=z) (q:=q) (ls:=ls) (y:=y);unfold rowOf;by_cases e:t.1=z
  ·rw[zi e]
   by_cases e2:y=z
   ·rw[zi (show t.1=y by rw[e,e2]),zi ⟨e2,by rw[zl,e];exact zg⟩]
   ·have hy:¬t.1=y:=λh=>e2 (h.symm.trans e)
    rw[zf hy,zf (λh=>e2 h.1),ih,zf (λh=>e2 h.1),zf hy]
  ·rw[zf e]
   by_cases e2:t.1=y
   ·rw[zi e2,zi e2,zf (λh=>e (e2.trans h.1))]
   ·rw[zf e2,zf e2,ih]
    by_cases c:y=z/\z∈rs.map (·.1)
    ·rw[zi c,zi ⟨c.1,by rw[zl];exact zn _ c.2⟩]
    ·rw [zf c,zf λh=>c ⟨h.1,by
      have h2:=h.2;rw[zl]at h2;rcases zx.mp h2 with h2|h2
      ·exact(e h2.symm).elim
      ·exact h2⟩]
theorem Ru:∀{rs:RW}{z:Str}{q:Addr}{ls:RL}{y:Str},z∉rs.map (·.1)->rowOf (rs++[(z,q,ls)]) y=if y=z then ls else rowOf rs y
 |[],z,q,ls,y,_=>by
  show(if z=y then ls else[])=_;by_cases e:y=z
  ·rw[zi e,zi e.symm]
  ·rw[zf e,zf (λh=>e h.symm)];rfl
 |t::rs,z,q,ls,y,hn=>by
  rw[zl]at hn;have ih:=Ru (rs:=rs) (z:=z) (q:=q) (ls:=ls) (y:=y) λh=>hn (zn _ h);show(if t.1=y then t.2.2 else rowOf (rs++[(z,q,ls)]) y)=_;rw[ih];by_cases e:t.1=y
  ·rw[zi e,zf (λh=>hn (by rw[<-h,<-e];exact zg))]
   show _=(if t.1=y then t.2.2 else rowOf rs y);rw[zi e]
  ·rw[zf e]
   show _=(if y=z then ls else if t.1=y then t.2.2 else rowOf rs y);rw[zf e]
def Zg{rs:RW}{ls:RL}{y:Str}:rowOf (Yw rs z q ls) y=if y=z then ls else rowOf rs y:=by
 unfold Yw;by_cases h:rs.any (λt=>decide (t.1=z))=true
 ·have hm:z∈rs.map (·.1):=by
   obtain⟨t,ht,e⟩:=yx.mp h;exact zc.mpr ⟨t,ht,yf e⟩
  rw[zi h,Ry];by_cases e:y=z
  ·rw[zi e,zi ⟨e,hm⟩]
  ·rw[zf e,zf λh=>e h.1]
 ·have hm:z∉rs.map (·.1):=λhm=>by
   obtain⟨t,ht,e⟩:=zc.mp hm;exact h (yx.mpr ⟨t,ht,zH e⟩)
  rw[zf h,Ru hm]
noncomputable def RT(rs:RW)(z:Str):RW:=rs.filter λt=>decide (t.1≠z)
def aaK(rs:RW)(z:Str):Eo (kvR rs) (Sum.inr z)=kvR (RT rs z):=by
 unfold Eo kvR RT;rw[List.filter_map];congr 1;refine List.filter_congr λt _=>?_;show decide ((Sum.inr t.1:Key)≠Sum.inr z)=decide (t.1≠z);by_cases e:t.1=z
 ·rw[e];simp
 ·rw[zH e,zH];exact λh=>e (yF h)
theorem Mx:∀{rs:RW}{z y:Str},rowOf (RT rs z) y=if y=z then[]else rowOf rs y
 |[],z,y=>by show[]=_;split<;>rfl
 |t::rs,z,y=>by
  have ih:=Mx (rs:=rs) (z:=z) (y:=y);unfold RT at ih⊢;rw[zzb];by_cases e:t.1=z
  ·rw[zf (by simp[e]),ih]
   by_cases q:y=z
   ·rw[zi q,zi q]
   ·rw[zf q,zf q]
    show _=if t.1=y then _ else _;rw[zf (λc=>q (c.symm.trans e))]
  ·rw[zi (zH e)]
   show(if t.1=y then _ else _)=(if y=z then[]else if t.1=y then _ else _);rw[ih];by_cases q:t.1=y
   ·rw[zi q,zi q,zf (λc=>e (q.trans c))]
   ·rw[zf q,zf q]
noncomputable def keepR(rs:RW)(z:Str)(q:Addr)(ls:RL):RW:=if ls.length=0 then RT rs z else Yw rs z q ls
def qZ{rs:RW}{ls:RL}{y:Str}:rowOf (keepR rs z q ls) y=if y=z then ls else rowOf rs y:=by
 unfold keepR;split
 ·next e=>rw[Mx,zzc.mp e]
 ·exact Zg
def JQ{rs:RW}{ls:RL}{t:Str×Addr×RL}(h:t∈keepR rs z q ls):(t=(z,q,ls)/\ls≠[])\/t∈rs:=by
 unfold keepR at h;split at h
 ·exact .inr (yj.mp h).1
 ·next e=>exact(ahN h).imp_left λc=>⟨c,λz=>e (by rw[z];rfl)⟩
def WP{rs:RW}(h:z∉rs.map (·.1)):RT rs z=rs:=yE.mpr λt q=>zH λc=>h (zc.mpr ⟨t,q,c⟩)
structure KZ(ns:List Int)(W:List Str)(rs:RW):Prop where
 u:(rs.map (·.1)).Nodup
 w:∀t∈rs,t.1∈W
 n:∀t∈rs,t.2.2≠[]/\ShO ns t.2.2
def KZ.len{ns:List Int}{rs:RW}(h:KZ ns W rs):rs.length<=W.length:=by
 have:=Ej h.u λn hn=>by
  obtain⟨t,q,rfl⟩:=zc.mp hn;exact h.w t q
 rwa [za]at this
def KZ.row{ns:List Int}{rs:RW}(h:KZ ns W rs)(z:Str):ShO ns (rowOf rs z):=by
 rcases akS rs z with⟨t,h1,_,_,q⟩|⟨_,h2,_⟩
 ·rw[q];exact(h.n t h1).2
 ·rw[h2];exact ShO.nil
def KZ.keep{ns:List Int}{rs:RW}(h:KZ ns W rs)(hz:z∈W){ls:RL}(hs:ShO ns ls):KZ ns W (keepR rs z q ls):=by
 refine⟨?_,λt ht=>?_,λt ht=>?_⟩
 ·unfold keepR
  split
  ·exact(List.filter_sublist.map _).nodup h.u
  ·exact akr h.u
 ·rcases JQ ht with⟨rfl,_⟩|ht
  ·exact hz
  ·exact h.w t ht
 ·rcases JQ ht with⟨rfl,e⟩|ht
  ·exact⟨e,hs⟩
  ·exact h.n t ht
noncomputable def qR(H:Hp)(M:List Addr):Hp:=λa=>if a∈M then none else H a
def sE{M:List Addr}:Same (qR H M) H:=λa o h=>by
 unfold qR at h;split at h
 ·cases h
 ·exact h
def oV{M:List Addr}(h:H a=some o)(n:a∉M):qR H M a=some o:=by unfold qR;rw[zf n];exact h
structure Stp(M M':List Addr)(H H':Hp):Prop where
 k:∀a o,a∉M->H a=some o->H' a=some o
 f:∀m∈M',m∈M\/H m=none
def Stp.same{M M':List Addr}(s:Stp M M' H H'):Same (qR H M) (qR H' M'):=λa o h=>by
 unfold qR at h;split at h
 ·cases h
 ·next n=>exact oV (s.k a o n h) λc=>(s.f a c).elim n λe=>by rw[e]at h;cases h
def qi{M:List Addr}(s:Same H H'):Stp M M H H':=⟨λa o _ h=>s a o h,λm h=> .inl h⟩
def qz{M:List Addr}{m:Addr}(h:m∈M):Stp M M H (upd H m o):=⟨λa o n e=>(jn λc:a=m=>n (c▸h)).trans e,λm h=> .inl h⟩
def Stp.trans{M M' M'':List Addr}{H'':Hp}(s:Stp M M' H H')(t:Stp M' M'' H' H''):Stp M M'' H H'':=by
 have ne:∀{a:Addr}{o:HO},a∉M->H a=some o->a∉M':=λn h c=>(s.f _ c).elim n λe=>by rw[e]at h;cases h
 refine⟨λa o n h=>t.k a o (ne n h) (s.k a o n h),λm hm=>?_⟩;rcases t.f m hm with h|h
 ·exact s.f m h
 ·by_cases c:m∈M
  ·exact .inl c
  ·right
   cases e:H m with
   |none=>rfl
   |some o=>rw[s.k m o c e]at h;cases h
abbrev LY:=List (Addr×Int×Int×Int)
noncomputable def DQ(ts:LY):List V:=ts.map λt=>V.ref t.1
noncomputable def lyT(t:Addr×Int×Int×Int):HO:=.tup [.int t.2.1,.int t.2.2.1,.int t.2.2.2]
structure BkD where
 (C way rows sales givs:Addr)
 rs:RW
 last:Option (Addr×Int×Int)
 paid:Int
 brought:Int
 sl:List (Addr×kj)
 gv:List (Addr×Int×Addr×RL)
 x:Option (Int×Addr×LY)
noncomputable def TQ:Option (Addr×Int×Int)->V
 |none=> .non
 |some t=> .ref t.1
noncomputable def BkD.xs(k:BkD):List (Str×V):=match k.x with
 |none=>[]
 |some y=>[("days",.int y.1),("layings",.ref y.2.1)]
noncomputable def BkD.fs(k:BkD):List (Str×V):=("way",.ref k.way)::("rows",.ref k.rows)::("last_place",TQ k.last)::("paid",.int k.paid)::("brought",.int k.brought)::("sales_done",.ref k.sales)::("givings_done",.ref k.givs)::k.xs
noncomputable def BkD.xm(k:BkD):List Addr:=match k.x with
 |none=>[]
 |some y=>[y.2.1]
noncomputable def BkD.M(b:Addr)(k:BkD):List Addr:=[b,k.rows,k.sales,k.givs]++k.xm
def Mi(A:Adr)(H:Hp)(rs:RW):Prop:=∀t∈rs,H t.2.1=some (.lst (jH t.2.2))/\lD A H t.2.2
theorem Mi.same{H H':Hp}{rs:RW}(h:Mi A H rs)(s:Same H H'):Mi A H' rs:=λt q=>⟨s _ _ (h t q).1,(h t q).2.same s⟩
noncomputable def GD(sl:List (Addr×kj)):List V:=sl.map λt=>V.ref t.1
noncomputable def Pu(gv:List (Addr×Int×Addr×RL)):List V:=gv.map λt=>V.ref t.1
structure Frz(A:Adr)(G:Hp)(k:BkD):Prop where
 l:Mi A G k.rs
 p:∀t,k.last=some t->G t.1=some (.tup [.int t.2.1,.int t.2.2])
 s:∀t∈k.sl,mz A G t.1 t.2
 g:∀t∈k.gv,G t.1=some (.tup [.int t.2.1,.ref t.2.2.1])/\G t.2.2.1=some (.lst (jH t.2.2.2))/\lD A G t.2.2.2
 y:∀y,k.x=some y->∀t∈y.2.2,G t.1=some (lyT t)
theorem Frz.same{G G':Hp}{k:BkD}(h:Frz A G k)(s:Same G G'):Frz A G' k:=⟨h.l.same s,λt q=>s _ _ (h.p t q),λt q=>(h.s t q).same s,λt q=>let⟨a,b,c⟩:=h.g t q;⟨s _ _ a,s _ _ b,c.same s⟩,λy e t q=>s _ _ (h.y y e t q)⟩
structure jz(A:Adr)(H:Hp)(b:Addr)(k:BkD):Prop where
 c:(k.C=A.bW/\k.x=none)\/(k.C=A.bX/\k.x≠none)
 i:∃dx,H b=some (.ins k.C dx k.fs)
 r:H k.rows=some (.dK (kvR k.rs))
 s:H k.sales=some (.lst (GD k.sl))
 g:H k.givs=some (.lst (Pu k.gv))
 y:∀y,k.x=some y->H y.2.1=some (.lst (DQ y.2.2))/\y.2.1≠k.sales/\y.2.1≠k.givs
 d:k.sales≠k.givs
 z:Frz A (qR H (k.M b)) k
def BkD.mb{k:BkD}:b∈k.M b:=zg
def BkD.mr{k:BkD}:k.rows∈k.M b:=zn _ zg
def BkD.ms{k:BkD}:k.sales∈k.M b:=zn _ (zn _ zg)
def BkD.mv{k:BkD}:k.givs∈k.M b:=zn _ (zn _ (zn _ zg))
theorem jz.same{H H':Hp}{b:Addr}{k:BkD}(h:jz A H b k)(s:Same H H'):jz A H' b k:=
 ⟨h.c,let⟨dx,e⟩:=h.i;⟨dx,s _ _ e⟩,s _ _ h.r,s _ _ h.s,s _ _ h.g,λy e=>let⟨a,t⟩:=h.y y e;⟨s _ _ a,t⟩,h.d,h.z.same (qi s).same⟩
def jz.frz{H:Hp}{b:Addr}{k:BkD}(h:jz A H b k):Frz A H k:=h.z.same sE
def jz.neb{k:BkD}(h:jz A H b k)(q:H x=some o)(ho:∀C dx fs,o≠.ins C dx fs):x≠b:=λe=>by
 obtain⟨dx,z⟩:=h.i;rw[e,z]at q;exact ho _ _ _ (zy q).symm
def jz.ner{k:BkD}(h:jz A H b k)(q:H x=some o)(ho:∀z,o≠.dK z):x≠k.rows:=λe=>by
 rw[e,h.r]at q;exact ho _ (zy q).symm
def jz.row{k:BkD}(h:jz A H b k){ls:RL}(hq:qR H (k.M b) q=some (.lst (jH ls)))(hL:lD A (qR H (k.M b)) ls):jz A (upd H k.rows (.dK (kvR (keepR k.rs z q ls)))) b {k with rs:=keepR k.rs z q ls}:=by
 have hs:Same (qR H (k.M b)) (qR (upd H k.rows (.dK (kvR (keepR k.rs z q ls)))) (k.M b)):=(qz BkD.mr).same;have n:∀{a:Addr}{o:HO},H a=some o->(∀kv,o≠.dK kv)->(upd H k.rows (.dK (kvR (keepR k.rs z q ls)))) a=some o:=λe f=>(jn (h.ner e f)).trans e;have F:=h.z.same hs;refine⟨h.c,let⟨dx,e⟩:=h.i;⟨dx,n e λ_ c=>by cases c⟩,jd,n h.s λ_ c=>(by cases c),n h.g λ_ c=>(by cases c),λy e=>let⟨a,t⟩:=h.y y e;⟨n a λ_ c=>(by cases c),t⟩,h.d,⟨λt ht=>?_,F.p,F.s,F.g,F.y⟩⟩;rcases JQ ht with⟨rfl,_⟩|ht
 ·exact⟨hs _ _ hq,hL.same hs⟩
 ·exact F.l t ht
def jz.put{k:BkD}(h:jz A H b k){la:Option (Addr×Int×Int)}{pa br:Int}(z:∀t,la=some t->qR H (k.M b) t.1=some (.tup [.int t.2.1,.int t.2.2])):jz A (upd H b (.ins k.C dx {k with last:=la,paid:=pa,brought:=br}.fs)) b {k with last:=la,paid:=pa,brought:=br}:=by
 have q:Same (qR H (k.M b)) (qR (upd H b (.ins k.C dx {k with last:=la,paid:=pa,brought:=br}.fs)) (k.M b)):=(qz BkD.mb).same;have n:∀{a:Addr}{o:HO},H a=some o->(∀C dx fs,o≠.ins C dx fs)->(upd H b (.ins k.C dx {k with last:=la,paid:=pa,brought:=br}.fs)) a=some o:=λe f=>(jn (h.neb e f)).trans e;have F:=h.z.same q;exact⟨h.c,⟨dx,jd⟩,n h.r λ_ _ _ c=>(by cases c),n h.s λ_ _ _ c=>(by cases c),n h.g λ_ _ _ c=>(by cases c),λy e=>let⟨a,t⟩:=h.y y e;⟨n a λ_ _ _ c=>(by cases c),t⟩,h.d,⟨F.l,λt ht=>q _ _ (z t ht),F.s,F.g,F.y⟩⟩
def jz.sale{y:Addr}{k:BkD}{s:kj}(h:jz A H b k)(hy:mz A (qR H (k.M b)) y s):jz A (upd H k.sales (.lst (GD (k.sl++[(y,s)])))) b {k with sl:=k.sl++[(y,s)]}:=by
 have z:Same (qR H (k.M b)) (qR (upd H k.sales (.lst (GD (k.sl++[(y,s)])))) (k.M b)):=(qz BkD.ms).same;have n:∀{a:Addr}{o:HO},H a=some o->a≠k.sales->(upd H k.sales (.lst (GD (k.sl++[(y,s)])))) a=some o:=λe f=>(jn f).trans e;have F:=h.z.same z;refine⟨h.c,let⟨dx,e⟩:=h.i;⟨dx,n e λc=>by rw[c,h.s]at e;cases e⟩,n h.r λc=>(by have:=h.r;rw[c,h.s]at this;cases this),jd,n h.g h.d.symm,λy e=>let⟨a,t⟩:=h.y y e;⟨n a t.1,t⟩,h.d,⟨F.l,F.p,λt q=>?_,F.g,F.y⟩⟩;rcases zD.mp q with q|q
 ·exact F.s t q
 ·rw[zr.mp q];exact hy.same z
def jz.giv{k:BkD}{t:Addr×Int×Addr×RL}(h:jz A H b k)(hy:qR H (k.M b) t.1=some (.tup [.int t.2.1,.ref t.2.2.1]))(hq:qR H (k.M b) t.2.2.1=some (.lst (jH t.2.2.2)))(hL:lD A (qR H (k.M b)) t.2.2.2):jz A (upd H k.givs (.lst (Pu (k.gv++[t])))) b {k with gv:=k.gv++[t]}:=by
 have z:Same (qR H (k.M b)) (qR (upd H k.givs (.lst (Pu (k.gv++[t])))) (k.M b)):=(qz BkD.mv).same;have n:∀{a:Addr}{o:HO},H a=some o->a≠k.givs->(upd H k.givs (.lst (Pu (k.gv++[t])))) a=some o:=λe f=>(jn f).trans e;have F:=h.z.same z;refine⟨h.c,let⟨dx,e⟩:=h.i;⟨dx,n e λc=>by rw[c,h.g]at e;cases e⟩,n h.r λc=>(by have:=h.r;rw[c,h.g]at this;cases this),n h.s h.d,jd,λy e=>let⟨a,t⟩:=h.y y e;⟨n a t.2,t⟩,h.d,⟨F.l,F.p,F.s,λu q=>?_,F.y⟩⟩;rcases zD.mp q with q|q
 ·exact F.g u q
 ·rw[zr.mp q];exact⟨z _ _ hy,z _ _ hq,hL.same z⟩
structure CB(K:Fg_)(C:Addr):Prop where
 c:Cls K C
 w:jt K C "way"
 r:jt K C "rows"
 l:jt K C "last_place"
 p:jt K C "paid"
 b:jt K C "brought"
 s:jt K C "sales_done"
 g:jt K C "givings_done"
def Er{k:BkD}(h:jz A H b k):CB K k.C:=by
 rcases h.c with⟨e,_⟩|⟨e,_⟩
 ·rw[e];exact⟨T.fs,T.ft,T.fu,T.fv,T.fw,T.fx,T.fy,T.fz⟩
 ·rw[e];exact⟨T.fA,T.fB,T.fC,T.fD,T.fE,T.fF,T.fG,T.fH⟩
def jz.own{k:BkD}(h:jz A H b k){m:Addr}(hm:m∈k.M b):∃o,H m=some o/\((∃dx,o=.ins k.C dx k.fs)\/(∃q,o=.dK q)\/∃xs,o=.lst xs):=by
 obtain⟨dx,hi⟩:=h.i;unfold BkD.M at hm;rcases zD.mp hm with c|c
 ·rcases zx.mp c with rfl|c
  ·exact⟨_,hi,.inl ⟨dx,rfl⟩⟩
  rcases zx.mp c with rfl|c
  ·exact⟨_,h.r,.inr (.inl ⟨_,rfl⟩)⟩
  rcases zx.mp c with rfl|c
  ·exact⟨_,h.s,.inr (.inr ⟨_,rfl⟩)⟩
  ·rw[zr.mp c]
   exact⟨_,h.g,.inr (.inr ⟨_,rfl⟩)⟩
 ·unfold BkD.xm at c
  split at c
  ·exact(zj c).elim
  ·next y e=>
   rw[zr.mp c];exact⟨_,(h.y y e).1,.inr (.inr ⟨_,rfl⟩)⟩
def jz.fresh{k:BkD}(h:jz A H b k)(q:H x=none):x∉k.M b:=λc=>by
 obtain⟨o,e,_⟩:=h.own c;rw[q]at e;cases e
theorem jz.tup{H:Hp}{b:Addr}{k:BkD}(h:jz A H b k){x:Addr}{xs:List V}(q:H x=some (.tup xs)):qR H (k.M b) x=some (.tup xs):=oV q λc=>by
 obtain⟨o,e,c⟩:=h.own c;rw[q]at e;obtain rfl:=zy e;rcases c with⟨_,c⟩|⟨_,c⟩|⟨_,c⟩<;>cases c
theorem jz.ins{H:Hp}{b:Addr}{k:BkD}(h:jz A H b k){x C dx:Addr}{fs:List (Str×V)}{v:V}(q:H x=some (.ins C dx ((Str.ofString "number",v)::fs))):qR H (k.M b) x=some (.ins C dx ((Str.ofString "number",v)::fs)):=oV q λc=>by
 obtain⟨o,e,c⟩:=h.own c;rw[q]at e;obtain rfl:=zy e;rcases c with⟨_,c⟩|⟨_,c⟩|⟨_,c⟩
 ·injection c with _ _ c
  exact absurd (Prod.mk.inj (zzm c).1).1 (by decide+kernel)
 ·cases c
 ·cases c
def jz.lots{k:BkD}(h:jz A H b k){ls:RL}(z:lD A H ls):lD A (qR H (k.M b)) ls:=λl q=>let⟨dx,e⟩:=z l q;⟨dx,h.ins e⟩
def jz.sal{y:Addr}{k:BkD}{s:kj}(h:jz A H b k)(q:mz A H y s)(z:s.pl∉k.M b):mz A (qR H (k.M b)) y s:=⟨let⟨dx,e⟩:=q.i;⟨dx,h.ins e⟩,oV q.p z,λr hr=>h.tup (q.t r hr),q.l⟩
inductive Ca(A:Adr)(vs:List V)(H:Hp)(Q:VK)(E:XK):Prop
 |mk (b:Addr) (z:Str) (k:BkD) (_:vs=[.ref b,.str z]) (_:jz A H b k) (_:∀l H',Same H H'->H l=none->H' l=some (.lst (jH (rowOf k.rs z)))->lD A H' (rowOf k.rs z)->Q (.ref l) H'):Ca A vs H Q E
def kJ:kI P w K mg base CX0 1 A.aU D.aU ["self", "ware"] (Ca A):=by
 refine T.cX.okv La λ_ _ _ _ H vs Q E hr h=>?_
 ·obtain⟨b,z,kb,rfl,hB,k⟩:=h
  refine⟨_,(je (jq (mZ (vI (K:=K)) (by rfl) T.d5 (by decide+kernel) (iY (sX (oK hr) (fv K 0) (pvD 1) (lE jc) ⟨rfl,rfl,rfl,rfl⟩) jc)))),?_⟩;walk_at "a";obtain⟨dx,hb⟩:=hB.i;have hC:=Er T hB;refine rd hb hC.c hC.r (by rfl) ⟨kb.rows,rfl,.inl ⟨_,.inl hB.r⟩,sz,λp hp=>?_⟩;have q:=ji (o:=.lst []) hp;refine⟨_,.inl ⟨_,Sum.inr z,.inl (q _ _ hB.r),rfl,rfl⟩,?_⟩;rcases akS kb.rs z with⟨t,h1,h2,h3,h4⟩|⟨h1,h2,h3⟩
  ·rw[h3]
   obtain⟨g1,g2⟩:=hB.frz.l t h1;show Iu K [.ref t.2.1] _ Q;rw[ap_rListOf];refine⟨_,.inl (jh (q _ _ g1)),λl hl=>?_⟩;have s2:=q.trans (ji (o:=.lst (jH t.2.2)) hl);rw[h4]at k;exact k l _ s2 (q.free hl) jd (g2.same s2)
  ·rw[h1]
   show Iu K [.ref p] _ Q;rw[ap_rListOf];refine⟨_,.inl (jh jd),λl hl=>?_⟩;rw[h2]at k;exact k l _ (q.trans (ji hl)) (q.free hl) jd λl h=>(zj h).elim
inductive xg(A:Adr)(vs:List V)(H:Hp)(Q:VK)(E:XK):Prop
 |mk (b q:Addr) (z:Str) (k:BkD) (ls:RL) (_:vs=[.ref b,.str z,.ref q]) (_:jz A H b k) (_:H q=some (.lst (jH ls))) (_:lD A H ls) (_:q∉k.M b) (_:k.rs.length<=50) (_:∀H',Stp (k.M b) (k.M b) H H'->jz A H' b {k with rs:=keepR k.rs z q ls}->Q .non H'):xg A vs H Q E
def kZ:kI P w K mg base CX0 1 A.a1 D.a1 ["self", "ware", "row"] (xg A):=by
 refine T.c4.okv Hh λ_ _ _ _ H vs Q E hr h=>?_
 ·obtain⟨b,q,z,kb,ls,rfl,hB,hq,hL,hs,hz,k⟩:=h
  refine⟨_,(je (kE (jl (Fj) (jy (lX (K:=K)) (by rfl) T.dT (by decide+kernel) (pav 2 jc)) jf (jx _)) (je (Jd (oK hr) (fv K 0) (pvD 1) (pvD 2) rfl)) (je (jA (aia (fv K 0) (pvD 1) mR ⟨rfl,rfl,rfl,rfl⟩))))),?_⟩;walk_at "a";obtain⟨dx,hb⟩:=hB.i;have hC:=Er T hB;refine⟨_,.inl (jh hq),?_⟩;rw[jr];have hR:=hB.row (z:=z) (oV hq hs) (hB.lots hL);by_cases hl:ls.length=0
  ·rw[zf (by lia)]
   unfold aiX;walk_at "i";have e:keepR kb.rs z q ls=RT kb.rs z:=zi hl;rw[e]at hR k;refine rd hb hC.c hC.r (by rfl) ⟨kb.rows,rfl,.inl ⟨_,.inl hB.r⟩,_,hB.r,Sum.inr z,rfl,λv hv=>?_,λhn=>?_⟩
   ·rw[aaK]
    exact k _ (qz BkD.mr) hR
   ·rcases akS kb.rs z with⟨t,_,_,h3,_⟩|⟨_,_,h3⟩
    ·rw[hn]at h3;cases h3
    ·rw[WP h3]at k
     exact k H (qi (same_refl _)) hB
  ·rw[zi (by lia)]
   have e:keepR kb.rs z q ls=Yw kb.rs z q ls:=zf hl;rw[e]at hR k;refine rd hb hC.c hC.r (by rfl) ⟨kb.rows,rfl,_,Ul (k:=Sum.inr z) hB.r (by unfold kvR;rw[za,zw];lia),?_⟩;rw[akx _ _ _ ls];exact k _ (qz BkD.mr) hR
def jz.me{k:BkD}(h:jz A H b k){sp:Sp}:(k.C,sp)∈[(A.bW,sp),(A.bX,sp)]:=by
 rcases h.c with⟨e,_⟩|⟨e,_⟩
 ·rw[e];exact zg
 ·rw[e];exact zn _ zg
def aaH{ls:RL}{l:Addr×jD}(h:ls[i]? =some l):pcs (ls.take (i+1))=pcs (ls.take i)+l.2.p:=by
 rw[zK,h];show pcs (ls.take i++[l])=_;rw[ajR];unfold pcs;simp
def ZP{ls ms:RL}{d:jD}(hu:(ls.map (·.2.n)).Nodup)(e1:d.n∈ls.map (·.2.n)->ms.map (·.2)=(ls.map (·.2)).map (pD d))(e2:d.n∉ls.map (·.2.n)->(ms.map (·.2)).Perm (ls.map (·.2)++[d])/\(pls ms).Pairwise lt2):lH ms=lH ls+d.c:=by
 have fn:∀l:RL,l.map (·.2.n)=(l.map (·.2)).map jD.n:=λl=>by rw[zu];rfl
 by_cases hm:d.n∈ls.map (·.2.n)
 ·rw[nG,nG,e1 hm]
  obtain⟨q,hq,eq⟩:=zc.mp hm;rw[fn]at hu
  have c:=vy (f:=λx=>(pD d x).c) (g:=jD.c) hu (zc.mpr ⟨q,hq,rfl⟩) λx _ aa=>by
   show(pD d x).c=x.c;unfold pD;rw[zf (λz=>aa (z.trans eq.symm))]
  rw[zu];have h2:(pD d q.2).c=q.2.c+d.c:=by unfold pD;rw[zi eq]
  have c:((ls.map (·.2)).map (jD.c∘pD d)).sum=((ls.map (·.2)).map jD.c).sum - q.2.c+(pD d q.2).c:=c;lia
 ·rw[nG,nG,Np ((e2 hm).1.map jD.c)]
  simp
def Yc{ls:RL}{l:Addr×jD}(h:ls[i]? =some l):lH (ls.take (i+1))=lH (ls.take i)+l.2.c:=by
 rw[zK,h];show lH (ls.take i++[l])=_;unfold lH;simp
inductive Kr(A:Adr)(vs:List V)(H:Hp)(Q:VK)(E:XK):Prop
 |mk (b q:Addr) (z:Str) (k:BkD) (ls:RL) (ns:List Int) (_:vs=[.ref b,.str z,.ref q]) (_:jz A H b k) (_:H q=some (.lst (jH ls))) (_:lD A H ls) (_:(∀l∈ls,1<=l.2.p/\l.2.n∈ns/\0<=l.2.c)) (_:ShO ns (rowOf k.rs z)) (_:ns.length<=61) (_:k.rs.length<=50) (_:∀q' ms H',Stp (k.M b) (k.M b) H H'->jz A H' b {k with rs:=keepR k.rs z q' ms}->ShO ns ms->pcs ms=pcs (rowOf k.rs z)+pcs ls->lH ms=lH (rowOf k.rs z)+lH ls->Q .non H'):Kr A vs H Q E
def pW:kI P w K mg base CX0 5 A.a6 D.a6 ["self", "ware", "lots"] (Kr A):=by
 refine T.c9.okv vY λ_ _ _ _ H vs Q E hr h=>?_
 ·obtain⟨b,q,z,kb,ls,ns,rfl,hB,hq,hL,aq,hS,hn,hz,k⟩:=h
  refine ⟨_,(jb (jm (i:=3) vY.nd rfl orl (jN (pv 0) (mc T.fs T.gg (kJ T) hr (lw T) (mc T.fA T.gh (kJ T) hr (lw T) .nil)) jR (pav 1 jc)))
   (jb (oh zR rfl (jP (K:=K) (pv 2)) (jk (i:=4) vY.nd rfl orl)
    (je (jm (i:=3) vY.nd rfl orl (pcg (SM T) hr T.c8 (Wd T) (pav 3 (pav 4 jc))))))
   (je (jA (jN (pv 0) (mc T.fs T.go (kZ T) hr (lC T) (mc T.fA T.gp (kZ T) hr (lC T) .nil)) jR (pav 1 (pav 3 jc))))))),?_⟩
  simp only[start_eq];walk_at "m";obtain⟨dx,hb⟩:=hB.i;refine md hb hB.me (by unfold BkD.fs BkD.xs;cases kb.x<;>rfl) ⟨b,z,kb,rfl,hB,λr H1 s1 ap ai ak=>?_⟩
  try dsimp only
  rw[ap_seq,ap_for];walk_at "i";refine⟨⟨_,jh (s1 _ _ hq)⟩,?_⟩
  refine qu (K:=K) (a:=q) (xs:=jH ls) (λi σ H2=>∃(r':Addr)(v4:Option V),σ=[some (.ref b),some (.str z),some (.ref q),some (.ref r'),v4]/\Same H H2/\H r'=none/\∃ms:RL,H2 r'=some (.lst (jH ms))/\lD A H2 ms/\ShO ns ms/\pcs ms=pcs (rowOf kb.rs z)+pcs (ls.take i)/\lH ms=lH (rowOf kb.rs z)+lH (ls.take i))
   ⟨r,_,rfl,s1,ap,rowOf kb.rs z,ai,ak,hS,by unfold pcs;simp,by unfold lH;simp⟩ (λi σ H2 _ ⟨_,_,_,s,_⟩=>s.seq (jh hq)) ?_ ?_
  ·rintro i y σ H2 hi ⟨r',v4,rfl,s2,ah,ms,h2,af,aa,ac,ab⟩
   obtain⟨l,ad,rfl⟩:=kO hi;have ar:=aa.len;have ae:=aq l (get_mem ad);walk_at "i";refine⟨r',l.1,ms,l.2,rfl,h2,af,(hL l (get_mem ad)).same s2,by lia,aa.u,λl3 an H3 s3 am h3 aj e1 e2=>?_⟩;obtain⟨g1,g2⟩:=Wg aa ae.1 ae.2.2 ae.2.1 e1 e2;refine⟨l3,rfl,s2.trans s3,s2.free am,an,h3,aj,g1,?_,?_⟩
   ·rw[g2,ac,aaH ad]
    lia
   ·rw[ZP aa.u e1 e2,ab,Yc ad]
    lia
  ·rintro σ H2 ⟨r',v4,rfl,s2,ah,ms,h2,af,aa,ac,ab⟩
   have ag:=hB.same s2;obtain⟨as,ao⟩:=ag.i;rw[jr,zX]at ac ab
   try dsimp only
   walk_at "i";exact md ao ag.me (by unfold BkD.fs BkD.xs;cases kb.x<;>rfl) ⟨b,r',z,kb,ms,rfl,ag,h2,af,hB.fresh ah,hz,λH4 o4 al=>k r' ms H4 ((qi s2).trans o4) al aa ac ab⟩
noncomputable def Jj(rs:RW):List (Key×V):=rs.map λt=>(Sum.inr t.1,.int (pcs t.2.2))
def aau{ns:List Int}{rs:RW}(h:KZ ns W rs):vp (Jj rs):=by
 refine⟨λkv aa=>?_,?_⟩
 ·obtain⟨t,ht,rfl⟩:=zc.mp aa
  refine⟨t.1,pcs t.2.2,rfl,?_⟩;have h1:=xN (h.n t ht).2.p;have h2:=yP.mpr (h.n t ht).1;lia
 ·unfold Jj
  rw[zu];have:((λx:Key×V=>x.1)∘λt:Str×Addr×RL=>((Sum.inr t.1:Key),V.int (pcs t.2.2)))=(λz:Str=>(Sum.inr z:Key))∘λt:Str×Addr×RL=>t.1:=rfl;rw[this,<-zu];exact zY.mpr (h.u.imp fun{a b} q e=>q (yF e))
theorem Qh:∀(rs:RW)(z:Str),jo (Jj rs) z=pcs (rowOf rs z)
 |[],z=>rfl
 |t::rs,z=>by
  have q:=Qh rs z;show jo ((Sum.inr t.1,V.int (pcs t.2.2))::Jj rs) z=pcs (if t.1=z then t.2.2 else rowOf rs z);by_cases e:t.1=z
  ·rw[zi e]
   unfold jo;rw[lG (by rw[e])]
  ·rw[zf e,<-q]
   unfold jo;rw[lq (λh=>e (yF h))]
noncomputable def amT:Key->Str
 |.inr z=>z
 |.inl _=>Str.ofString ""
theorem NZ:∀{rs:RW}{t:Str×Addr×RL},(rs.map (·.1)).Nodup->t∈rs->rowOf rs t.1=t.2.2
 |u::rs,t,hu,q=>by
  rw[zl,zN]at hu;unfold rowOf;rcases zx.mp q with e|q
  ·rw[e,zi rfl]
  ·have:u.1≠t.1:=λe=>hu.1 (by rw[e];exact zc.mpr ⟨t,q,rfl⟩)
   rw[zf this];exact NZ hu.2 q
inductive Ge(A:Adr)(vs:List V)(H:Hp)(Q:VK)(E:XK):Prop
 |mk (b:Addr) (k:BkD) (ns:List Int) (W:List Str) (_:vs=[.ref b]) (_:jz A H b k) (_:KZ ns W k.rs) (_:W.length<=50) (_:ns.length<=61) (_:∀p kv H',Same H H'->H p=none->H' p=some (.dK kv)->vp kv->kv.length<=50->(∀z,jo kv z=pcs (rowOf k.rs z))->kv=Jj k.rs->Q (.ref p) H'):Ge A vs H Q E
def ud:kI P w K mg base CX0 2 A.aT D.aT ["self"] (Ge A):=by
 refine T.cW.okv Qk λ_ _ _ _ H vs Q E hr h=>?_
 ·obtain⟨b,q,ns,W,rfl,hB,hO,hW,hN,k⟩:=h
  refine⟨_,(je (jq (Sy (mZ (rR (K:=K) rfl) (by rfl) T.dS (by decide+kernel) (iY (jW (cap:=[none,none]) (N':=["ware", "row"]) rfl (by walk_at "c") (Vm (HS (K:=K) yd zzB PySem.F.type_dict_items Vo (fv K 0))) (λ_ _ _ _=>(pY (K:=K) (n:=2) rfl (jG (jk (i:=0) (show(["ware", "row"]:List Str).Nodup from by decide+kernel) rfl orl orr) (jG (jk (i:=1) (show(["ware", "row"]:List Str).Nodup from by decide+kernel) rfl orl orr) oF)))) (λ_ _ _ _=>kh) (λ_ _ _ _=>(nM (pav 0 (iY (pcg (Rt T) hr T.cV (RM T) (pav 1 jc)) jc))))) jc))))),?_⟩;walk_at "a";obtain⟨dx,hb⟩:=hB.i;have hC:=Er T hB;refine rd hb hC.c hC.r (v:=.ref q.rows) (by rfl) ⟨.inr (.inr (.inl ⟨rfl,.inl ⟨_,hB.r⟩⟩)),?_⟩;refine⟨_,_,rfl,rfl,hB.r,λv hv=>⟨v,rfl,q.rows,jd,kvR q.rs,(jn (jY hB.r hv)).trans hB.r,λo=>?_⟩⟩;have h3:(upd (upd H v (Ho v q.rows)) q.rows (.frz o (.dK (kvR q.rs)))) q.rows=some (.frz o (.dK (kvR q.rs))):=jd;have o3:∀a o',a≠q.rows->H a=some o'->(upd (upd H v (Ho v q.rows)) q.rows (.frz o (.dK (kvR q.rs)))) a=some o':=λa o' ag h=>(jn ag).trans (ji hv _ _ h);generalize upd (upd H v (Ho v q.rows)) q.rows (.frz o (.dK (kvR q.rs)))=H3 at h3 o3⊢
  have ah:Mi A H3 q.rs:=λt ht=>⟨o3 _ _ (hB.ner (hB.frz.l t ht).1 λ_ c=>by cases c) (hB.frz.l t ht).1,λl hl=>by
   obtain⟨dy,hy⟩:=(hB.frz.l t ht).2 l hl;exact⟨dy,o3 _ _ (hB.ner hy λ_ c=>by cases c) hy⟩⟩
  have aj:(kvR q.rs).length=q.rs.length:=by unfold kvR;rw[za]
  have hz:q.rs.length<=50:=zS hO.len hW;refine lU.itemsF (λσ=>∃a b,σ=[a,b]) (λ_=>true) (λkv v H'=>∃b,v=.ref b/\H' b=some (.tup [kV kv.1,.int (pcs (rowOf q.rs (amT kv.1)))])) h3 ⟨_,_,rfl⟩ (by rw[aj,zw];lia) ?_ ?_
  ·rintro D i kv z σ H5 p R1 R2 ⟨_,_,rfl⟩ s5 hD ⟨acc,hA⟩ hp k1 k2
   obtain ⟨t,ht,rfl⟩:∃t,q.rs[i]? =some t/\kv=(Sum.inr t.1,.ref t.2.1):=by
    unfold kvR at z;rw[zo]at z
    cases e:q.rs[i]? with
    |none=>rw[e]at z;cases z
    |some t=>rw[e]at z;exact⟨t,rfl,(zy z).symm⟩
   have aa:=zh ht;have s6:=ji (o:=.tup [kV (Sum.inr t.1),.ref t.2.1]) hp;have h6:(upd H5 p (.tup [kV (Sum.inr t.1),.ref t.2.1])) p=some (.tup [.str t.1,.ref t.2.1]):=jd;have ad:=s6 _ _ hA;have ab:=(ah.same s5).same s6 t aa;generalize upd H5 p (.tup [kV (Sum.inr t.1),.ref t.2.1])=H6 at h6 ad ab k1 k2⊢;walk_at "i";refine⟨_,jE h6,rfl,_,_,rfl,_,_,rfl,rfl,t.2.1,t.2.2,rfl,ab.1,ab.2,by have:=(hO.n t aa).2.len;lia,λH7 s7=>?_⟩;refine⟨sz,λu hu=>k1 rfl _ _ _ ⟨_,_,rfl⟩ (s7.trans (ji hu)) λH' hb=>⟨u,rfl,?_⟩⟩;have e1:rowOf q.rs (amT (Sum.inr t.1))=t.2.2:=NZ hO.u aa;have ep:((t.2.2.map (·.2)).map jD.p).sum=pcs t.2.2:=by unfold pcs;rw[zu];rfl
   rw[e1,<-ep];exact hb _ _ (λe=>by rw[e,s7 _ _ ad]at hu;cases hu) jd
  ·intro D H4 acc hD s4 hA ae hF
   have af:(kvR q.rs).filter (λ_=>true)=kvR q.rs:=yE.mpr λ_ _=>rfl;rw[af]at ae hF;have ak:(Jj q.rs).length=q.rs.length:=by unfold Jj;rw[za]
   have hF':∀(i:Nat) v,acc[i]? =some v->∃kv,(Jj q.rs)[i]? =some kv/\∃b,v=.ref b/\H4 b=some (.tup [kV kv.1,kv.2]):=λi v hv=>by
    obtain⟨kv,h1,b,h2,h4⟩:=hF i v hv;unfold kvR at h1;rw[zo]at h1
    cases e:q.rs[i]? with
    |none=>rw[e]at h1;cases h1
    |some t=>
     rw[e]at h1;cases h1;have e1:rowOf q.rs (amT (Sum.inr t.1))=t.2.2:=NZ hO.u (zh e);rw[e1]at h4;exact⟨(Sum.inr t.1,.int (pcs t.2.2)),by unfold Jj;rw[zo,e];rfl,b,h2,h4⟩
   have hH:=aau hO;rw[ap_dictPairs];refine⟨acc,kfD H4,vfD H4,jh hA,by lia,λy hy=>?_,λp hp=>?_⟩
   ·obtain⟨i,hi,e⟩:=z9 hy
    obtain⟨kv,_,b,rfl,hb⟩:=hF' i y (by rw[zq hi,e]);exact⟨b,rfl,by rw[Xg hb,ZM hb];exact jE hb⟩
   ·rw[aaf (by lia) hF' hH.u]
    have s5:=s4.trans (ji (o:=.dK (Jj q.rs)) hp);have ac:p≠q.rows:=λe=>by rw[e,s4 _ _ h3]at hp;cases hp
    have ai:H p=none:=by
     cases e:H p with
     |none=>rfl
     |some o'=>rw[s4 _ _ (o3 _ _ ac e)]at hp;cases hp
    refine⟨q.rows,o,kvR q.rs,s5 _ _ h3,λo u e=>?_,k p (Jj q.rs) _ (λa o' h=>?_) ai ((jn ac).trans jd) hH (by lia) (Qh q.rs) rfl⟩
    ·have e:H q.rows=some (.frz o u):=e
     rw[hB.r]at e;cases e
    ·by_cases c:a=q.rows
     ·rw[c,hB.r]at h
      rw[c,jd];exact h
     ·rw[jn c]
      exact s5 _ _ (o3 _ _ c h)
inductive xq(A:Adr)(vs:List V)(H:Hp)(Q:VK)(E:XK):Prop
 |mk (b x:Addr) (k:BkD) (ns:List Int) (W:List Str) (d n m f:Int) (w:Str) (_:vs=[.ref b,.ref x]) (_:jz A H b k) (_:IsE A H x (.split d n w m f)) (_:Mo m f) (_:KZ ns W k.rs) (_:W.length<=50) (_:ns.length<=61) (_:(rowOf k.rs w=[]\/1<=pcs (rowOf k.rs w)*m/f)) (_:∀q ms H',Stp (k.M b) (k.M b) H H'->jz A H' b {k with rs:=keepR k.rs w q ms}->ShO ns ms->pcs ms=pcs (rowOf k.rs w)*m/f->lH ms=lH (rowOf k.rs w)->Q .non H'):xq A vs H Q E
def wV:kI P w K mg base CX0 5 A.bz D.bz ["self", "entry"] (xq A):=by
 refine T.dC.okv GK λ_ _ _ _ H vs Q E hr h=>?_
 ·obtain⟨b,x,kb,ns,W,d,n,m,f,w,rfl,z,⟨dx,nv,hx,_⟩,hM,hO,hW,hN,hp,k⟩:=h
  refine⟨_,(je (jA (jN (pv 0) (mc T.fs T.go (kZ T) hr (lC T) (mc T.fA T.gp (kZ T) hr (lC T) .nil)) jR (iY (fv K 1) (iY (pcg (Rr T) hr T.dB (Su T) (iY (jN (pv 0) (mc T.fs T.gg (kJ T) hr (lw T) (mc T.fA T.gh (kJ T) hr (lw T) .nil)) jR (iY (fv K 1) jc)) (iY (fv K 1) (iY (fv K 1) jc)))) jc))))),?_⟩;walk_at "a";obtain⟨db,hb⟩:=z.i;have hl:=(hO.row w).len;have hz:=hO.len;refine md hb z.me (by unfold BkD.fs BkD.xs;cases kb.x<;>rfl) (rd hx T.e6 T.fa (by rfl) (md hb z.me (by unfold BkD.fs BkD.xs;cases kb.x<;>rfl) (rd hx T.e6 T.fa (by rfl) ⟨b,w,kb,rfl,z,λr H1 s1 ak ab ac=>?_⟩)));have aa:=s1 _ _ hx;refine rd aa T.e6 T.fb (by rfl) (rd aa T.e6 T.fc (by rfl) ⟨r,rowOf kb.rs w,m,f,ns,rfl,ab,ac,by lia,hM,hO.row w,hp,λq ms H2 s2 hq aj ag ai af ae=>?_⟩);have S2:=s1.trans s2;have ah:=z.same S2;exact⟨b,q,w,kb,ms,rfl,ah,aj,ag,z.fresh (s1.free hq),by lia,λH3 o3 ad=>k q ms H3 ((qi S2).trans o3) ad ai af ae⟩
theorem jz.day{H:Hp}{b:Addr}{k:BkD}(h:jz A H b k){x C dx:Addr}{fs:List (Str×V)}{v:V}(q:H x=some (.ins C dx ((Str.ofString "day",v)::fs))):qR H (k.M b) x=some (.ins C dx ((Str.ofString "day",v)::fs)):=oV q λc=>by
 obtain⟨o,e,c⟩:=h.own c;rw[q]at e;obtain rfl:=zy e;rcases c with⟨_,c⟩|⟨_,c⟩|⟨_,c⟩
 ·injection c with _ _ c
  exact absurd (Prod.mk.inj (zzm c).1).1 (by decide+kernel)
 ·cases c
 ·cases c
def Yv{t:Int}{ls l1 q:RL}(z:l1.map (·.2)=(ls.map (·.2)).map (rst s t))(e2:q.map (·.2)=(ls.map (·.2)).map (prt s t)):lH l1+lH q=lH ls:=by
 rw[nG,nG,nG,z,e2];generalize ls.map (·.2)=ds
 induction ds with
 |nil=>rfl
 |cons d ds ih=>
  simp only[zl,zI];have:(rst s t d).c+(prt s t d).c=d.c:=by unfold rst prt;simp only[];lia
  lia
def ajU{t:Int}(h:Shr s t)(aa:s<=t){ls l1 l2:RL}(hc:∀l∈ls,0<=l.2.c)(e1:l1.map (·.2)=(ls.map (·.2)).map (rst s t))(e2:l2.map (·.2)=(ls.map (·.2)).map (prt s t)):(∀l∈l1,0<=l.2.c)/\∀l∈l2,0<=l.2.c:=by
 have hs:=h.a.1;have ht:=h.b.1
 have key:∀c:Int,0<=c->0<=c*s/t/\c*s/t<=c:=λc h0=>by
  refine⟨zzl (yU h0 hs) (by lia),?_⟩;have h6:=zzS (c:=t) (by lia) (zze aa h0)
  rwa [y9 _ (by lia)]at h6
 refine⟨λl z=>?_,λl z=>?_⟩
 ·obtain⟨x,hx,e⟩:=zc.mp (e1▸zc.mpr ⟨l,z,rfl⟩:l.2∈(ls.map (·.2)).map (rst s t))
  obtain⟨q,hq,rfl⟩:=zc.mp hx;have:=key _ (hc q hq);rw[<-e];show 0<=q.2.c - q.2.c*s/t;lia
 ·obtain⟨x,hx,e⟩:=zc.mp (e2▸zc.mpr ⟨l,z,rfl⟩:l.2∈(ls.map (·.2)).map (prt s t))
  obtain⟨q,hq,rfl⟩:=zc.mp hx;rw[<-e];exact(key _ (hc q hq)).1
inductive tW(A:Adr)(vs:List V)(H:Hp)(Q:VK)(E:XK):Prop
 |mk (b x:Addr) (k:BkD) (ns:List Int) (W:List Str) (d n s t:Int) (w u:Str) (_:vs=[.ref b,.ref x]) (_:jz A H b k) (_:IsE A H x (.part d n w u s t)) (_:Shr s t) (_:s<=t) (_:w≠u) (_:w∈W) (_:KZ ns W k.rs) (_:W.length<=50) (_:ns.length<=61) (_:∀q1 l1 q ms H',Stp (k.M b) (k.M b) H H'->jz A H' b {k with rs:=keepR (keepR k.rs w q1 l1) u q ms}->ShO ns l1->pcs l1=pcs (rowOf k.rs w)->ShO ns ms->pcs ms=pcs (rowOf k.rs u)+pcs (rowOf k.rs w)->lH l1+lH ms=lH (rowOf k.rs w)+lH (rowOf k.rs u)->Q .non H'):tW A vs H Q E
def tL:kI P w K mg base CX0 6 A.bB D.bB ["self", "entry"] (tW A):=by
 refine T.dE.okv tR λ_ _ _ _ H vs Q E hr h=>?_
 ·obtain⟨b,x,z,ns,W,d,n,s,t,w,u,rfl,hB,⟨dx,nv,hx,_⟩,hs,av,as,hw,hO,hW,hN,k⟩:=h
  refine ⟨_,(jb (jm (i:=2) tR.nd rfl orl (pcg (Ov T) hr T.dD (Rc T) (iY (jN (pv 0) (mc T.fs T.gg (kJ T) hr (lw T) (mc T.fA T.gh (kJ T) hr (lw T) .nil)) jR (iY (fv K 1) jc)) (iY (fv K 1) (iY (fv K 1) jc)))))
   (jb (jA (jN (pv 0) (mc T.fs T.go (kZ T) hr (lC T) (mc T.fA T.gp (kZ T) hr (lC T) .nil)) jR (iY (fv K 1) (iY (jL (ju (K:=K)) (pvD 2) jf (λ_ _=>rfl)) jc))))
   (je (jA (jN (pv 0) (mc T.fs T.gr (pW T) hr (rm T) (mc T.fA T.gs (pW T) hr (rm T) .nil)) jR (iY (fv K 1) (iY (jL (ju (K:=K)) (pvD 2) jf (λ_ _=>rfl)) jc))))))),?_⟩
  obtain⟨db,hb⟩:=hB.i;have hl:=(hO.row w).len;have hz:=hO.len;simp only[start_eq];walk_at "m";refine md hb hB.me (by unfold BkD.fs BkD.xs;cases z.x<;>rfl) (rd hx T.fd T.fh (by rfl) ⟨b,w,z,rfl,hB,λr H1 s1 bc ai ak=>?_⟩);have ad:=s1 _ _ hx;refine rd ad T.fd T.fj (by rfl) (rd ad T.fd T.fk (by rfl) ⟨r,rowOf z.rs w,s,t,rfl,ai,ak,by lia,hs,λtt q1 q2 l1 l2 H2 s2 al aw bb ht h1 h2 au an e1 e2=>?_⟩);have S2:=s1.trans s2;have aa:=hB.same S2;obtain⟨az,ar⟩:=aa.i;have ag:=S2 _ _ hx;have m1:Sim (rowOf z.rs w) l1:=Zo (f:=rst s t) (λd=>⟨rfl,rfl⟩) e1;have m2:Sim (rowOf z.rs w) l2:=Zo (f:=prt s t) (λd=>⟨rfl,rfl⟩) e2;obtain⟨n1,n2⟩:=ajU hs av (hO.row w).c e1 e2;have af:=(hO.row w).sub (m1.shp (hO.row w).toShp n1) (by rw[akI (f:=rst s t) (λd=>rfl) e1];exact yM _);have ah:=m2.shp (hO.row w).toShp n2;walk_at "m";refine md ar aa.me (by unfold BkD.fs BkD.xs;cases z.x<;>rfl) (rd ag T.fd T.fh (by rfl) ⟨_,jE ht,_,rfl,b,q1,w,z,l1,rfl,aa,h1,au,hB.fresh (s1.free al),by lia,λH3 o3 ab=>?_⟩);have G:Same (qR H2 (z.M b)) H3:=λa o h=>sE _ _ (o3.same _ _ h);have am:=G _ _ (aa.tup ht);have ao:=G _ _ (oV h2 (hB.fresh (s1.free aw)));have aj:=lD.same (aa.lots an) G;have ap:=G _ _ (aa.day ag);obtain⟨ay,ax⟩:=ab.i;have ac:=hO.keep hw (q:=q1) af;have ba:=ac.len;have ae:rowOf (keepR z.rs w q1 l1) u=rowOf z.rs u:=by rw[qZ,zf (λc=>as c.symm)]
  exact md ax ab.me (by unfold BkD.fs BkD.xs;cases z.x<;>rfl) (rd ap T.fd T.fi (by rfl) ⟨_,jE am,_,rfl,b,q2,u,_,l2,ns,rfl,ab,ao,aj,λl hl=>⟨ah.p l hl,ah.m l hl,n2 l hl⟩,ac.row u,hN,(show(keepR z.rs w q1 l1).length<=50 by lia),λq' ms H4 o4 aq g1 g2 gc=>k q1 l1 q' ms H4 ((qi S2).trans (o3.trans o4)) aq af m1.pcs g1 (by rw[g2,m2.pcs];show pcs (rowOf (keepR z.rs w q1 l1) u)+_=_;rw[ae]) (by have gc:lH ms=lH (rowOf (keepR z.rs w q1 l1) u)+lH l2:=gc;rw[ae]at gc;have:=Yv e1 e2;lia)⟩)
def Vh(k:BkD):k.fs.length<1000:=by unfold BkD.fs BkD.xs;cases k.x<;>simp
def QZ(k:BkD)(i:Int):Fe (Str.ofString "brought") (.int i) k.fs={k with brought:=i}.fs:=by cases k;rfl
def Yb(k:BkD)(i:Int):Fe (Str.ofString "paid") (.int i) k.fs={k with paid:=i}.fs:=by cases k;rfl
def anE{y:Addr}{d:jD}(h:nD A H y d):lD A H [(y,d)]:=λl q=>by rw[zr.mp q];exact h
inductive xZ(A:Adr)(vs:List V)(H:Hp)(Q:VK)(E:XK):Prop
 |mk (b x:Addr) (k:BkD) (ns:List Int) (W:List Str) (d n p c s:Int) (w:Str) (_:vs=[.ref b,.ref x]) (_:jz A H b k) (_:IsE A H x (.gift d n w p c s)) (_:1<=p) (_:0<=c) (_:n∈ns) (_:KZ ns W k.rs) (_:W.length<=50) (_:ns.length<=61) (_:∀q ms H',Stp (k.M b) (k.M b) H H'->jz A H' b {k with rs:=keepR k.rs w q ms,brought:=k.brought+c}->ShO ns ms->pcs ms=pcs (rowOf k.rs w)+p->lH ms=lH (rowOf k.rs w)+c->Q .non H'):xZ A vs H Q E
def xQ:kI P w K mg base CX0 6 A.bd D.bd ["self", "entry"] (xZ A):=by
 refine T.dg.okv Iz λ_ _ _ _ H vs Q E hr h=>?_
 ·obtain⟨b,x,kb,ns,W,d,n,p,c,s,w,rfl,hB,⟨dx,nv,hx,_⟩,hp,ag,hn,hO,hW,hN,k⟩:=h
  refine ⟨_,(jb (jA (jN (pv 0) (mc T.fs T.gr (pW T) hr (rm T) (mc T.fA T.gs (pW T) hr (rm T) .nil)) jR (iY (fv K 1) (iY (lE (iY (mF T.f0 (kW (K:=K) T) (hr.mono (by decide)) (by rfl) T.ek (lu T) .nil jR (iY (fv K 1) (iY (fv K 1) (iY (fv K 1) (iY (fv K 1) jc))))) jc)) jc))))
   (je (jJ (K:=K) (pv 0) (jw jZ (fv K 0) (fv K 1)) rfl))),?_⟩
  obtain⟨db,hb⟩:=hB.i;have hz:=hO.len;simp only[start_eq];walk_at "m";refine md hb hB.me (by unfold BkD.fs BkD.xs;cases kb.x<;>rfl) (rd hx T.eR T.eV (by rfl) (rd hx T.eR T.eU (by rfl) (rd hx T.eR T.eY (by rfl) (rd hx T.eR T.eW (by rfl) (rd hx T.eR T.eX (by rfl) (λy dy hy ah _=>?_))))));refine qQ (A:=A) ⟨n,s,p,c⟩ hy ah λH1 s1 hL=>⟨sz,λq hq=>?_⟩;have s2:=s1.trans (ji (o:=.lst [.ref y]) hq);have ad:(upd H1 q (.lst [.ref y])) q=some (.lst (jH [(y,⟨n,s,p,c⟩)])):=jd;have ab:=hL.same (ji (o:=.lst [.ref y]) hq);generalize upd H1 q (HO.lst [.ref y])=H2 at s2 ad ab⊢;have ac:=hB.same s2;refine⟨b,q,w,kb,[(y,⟨n,s,p,c⟩)],ns,rfl,ac,ad,anE ab,λl hl=>by rw[zr.mp hl];exact⟨hp,hn,ag⟩,hO.row w,hN,by lia,λq' ms H3 o3 z g1 g2 gc=>?_⟩;have G:Same (qR H2 (kb.M b)) H3:=λa o h=>sE _ _ (o3.same _ _ h);have ai:=G _ _ (ac.day (s2 _ _ hx));obtain⟨af,ae⟩:=z.i;have aa:=Er T z
  try dsimp only
  refine rd ae aa.c aa.b (by rfl) (rd ai T.eR T.eX (by rfl) ⟨_,rfl,_,rfl,_,af,_,ae,aa.c,aa.b,Vh _,?_⟩);rw[QZ];exact k q' ms _ ((qi s2).trans (o3.trans (qz BkD.mb))) (z.put (la:=kb.last) (pa:=kb.paid) (br:=kb.brought+c) z.z.p) g1 (by rw[g2];unfold pcs;simp) (by rw[gc];unfold lH;simp)
def Tk(e:Ent)(w:Str)(p:Int):Prop:=(∃d n r f,e=.sell d n w p r f none)\/∃d n,e=.give d n w p none
def amV{e:Ent}{w:Str}(h:IsE A H x e)(he:Tk e w p):∃C dx v fs,H x=some (.ins C dx ((Str.ofString "day",v)::fs))/\Cls K C/\jt K C "ware" /\jt K C "pieces" /\jt K C "named" /\
  List.lookup (Str.ofString "ware") ((Str.ofString "day",v)::fs)=some (.str w)/\List.lookup (Str.ofString "pieces") ((Str.ofString "day",v)::fs)=some (.int p)/\List.lookup (Str.ofString "named") ((Str.ofString "day",v)::fs)=some .non:=by
 obtain⟨dx,q,z,hn⟩:=h;rcases he with⟨d,n,r,f,rfl⟩|⟨d,n,rfl⟩
 ·have hn:q=.non:=hn
  subst hn;exact⟨_,dx,_,_,z,T.eH,T.eL,T.eM,T.eP,by rfl,by rfl,by rfl⟩
 ·have hn:q=.non:=hn
  subst hn;exact⟨_,dx,_,_,z,T.eZ,T.e3,T.e4,T.e5,by rfl,by rfl,by rfl⟩
inductive vJ(A:Adr)(vs:List V)(H:Hp)(Q:VK)(E:XK):Prop
 |mk (b x Cw dw:Addr) (k:BkD) (ns:List Int) (W:List Str) (e:Ent) (w:Str) (p:Int) (_:vs=[.ref b,.ref x]) (_:jz A H b k) (_:H k.way=some (.ins Cw dw [])) (_:Tg A Cw) (_:IsE A H x e) (_:Tk e w p) (_:KZ ns W k.rs) (_:W.length<=50) (_:ns.length<=61) (_:1<=p) (_:p<=pcs (rowOf k.rs w)) (_:Bd (pcs (rowOf k.rs w))) (_:Bd (lH (rowOf k.rs w))) (_:∀la l1 q ms H',Stp (k.M b) (k.M b) H H'->jz A H' b {k with rs:=keepR k.rs w q ms}->H la=none->H' la=some (.lst (jH l1))->lD A H' l1->Shp ns l1->pcs l1=p->l1≠[]->ShO ns ms->pcs ms=pcs (rowOf k.rs w) - p->lH l1+lH ms=lH (rowOf k.rs w)->Q (.ref la) H'):vJ A vs H Q E
def nU:kI P w K mg base CX0 6 A.bt D.bt ["self", "entry"] (vJ A):=by
 refine T.dx.okv vh λ_ _ _ _ H vs Q E hr h=>?_
 ·obtain⟨b,x,Cw,dw,kb,ns,W,e,w,p,rfl,hB,hw,ai,aj,he,hO,hW,hN,af,ad,aa,ac,k⟩:=h
  obtain⟨C,dx,v,fs,hx,c0,c1,c2,c3,f1,f2,f3⟩:=amV T aj he
  refine ⟨_,(jb (Wf ((je (jm (i:=2) vh.nd rfl orl (pcg (QJ T) hr T.dw (Sh T) (iY (fv K 0) (iY (jN (pv 0) (mc T.fs T.gg (kJ T) hr (lw T) (mc T.fA T.gh (kJ T) hr (lw T) .nil)) jR (iY (fv K 1) jc)) (iY (fv K 1) (iY (fv K 1) jc)))))))))
   (jb (jA (jN (pv 0) (mc T.fs T.go (kZ T) hr (lC T) (mc T.fA T.gp (kZ T) hr (lC T) .nil)) jR (iY (fv K 1) (iY (jL (ju (K:=K)) (pvD 2) jf (λ_ _=>rfl)) jc))))
   (je (jq (jL (ju (K:=K)) (pvD 2) jf (λ_ _=>rfl)))))),?_⟩
  simp only[start_eq];walk_at "m";obtain⟨db,hb⟩:=hB.i;have hC:=Er T hB;have hz:=hO.len;refine rd hb hC.c hC.w (by rfl) (md hb hB.me (by unfold BkD.fs BkD.xs;cases kb.x<;>rfl) (rd hx c0 c1 f1 ⟨b,w,kb,rfl,hB,λl H1 s1 al h1 ah=>?_⟩));have z:=s1 _ _ hx;refine rd z c0 c2 f2 (rd z c0 c3 f3 ⟨kb.way,Cw,dw,l,ns,rowOf kb.rs w,p,rfl,s1 _ _ hw,ai,h1,ah,hO.row w,by lia,aa,ac,af,ad,λt la lb l1 l2 H2 s2 ht h5 h6 h7 h8 g1 g2 g3 g4 g5 gc g6 g7 g8=>?_⟩);have S2:=s1.trans s2;have q:=hB.same S2;obtain⟨ak,ag⟩:=q.i;have ae:=s2 _ _ z;walk_at "m";refine md ag q.me (by unfold BkD.fs BkD.xs;cases kb.x<;>rfl) (rd ae c0 c1 f1 ⟨_,jE ht,.ref lb,rfl,b,lb,w,kb,l2,rfl,q,h6,h8,hB.fresh (s1.free g7),by lia,λH3 o3 ab=>?_⟩);have G:Same (qR H2 (kb.M b)) H3:=λa o h=>sE _ _ (o3.same _ _ h);exact⟨_,jE (G _ _ (q.tup ht)),.ref la,rfl,k la l1 lb l2 H3 ((qi S2).trans o3) ab (s1.free g6) (G _ _ (oV h5 (hB.fresh (s1.free g6)))) (lD.same (q.lots h7) G) g1 g2 g3 g4 g5 gc⟩
inductive Ad(A:Adr)(vs:List V)(H:Hp)(Q:VK)(E:XK):Prop
 |mk (b x Cw dw:Addr) (k:BkD) (ns:List Int) (W:List Str) (d n p r f:Int) (w:Str) (_:vs=[.ref b,.ref x]) (_:jz A H b k) (_:H k.way=some (.ins Cw dw [])) (_:Tg A Cw) (_:IsE A H x (.sell d n w p r f none)) (_:KZ ns W k.rs) (_:W.length<=50) (_:ns.length<=61) (_:1<=p) (_:p<=pcs (rowOf k.rs w)) (_:Bd (pcs (rowOf k.rs w))) (_:Bd (lH (rowOf k.rs w))) (_:Bd (p*r - f)) (_:k.sl.length<=100) (_:∀y s q ms H',Stp (k.M b) (k.M b) H H'->jz A H' b {k with rs:=keepR k.rs w q ms,sl:=k.sl++[(y,s)]}->s.n=n->s.d=d->s.w=w->s.lo=none->s.pr=p*r - f->ShO ns ms->pcs ms=pcs (rowOf k.rs w) - p->s.co+lH ms=lH (rowOf k.rs w)->0<=s.co->Q .non H'):Ad A vs H Q E
def Az:kI P w K mg base CX0 7 A.bu D.bu ["self", "entry"] (Ad A):=by
 refine T.dy.okv Ii λ_ _ _ _ H vs Q E hr h=>?_
 ·obtain⟨b,x,Cw,dw,z,ns,W,d,n,p,r,f,w,rfl,hB,hw,am,hx,hO,hW,hN,ak,ah,ab,ag,af,ao,k⟩:=h
  refine⟨_,(je (jA (tD (K:=K) zP zV zW mJ (fv K 0) (iY (pcg (Vz T) hr T.dk (Zb T) (pav 1 (iY (jN (pv 0) (mc T.fs T.gF (nU T) hr (oA T) (mc T.fA T.gG (nU T) hr (oA T) .nil)) jR (pav 1 jc)) jc))) jc)))),?_⟩;obtain⟨db,hb⟩:=hB.i;have hC:=Er T hB;walk_at "a";refine rd hb hC.c hC.s (v:=.ref z.sales) (by rfl) ⟨tyL (jh hB.s),?_⟩;refine md hb hB.me (by unfold BkD.fs BkD.xs;cases z.x<;>rfl) ⟨b,x,Cw,dw,z,ns,W,_,w,p,rfl,hB,hw,am,hx,.inl ⟨d,n,r,f,rfl⟩,hO,hW,hN,ak,ah,ab,ag,λla l1 q ms H1 o1 ac an h1 al g1 g2 g3 g4 g5 gc=>?_⟩;have G:Same (qR H (z.M b)) H1:=λa o h=>sE _ _ (o1.same _ _ h);have ae:IsE A H1 x (.sell d n w p r f none):=let⟨dx,nv,e,c⟩:=hx;⟨dx,nv,G _ _ (hB.day e),c⟩
  have ap:=g1.len;refine⟨x,la,d,n,p,r,f,w,none,l1,rfl,ae,h1,al,g3,by lia,g1.p,af,ab.of (by lia) (by lia),λy s H2 s2 hy ai hS e1 e2 e3 e4 e5 e6 e7=>?_⟩;have aa:=ac.same s2;have aj:=aa.sal hS (ac.fresh ai);have hE:=aa.sale aj;show JC (V.ref z.sales) [V.ref y] H2 _;rw[ap_append];refine⟨_,aa.s,?_,?_⟩
  ·unfold GD
   rw[za,zw];show z.sl.length<_;lia
  rw[show GD z.sl++[V.ref y]=GD (z.sl++[(y,s)]) by unfold GD;rw[zp];rfl];have ad:s.co=lH l1:=by unfold kj.co;rw[nG,<-e6,zu];rfl
  exact k y s q ms _ (o1.trans ((qi s2).trans (qz BkD.ms))) hE e1 e2 e3 e5 e4 g4 g5 (by rw[<-gc,ad]) (by rw[ad];exact CV g1.c)
inductive Aw(A:Adr)(vs:List V)(H:Hp)(Q:VK)(E:XK):Prop
 |mk (b x Cw dw:Addr) (k:BkD) (ns:List Int) (W:List Str) (d n p:Int) (w:Str) (_:vs=[.ref b,.ref x]) (_:jz A H b k) (_:H k.way=some (.ins Cw dw [])) (_:Tg A Cw) (_:IsE A H x (.give d n w p none)) (_:KZ ns W k.rs) (_:W.length<=50) (_:ns.length<=61) (_:1<=p) (_:p<=pcs (rowOf k.rs w)) (_:Bd (pcs (rowOf k.rs w))) (_:Bd (lH (rowOf k.rs w))) (_:k.gv.length<=100) (_:∀g q ms H',Stp (k.M b) (k.M b) H H'->jz A H' b {k with rs:=keepR k.rs w q ms,gv:=k.gv++[g]}->0<=lH g.2.2.2->ShO ns ms->pcs ms=pcs (rowOf k.rs w) - p->lH g.2.2.2+lH ms=lH (rowOf k.rs w)->Q .non H'):Aw A vs H Q E
def Bh:kI P w K mg base CX0 7 A.bv D.bv ["self", "entry"] (Aw A):=by
 refine T.dz.okv Jm λ_ _ _ _ H vs Q E hr h=>?_
 ·obtain⟨b,x,Cw,dw,kb,ns,W,d,n,p,w,rfl,hB,hw,al,hx,hO,hW,hN,ai,af,ac,ae,am,k⟩:=h
  refine⟨_,(je (jA (tD (K:=K) zP zV zW mJ (fv K 0) (iY (nM (iY (fv K 1) (iY (jN (pv 0) (mc T.fs T.gF (nU T) hr (oA T) (mc T.fA T.gG (nU T) hr (oA T) .nil)) jR (pav 1 jc)) jc))) jc)))),?_⟩;obtain⟨db,hb⟩:=hB.i;have hC:=Er T hB;have ag:=hx;obtain⟨dx,nv,ak,_⟩:=ag;walk_at "a";refine rd hb hC.c hC.g (v:=.ref kb.givs) (by rfl) ⟨tyL (jh hB.g),?_⟩;refine rd ak T.eZ T.e2 (by rfl) (md hb hB.me (by unfold BkD.fs BkD.xs;cases kb.x<;>rfl) ⟨b,x,Cw,dw,kb,ns,W,_,w,p,rfl,hB,hw,al,hx,.inr ⟨d,n,rfl⟩,hO,hW,hN,ai,af,ac,ae,λla l1 q ms H1 o1 ad ah h1 aj g1 g2 g3 g4 g5 gc=>?_⟩);refine⟨sz,λt ht=>?_⟩;have s2:=ji (o:=.tup [V.int n,V.ref la]) ht;have aa:(upd H1 t (.tup [V.int n,V.ref la])) t=some (.tup [V.int n,V.ref la]):=jd;have z:=ad.same s2;have h2:=s2 _ _ h1;have ab:=aj.same s2;show JC (V.ref kb.givs) [V.ref t] (upd H1 t (.tup [V.int n,V.ref la])) _;generalize upd H1 t (.tup [V.int n,V.ref la])=H2 at s2 aa z h2 ab;have hE:=z.giv (t:=(t,n,la,l1)) (z.tup aa) (oV h2 (hB.fresh ah)) (z.lots ab);rw[ap_append];refine⟨_,z.g,?_,?_⟩
  ·unfold Pu
   rw[za,zw];show kb.gv.length<_;lia
  rw[show Pu kb.gv++[V.ref t]=Pu (kb.gv++[(t,n,la,l1)]) by unfold Pu;rw[zp];rfl];exact k _ q ms _ (o1.trans ((qi s2).trans (qz BkD.mv))) hE (CV g1.c) g4 g5 gc
inductive xT(A:Adr)(vs:List V)(H:Hp)(Q:VK)(E:XK):Prop
 |mk (x:Addr) (s:kj) (n:Int) (_:vs=[.ref x,.int n]) (_:mz A H x s) (_:∀y pl H',Same H H'->H y=none->H pl=none->mz A H' y {s with pl:=pl,lo:=some n}->Q (.ref y) H'):xT A vs H Q E
def Ij:kI P w K mg base CX0 3 A.ba D.ba ["sale", "number"] (xT A):=by
 refine T.dd.F.okv Jv λ_ _ _ _ H vs Q E hr h=>?_
 ·obtain⟨x,s,n,rfl,q,k⟩:=h
  refine⟨_,(je (jq (mF T.fZ (qJ (K:=K) T) (hr.mono (by decide)) (by rfl) T.eh (sU T) .nil jR (iY (fv K 0) (iY (fv K 0) (iY (fv K 0) (iY (fv K 0) (iY (fv K 0) (pav 1 jc))))))))),?_⟩;obtain⟨dx,hi⟩:=q.i;walk_at "a";refine rd hi T.fl T.fm (by rfl) (rd hi T.fl T.fn (by rfl) (rd hi T.fl T.fo (by rfl) (rd hi T.fl T.fp (by rfl) (rd hi T.fl T.fq (by rfl) (λy dy hy z _=>?_)))));exact⟨y,s.pl,s.n,s.d,s.pr,s.w,some n,s.ps,H,dy,rfl,qO hy z,q.p,q.t,q.l,λpl H' s' aa hS=>⟨rfl,k y pl H' s' hy aa hS⟩⟩
noncomputable def kj.opn(s:kj):Bool:=decide (s.lo=none) && decide (s.pr - s.co<0)
inductive Aa(A:Adr)(vs:List V)(H:Hp)(Q:VK)(E:XK):Prop
 |mk (x:Addr) (s:kj) (_:vs=[.ref x]) (_:mz A H x s) (_:∀H',Same H H'->Q (.bl s.opn) H'):Aa A vs H Q E
def HY:kI P w K mg base CX0 3 A.a8 D.a8 ["sale"] (Aa A):=by
 refine T.db.F.okv Jc λ_ _ _ _ H vs Q E z h=>?_
 ·obtain⟨x,s,rfl,q,k⟩:=h
  refine⟨_,(je (jq (Qz (uP (Gd) (fv K 0) mR (jx _)) (Ur (uP (Dr) (mG (pv 0) (mc T.fl T.gd (oJ T) z (pN T) .nil) jR) jf (jx _)))))),?_⟩;obtain⟨dx,hi⟩:=q.i;walk_at "a";refine rd hi T.fl T.fr (v:=loV s.lo) (by rfl) (?_);unfold kj.opn at k
  cases e:s.lo with
  |none=>
   rw[zi (show loV none=V.non from rfl)];rw[e,zH rfl,Bool.true_and]at k;exact md hi zg (by rfl) ⟨x,s,rfl,q,λH' s'=>⟨_,rfl,k H' s'⟩⟩
  |some i=>
   rw[zf (show¬loV (some i)=V.non from λc=>by cases c)];rw[e,zJ (λc=>by cases c),zz4]at k;exact k H (same_refl _)
noncomputable def Qg(s:kj)(w:Str)(d g:Int):Bool:=s.opn && (decide (s.w=w) && decide (d - s.d<=g))
inductive lR(A:Adr)(vs:List V)(H:Hp)(Q:VK)(E:XK):Prop
 |mk (b x y:Addr) (k:BkD) (g:Int) (la:Addr) (zs:LY) (s:kj) (d n p r f:Int) (w:Str) (_:vs=[.ref b,.ref x,.ref y]) (_:jz A H b k) (_:k.x=some (g,la,zs)) (_:IsE A H x (.buy d n w p r f)) (_:mz A H y s) (_:∀H',Same H H'->Q (.bl (Qg s w d g)) H'):lR A vs H Q E
def pG:kI P w K mg base CX0 4 A.a9 D.a9 ["self", "entry", "sale"] (lR A):=by
 refine T.dc.okv xK λ_ _ _ _ H vs Q E hr h=>?_
 ·obtain⟨b,x,y,kb,g,la,zs,s,d,n,p,r,f,w,rfl,hB,hk,⟨dx,nv,hx,_⟩,hy,k⟩:=h
  refine⟨_,(je (jq (Qz (pcg (HY T) hr T.db (Lg T) (pav 2 jc)) (Qz (uP (nA) (fv K 2) (fv K 1) (jx _)) (Ur (uP (alO) (jw pq (fv K 1) (fv K 2)) (fv K 0) (jx _))))))),?_⟩;walk_at "a";refine⟨y,s,rfl,hy,λH1 q=>?_⟩;refine⟨_,rfl,?_⟩;unfold Qg at k;obtain⟨dy,hi⟩:=hy.i;have ab:=q _ _ hi;have aa:=q _ _ hx
  cases e:s.opn with
  |false=>
   rw[zf (by decide)];rw[e,zz4]at k;exact k H1 q
  |true=>
   rw[zi rfl];rw[e,Bool.true_and]at k;refine rd ab T.fl T.fo (by rfl) (rd aa T.ey T.eC (by rfl) ⟨rfl,?_⟩);by_cases c:s.w=w
   ·rw[zi (by rw[c])]
    rw[zH c,Bool.true_and]at k;obtain⟨db,hb⟩:=(hB.same q).i;rcases hB.c with⟨_,c2⟩|⟨c1,_⟩
    ·rw[hk]at c2;cases c2
    ·refine rd aa T.ey T.eA (by rfl) (rd ab T.fl T.fn (by rfl) ⟨_,rfl,_,rfl,rd hb (by rw[c1];exact T.fA) (by rw[c1];exact T.fI) (v:=.int g) (by unfold BkD.fs BkD.xs;rw[hk];rfl) (?_)⟩)
     exact⟨_,rfl,k H1 q⟩
   ·rw[zf (λz=>c (V.str.inj z))]
    rw[zJ c,zz4]at k;exact k H1 q
def rF{α:Type}(P:α->V->Prop):List α->List V->Prop
 |[],[]=>True
 |y::ys,v::vs=>P y v/\rF P ys vs
 |[],_::_=>False
 |_::_,[]=>False
theorem rF.snoc{α:Type}{P:α->V->Prop}:∀{ys:List α}{vs:List V}{y:α}{v:V},rF P ys vs->P y v->rF P (ys++[y]) (vs++[v])
 |[],[],_,_,_,p=>⟨p,trivial⟩
 |_::_,_::_,_,_,h,p=>⟨h.1,rF.snoc h.2 p⟩
 |[],_::_,_,_,h,_=>h.elim
 |_::_,[],_,_,h,_=>h.elim
theorem rF.imp{α:Type}{P R:α->V->Prop}:∀{ys:List α}{vs:List V},rF P ys vs->(∀y v,P y v->R y v)->rF R ys vs
 |[],[],_,_=>trivial
 |_::_,_::_,h,f=>⟨f _ _ h.1,rF.imp h.2 f⟩
 |[],_::_,h,_=>h.elim
 |_::_,[],h,_=>h.elim
theorem rF.len{α:Type}{P:α->V->Prop}:∀{ys:List α}{vs:List V},rF P ys vs->vs.length=ys.length
 |[],[],_=>rfl
 |_::_,_::_,h=>congrArg (·+1) (rF.len h.2)
 |[],_::_,h=>h.elim
 |_::_,[],h=>h.elim
theorem rF.map{α:Type}{f:α->V}:∀{ys:List α}{vs:List V},rF (λy v=>v=f y) ys vs->vs=ys.map f
 |[],[],_=>rfl
 |_::_,_::_,h=>by rw[zl,<-rF.map h.2,h.1]
 |[],_::_,h=>h.elim
 |_::_,[],h=>h.elim
def rF.ints{f:α->Int}{ys:List α}{vs:List V}(h:rF (λy v=>v=.int (f y)) ys vs):vs=(ys.map f).map V.int:=by rw[rF.map h,zu];rfl
def filter_all(l:List α):l.filter (λ_=>true)=l:=yE.mpr λ_ _=>rfl
def Kc{f:α->V}{ys:List α}{g:TG}{tt:TT}{te:TE}{Q:VK}(Sσ:L2.St->Prop)(ab:α->Bool)(F:Addr->α->V->Hp->Prop)(hS:SqL K H a (ys.map f))(h0:Sσ (rD σ cap))(hz:ys.length<=100000)
  (hs:∀D y,y∈ys->∀(σ:L2.St)(H5:Hp)(R1:L2.St->VK)(R2:L2.St->Hp->Prop),Sσ σ->Same H H5->H D=none->(∃acc,H5 D=some (.lst acc))->(ab y=true->∀v z H6,Sσ z->Same H5 H6->(∀H',But D H6 H'->F D y v H')->R1 z v H6)->(ab y=false->∀z H6,Sσ z->Same H5 H6->R2 z H6)->g (f y) σ H5 λz H4=>tt z H4 λb H5=>if b=true then te z H5 (R1 z)else R2 z H5)
  (k:∀D H' acc,H D=none->Same H H'->H' D=some (.lst acc)->rF (λy v=>F D y v H') (ys.filter ab) acc->Q (.ref D) H'):lU cap (Itl K a) g tt te σ H Q:=by
 intro D hD;have hz':ys.length<=sizeLine:=by rw[zw];lia
 refine⟨λi m acc σ H2=>m=ys.length - i/\i<=ys.length/\Sσ σ/\Same H H2/\acc.length<=i/\rF (λy v=>∀H',But D H2 H'->F D y v H') ((ys.take i).filter ab) acc,⟨ys.length,rfl,zM _,h0,ji hD,zM _,trivial⟩,?_⟩;rintro i m acc σ1 H2 ⟨rfl,hi,hσ,sm,ae,hF⟩ hA;by_cases aa:i<ys.length
 ·have hx:(ys.map f)[i]? =some (f ys[i]):=by simp[aa]
  refine .inr ⟨⟨ys.map f,f ys[i],sm.seq hS,hx⟩,λy H3 hy=>?_⟩;obtain rfl:H3=H2:=hy.1;obtain rfl:y=f ys[i]:=zy ((hy.2 _ (sm.seq hS)).symm.trans hx);have htk:ys.take (i+1)=ys.take i++[ys[i]]:=by rw[zK,zq aa];rfl
  refine hs D ys[i] (yT aa) σ1 H3 _ _ hσ sm hD ⟨_,hA⟩ (λhf v z H6 ac s6 ad=>?_) λhf z H6 ac s6=>?_
  ·refine⟨acc,s6 _ _ hA,by lia,ys.length - (i+1),by lia,rfl,aa,ac,(sm.trans s6).upd hD,by rw[zC];show acc.length+1<=_;lia,?_⟩
   rw[htk,yw,z5 hf];exact rF.snoc (rF.imp hF λy v h H' hb=>h H' λb o q e=>hb b o q ((jn q).trans (s6 _ _ e))) λH' hb=>ad H' λb o q e=>hb b o q ((jn q).trans e)
  ·refine⟨ys.length - (i+1),by lia,acc,s6 _ _ hA,rfl,aa,ac,sm.trans s6,by lia,?_⟩
   rw[htk,yw,z6 (by rw[hf];decide),List.filter_nil,yk];exact rF.imp hF λy v h H' hb=>h H' λb o q e=>hb b o q (s6 _ _ e)
 ·obtain rfl:i=ys.length:=by lia
  rw[zX]at hF;exact .inl ⟨⟨_,sm.seq hS,by rw[za];exact zm _⟩,k D H2 acc hD sm hA (rF.imp hF λy v h=>h H2 λb o _ e=>e)⟩
def Oz{f:α->V}{ys:List α}{g:TG}{te:TE}{Q:VK}(Sσ:L2.St->Prop)(F:Addr->α->V->Hp->Prop)(hS:SqL K H a (ys.map f))(h0:Sσ (rD σ cap))(hz:ys.length<=100000)
  (hs:∀D y,y∈ys->∀(σ:L2.St)(q:Hp)(R:L2.St->VK),Sσ σ->Same H q->H D=none->(∃acc,q D=some (.lst acc))->(∀v z H6,Sσ z->Same q H6->(∀H',But D H6 H'->F D y v H')->R z v H6)->g (f y) σ q λz H4=>te z H4 (R z))
  (k:∀D H' acc,H D=none->Same H H'->H' D=some (.lst acc)->rF (λy v=>F D y v H') ys acc->Q (.ref D) H'):lU cap (Itl K a) g Lw te σ H Q:=
 Kc Sσ (λ_=>true) F hS h0 hz (λD y hy σ5 q R1 R2 hσ sm hD hA k1 k2=>by
  simp only[ap_noIf,if_true];exact hs D y hy σ5 q R1 hσ sm hD hA (k1 rfl)) λD H' acc hD sm hA hF=>k D H' acc hD sm hA (by rw[filter_all]at hF;exact hF)
def BkD.noM(k:BkD)(f:Str)(h:f∉["way", "rows", "last_place", "paid", "brought", "sales_done", "givings_done", "days", "layings"].map Str.ofString):List.lookup f k.fs=none:=by
 simp only[zl,zzs,zx,zj,or_false,not_or]at h;obtain⟨h1,h2,h3,h4,z,h6,h7,h8,h9⟩:=h;unfold BkD.fs BkD.xs
 have q:∀{g:String}{v:V}{r:List (Str×V)},f≠Str.ofString g->List.lookup f ((Str.ofString g,v)::r)=List.lookup f r:=fun{g v r} c=>by
  rw[yyk];rw[show(f==Str.ofString g)=false from beq_eq_false_iff_ne.mpr c]
 cases k.x with
 |none=>exact(q h1).trans ((q h2).trans ((q h3).trans ((q h4).trans ((q z).trans ((q h6).trans (q h7))))))
 |some y=>exact(q h1).trans ((q h2).trans ((q h3).trans ((q h4).trans ((q z).trans ((q h6).trans ((q h7).trans ((q h8).trans (q h9))))))))
def tM{M:List Addr}(h:qR H M a=some o):a∉M:=λc=>by
 unfold qR at h;rw[zi c]at h;cases h
noncomputable def kj.core(s:kj):Int×Int×Str×Int×SP5:=(s.n,s.d,s.w,s.pr,s.ps)
def jz.swap{D dx:Addr}{k:BkD}{sl:List (Addr×kj)}(h:jz A H b k)(s:Same H H')(q:H D=none)(hl:H' D=some (.lst (GD sl)))(hS:∀t∈sl,mz A H' t.1 t.2/\t.2.pl≠D/\t.2.pl∉k.M b):
  Stp (k.M b) ({k with sales:=D,sl:=sl}.M b) H (upd H' b (.ins k.C dx {k with sales:=D}.fs))/\jz A (upd H' b (.ins k.C dx {k with sales:=D}.fs)) b {k with sales:=D,sl:=sl}:=by
 have hM:∀m∈{k with sales:=D,sl:=sl}.M b,m=D\/m∈k.M b:=λm hm=>by
  have hm:m∈[b,k.rows,D,k.givs]++k.xm:=hm;show m=D\/m∈[b,k.rows,k.sales,k.givs]++k.xm;simp only[zD,zx,zj,or_false]at hm⊢;rcases hm with(c|c|c|c)|c
  ·exact .inr (.inl (.inl c))
  ·exact .inr (.inl (.inr (.inl c)))
  ·exact .inl c
  ·exact .inr (.inl (.inr (.inr (.inr c))))
  ·exact .inr (.inr c)
 have ab:D≠b:=λe=>by obtain⟨dy,hb⟩:=h.i;rw[<-e,q]at hb;cases hb
 have st:Stp (k.M b) ({k with sales:=D,sl:=sl}.M b) H (upd H' b (.ins k.C dx {k with sales:=D}.fs)):=⟨λa o n e=>(jn λc:a=b=>n (c▸BkD.mb)).trans (s _ _ e),λm hm=>(hM m hm).elim (λe=> .inr (e▸q)) .inl⟩;have n:∀{a:Addr}{o:HO},H a=some o->(∀C dx fs,o≠.ins C dx fs)->(upd H' b (.ins k.C dx {k with sales:=D}.fs)) a=some o:=λe f=>(jn (h.neb e f)).trans (s _ _ e);have hB':=h.same s;have F:=h.z.same st.same;have g:∀{a:Addr}{o:HO},H' a=some o->a≠D->a∉k.M b->qR (upd H' b (.ins k.C dx {k with sales:=D}.fs)) ({k with sales:=D,sl:=sl}.M b) a=some o:=fun{a o} e c1 z=>oV ((jn λc:a=b=>z (c▸BkD.mb)).trans e) λc=>(hM _ c).elim c1 z;refine⟨st,h.c,⟨dx,jd⟩,n h.r λ_ _ _ c=>(by cases c),(jn ab).trans hl,n h.g λ_ _ _ c=>(by cases c),λy e=>?_,λc=>?_,⟨F.l,F.p,λt ht=>?_,F.g,F.y⟩⟩
 ·obtain⟨a,t⟩:=h.y y e
  exact⟨n a λ_ _ _ c=>(by cases c),fun(c:y.2.1=D)=>(by rw[c,q]at a;cases a),t.2⟩
 ·have:=h.g
  rw[<-show D=k.givs from c,q]at this;cases this
 ·obtain⟨⟨⟨dy,hi⟩,hp,hT,aa⟩,c1,z⟩:=hS t ht
  refine⟨⟨dy,g hi (λc=>by rw[c,hl]at hi;cases hi) (tM (hB'.ins hi))⟩,g hp c1 z,λr hr=>g (hT r hr) (λc=>?_) (tM (hB'.tup (hT r hr))),aa⟩;have:=hT r hr;rw[c,hl]at this;cases this
def jz.lay{la:Addr}{k:BkD}{g:Int}{zs ws:LY}(h:jz A H b k)(q:k.x=some (g,la,zs))(hw:∀t∈ws,qR H (k.M b) t.1=some (lyT t)):Stp (k.M b) ({k with x:=some (g,la,ws)}.M b) H (upd H la (.lst (DQ ws)))/\jz A (upd H la (.lst (DQ ws))) b {k with x:=some (g,la,ws)}:=by
 have hM:{k with x:=some (g,la,ws)}.M b=k.M b:=by unfold BkD.M BkD.xm;rw[q]
 have hm:la∈k.M b:=by unfold BkD.M BkD.xm;rw[q];exact zF _ zg
 obtain⟨y1,y2,y3⟩:=h.y _ q;have z:=qz (H:=H) (o:=.lst (DQ ws)) hm;have F:=h.z.same z.same;have n:∀{a:Addr}{o:HO},H a=some o->a≠la->(upd H la (.lst (DQ ws))) a=some o:=λe f=>(jn f).trans e;refine⟨by rw[hM];exact z,h.c.imp (λc=>by rw[q]at c;cases c.2) λc=>⟨c.1,λc=>by cases c⟩,?_,n h.r λc=>?_,n h.s (Ne.symm y2),n h.g (Ne.symm y3),λy e=>?_,h.d,?_⟩
 ·obtain⟨dx,e⟩:=h.i
  refine⟨dx,(n e λc=>by rw[c,y1]at e;cases e).trans ?_⟩;unfold BkD.fs BkD.xs;rw[q]
 ·have:=h.r
  rw[c,y1]at this;cases this
 ·cases e
  exact⟨jd,y2,y3⟩
 ·rw[hM]
  exact⟨F.l,F.p,F.s,F.g,λy e t ht=>by cases e;exact z.same _ _ (hw t ht)⟩
noncomputable def BkD.ll(k:BkD):Nat:=match k.x with
 |none=>0
 |some y=>y.2.2.length
noncomputable def kj.dat(s:kj):(Int×Int×Str×Int×SP5)×Option Int:=(s.core,s.lo)
noncomputable def Xc(k:BkD)(w:Str)(d:Int)(s:kj):Bool:=match k.x with
 |some y=>Qg s w d y.1
 |none=>false
noncomputable def Tn(k:BkD)(w:Str)(d n:Int)(s:kj):(Int×Int×Str×Int×SP5)×Option Int:=(s.core,if Xc k w d s=true then some n else s.lo)
noncomputable def aap(k:BkD)(w:Str)(d:Int):Int:=((k.sl.filter λt=>Xc k w d t.2).map λt=> -(t.2.pr - t.2.co)).sum
noncomputable def amJ(k:BkD)(w:Str)(d n:Int):List (Int×Int×Int):=(k.sl.filter λt=>Xc k w d t.2).map λt=>(t.2.n,n, -(t.2.pr - t.2.co))
def anG(k:BkD)(w:Str)(d n:Int)(x':Option (Int×Addr×LY)):Prop:=(k.x=none->x'=none)/\∀y,k.x=some y->∃ts:LY,x'=some (y.1,y.2.1,y.2.2++ts)/\ts.map (·.2)=amJ k w d n
def aaE{k:BkD}{w:Str}{d n:Int}(h:k.x=none):k.sl.map (λt=>t.2.dat)=k.sl.map (λt=>Tn k w d n t.2)/\aap k w d=0:=by
 have q:∀s,Xc k w d s=false:=λs=>by unfold Xc;rw[h]
 refine⟨zQ λt _=>?_,?_⟩
 ·unfold Tn
  rw[q,zf (by decide)];rfl
 ·unfold aap
  rw[List.filter_eq_nil_iff.mpr λt _=>by rw[q];decide];rfl
def aaA{k:BkD}{w:Str}{d n:Int}{sl:List (Addr×kj)}(h:sl.map (λt=>t.2.dat)=k.sl.map (λt=>Tn k w d n t.2)):sl.map (λt=>t.2.core)=k.sl.map (λt=>t.2.core):=by
 have:=congrArg (List.map Prod.fst) h
 rwa [zu,zu]at this
inductive Wu(A:Adr)(C:Addr)(z:Bool)(vs:List V)(H:Hp)(Q:VK)(E:XK):Prop
 |mk (b x:Addr) (k:BkD) (d n p r f:Int) (w:Str) (_:vs=[.ref b,.ref x]) (_:k.C=C) (_:k.x.isSome=z) (_:jz A H b k) (_:IsE A H x (.buy d n w p r f)) (_:k.sl.length<=100) (_:k.ll<=10000) (_:∀sa sl x' i H',Stp (k.M b) ({k with sales:=sa,sl:=sl,x:=x'}.M b) H H'->jz A H' b {k with sales:=sa,sl:=sl,x:=x'}->sl.map (λt=>t.2.dat)=k.sl.map (λt=>Tn k w d n t.2)->i=aap k w d->anG k w d n x'->{k with sales:=sa,sl:=sl,x:=x'}.ll<=k.ll+100->Q (.int i) H'):Wu A C z vs H Q E
def Ln:kI P w K mg base CX0 1 A.a7 D.a7 ["self", "entry"] (Wu A A.bW false):=by
 refine T.da.okv KY λ_ _ _ _ H vs Q E hr h=>?_
 ·obtain⟨b,x,z,d,n,p,r,f,w,rfl,hC,hz,hB,hx,hl,aa,k⟩:=h
  refine⟨_,(je (jq jf)),?_⟩;walk_at "a";have q:z.x=none:=Option.isNone_iff_eq_none.mp (Option.isSome_eq_false_iff.mp hz);obtain⟨e1,e2⟩:=aaE (k:=z) (w:=w) (d:=d) (n:=n) q;exact k z.sales z.sl z.x 0 H (qi (same_refl _)) hB e1 e2.symm ⟨λc=>c,λy c=>by rw[q]at c;cases c⟩ (yJ _ _)
def mz.but{D:Addr}{s:kj}{xs:List V}(h:mz A H x s)(q:H D=some (.lst xs))(z:s.pl≠D)(b:But D H H'):mz A H' x s:=by
 obtain⟨dx,hi⟩:=h.i;refine⟨⟨dx,b _ _ (λe=>by rw[e,q]at hi;cases hi) hi⟩,b _ _ z h.p,λr hr=>?_,h.l⟩;have h1:=h.t r hr;exact b _ _ (λe=>by rw[e,q]at h1;cases h1) h1
theorem aln{H:Hp}{R:kj->Prop}{F:kj->(Int×Int×Str×Int×SP5)×Option Int}:∀{sl:List (Addr×kj)}{acc:List V},rF (λt v=>∃y s,v=.ref y/\mz A H y s/\R s/\s.dat=F t.2) sl acc->∃q:List (Addr×kj),acc=GD q/\q.map (λt=>t.2.dat)=sl.map (λt=>F t.2)/\∀t∈q,mz A H t.1 t.2/\R t.2
 |[],[],_=>⟨[],rfl,rfl,λt h=>(zj h).elim⟩
 |t::sl,v::acc,h=>by
  obtain⟨⟨y,s,rfl,hs,hr,hc⟩,h2⟩:=h;obtain⟨q,e1,e2,e3⟩:=aln h2;refine⟨(y,s)::q,by rw[e1];rfl,by rw[zl,zl,e2,hc],λu z=>?_⟩;rcases zx.mp z with rfl|z
  ·exact⟨hs,hr⟩
  ·exact e3 u z
 |[],_::_,h=>h.elim
 |_::_,[],h=>h.elim
theorem alB{H:Hp}{F:kj->Int×Int×Int}:∀{sl:List (Addr×kj)}{acc:List V},rF (λt v=>∃a,v=.ref a/\H a=some (lyT (a,F t.2))) sl acc->∃q:LY,acc=DQ q/\q.map (·.2)=sl.map (λt=>F t.2)/\∀t∈q,H t.1=some (lyT t)
 |[],[],_=>⟨[],rfl,rfl,λt h=>(zj h).elim⟩
 |t::sl,v::acc,h=>by
  obtain⟨⟨a,rfl,ha⟩,h2⟩:=h;obtain⟨q,e1,e2,e3⟩:=alB h2;refine⟨(a,F t.2)::q,by rw[e1];rfl,by rw[zl,zl,e2],λu z=>?_⟩;rcases zx.mp z with rfl|z
  ·exact ha
  ·exact e3 u z
 |[],_::_,h=>h.elim
 |_::_,[],h=>h.elim
def Wy(k:BkD)(a:Addr):Fe (Str.ofString "sales_done") (.ref a) k.fs={k with sales:=a}.fs:=by cases k;rfl
def Bu:kI P w K mg base CX0 5 A.bb D.bb ["self", "entry"] (Wu A A.bX true):=by
 refine T.de.okv qN λ_ _ _ _ H vs Q E hr h=>?_
 ·obtain⟨b,x,kb,d,n,p,r,f,w,rfl,ah,hz,hB,hx,hl,am,k⟩:=h
  obtain⟨⟨g,la,zs⟩,hk⟩:=yK.mp hz;have hP:∀s,Xc kb w d s=Qg s w d g:=λs=>by unfold Xc;rw[hk]
  refine ⟨_,(jb (nT (i:=2) qN.nd rfl rfl (cap:=[none,some 0,some 1]) (N':=["sale", "self", "entry"]) rfl (by walk_at "c") (lM (K:=K) (fv K 0)) (λ_ _ _ _=>(jk (i:=0) (show(["sale", "self", "entry"]:List Str).Nodup from by decide+kernel) rfl orl orr)) (λ_ _ _ _=>(ul (qp (jN (pv 1) (mc T.fA T.gq (pG T) hr (qj T) .nil) jR (pav 2 (pav 0 jc)))))) (λ_ _ _ _=>(pvD 0)))
   (jb (jA (tD (K:=K) zP PySem.F.slot_list_extend PySem.F.type_list_extend ZK (fv K 0) (iY (jW (cap:=[none,some 1]) (N':=["sale", "entry"]) rfl (by walk_at "c") (jP (K:=K) (pv 2)) (λ_ _ _ _=>(jk (i:=0) (show(["sale", "entry"]:List Str).Nodup from by decide+kernel) rfl orl orr)) (λ_ _ _ _=>kh) (λ_ _ _ _=>(nM (iY (fv K 0) (iY (fv K 1) (iY (aiq Uz (mG (pv 0) (mc T.fl T.gd (oJ T) hr (pN T) .nil) jR)) jc)))))) jc)))
   (jb (jJ (K:=K) (pv 0) (jW (cap:=[none,some 0,some 1]) (N':=["sale", "self", "entry"]) rfl (by walk_at "c") (lM (K:=K) (fv K 0)) (λ_ _ _ _=>(jk (i:=0) (show(["sale", "self", "entry"]:List Str).Nodup from by decide+kernel) rfl orl orr)) (λ_ _ _ _=>kh) (λ_ _ _ _=>(Eu (qp (jN (pv 1) (mc T.fA T.gq (pG T) hr (qj T) .nil) jR (pav 2 (pav 0 jc)))) (pcg (Ij T) hr T.dd (KR T) (pav 0 (iY (fv K 2) jc))) (pvD 0)))) rfl)
   (je (jq (jy (lK (K:=K) rfl) (by rfl) T.d6 (by decide+kernel) (iY (jW (cap:=[none]) (N':=["sale"]) rfl (by walk_at "c") (jP (K:=K) (pv 2)) (λ_ _ _ _=>(jk (i:=0) nd1 rfl orl orr)) (λ_ _ _ _=>kh) (λ_ _ _ _=>(aiq Uz (mG (pv 0) (mc T.fl T.gd (oJ T) hr (pN T) .nil) jR)))) jc))))))),?_⟩
  obtain⟨db,hb⟩:=hB.i;have hC:=Er T hB;have b0:zs.length<=10000:=by unfold BkD.ll at am;rw[hk]at am;exact am
  simp only[start_eq];walk_at "m";refine rd hb hC.c hC.s (by rfl) ⟨kb.sales,rfl,⟨_,jh hB.s⟩,?_⟩;refine Kc (f:=λt:Addr×kj=>V.ref t.1) (λσ=>∃a,σ=[a,some (.ref b),some (.ref x)]) (λt=>Qg t.2 w d g) (λ_ t v _=>v=.ref t.1) (jh hB.s) ⟨_,rfl⟩ (by lia) ?_ ?_
  ·rintro Da t ht σ H5 R1 R2 ⟨_,rfl⟩ sm hD hA k1 k2
   walk_at "i";obtain⟨ao,ap⟩:=(hB.same sm).i;refine⟨_,ao,_,ap,lR A,by rw[ah];exact zg,BkD.noM _ _ (by decide+kernel),b,x,t.1,kb,g,la,zs,t.2,d,n,p,r,f,w,rfl,hB.same sm,hk,hx.same sm,(hB.frz.s t ht).same sm,λH6 s6=>⟨_,rfl,?_⟩⟩
   cases e:Qg t.2 w d g with
   |true=>rw[zi rfl];exact k1 e _ _ H6 ⟨_,rfl⟩ s6 λ_ _=>rfl
   |false=>rw[zf (by decide)];exact k2 e _ H6 ⟨_,rfl⟩ s6
  ·intro D1 H1 bv az s1 ab bk
   rw[rF.map bk]at ab;have ay:(kb.sl.filter λt=>Qg t.2 w d g).length<=kb.sl.length:=yo _ _;have aj:∀t∈kb.sl.filter λt=>Qg t.2 w d g,t∈kb.sl:=λt h=>(yj.mp h).1;have hI:aap kb w d=((kb.sl.filter λt=>Qg t.2 w d g).map λt=> -(t.2.pr - t.2.co)).sum:=by unfold aap;simp only[hP]
   have hT:amJ kb w d n=(kb.sl.filter λt=>Qg t.2 w d g).map λt=>(t.2.n,n, -(t.2.pr - t.2.co)):=by unfold amJ;simp only[hP]
   generalize(kb.sl.filter λt=>Qg t.2 w d g)=tk at ab ay aj hI hT;have an:=hB.same s1;obtain⟨b4,bq⟩:=an.i;walk_at "m";refine rd bq (by rw[ah];exact T.fA) (by rw[ah];exact T.fJ) (v:=.ref la) (by unfold BkD.fs BkD.xs;rw[hk];rfl) ⟨tyL (jh (an.y _ hk).1),⟨_,jh ab⟩,?_⟩;refine Oz (f:=λt:Addr×kj=>V.ref t.1) (λσ=>∃a,σ=[a,some (.ref x)]) (λ_ t v H'=>∃a,v=.ref a/\H' a=some (lyT (a,t.2.n,n, -(t.2.pr - t.2.co)))) (jh ab) ⟨_,rfl⟩ (by lia) ?_ ?_
   ·rintro Da t ht σ H5 R ⟨_,rfl⟩ sm hD ⟨acc,hA⟩ kk
    have aa:=((hB.frz.s t (aj t ht)).same s1).same sm;obtain⟨dt,hi⟩:=aa.i;obtain⟨dx,nv,aq,_⟩:=(hx.same s1).same sm;walk_at "i";exact rd hi T.fl T.fm (by rfl) (rd aq T.ey T.eB (by rfl) (md hi zg (by rfl) ⟨t.1,t.2,rfl,aa,λH6 s6=>⟨_,rfl,sz,λp hp=>kk _ _ _ ⟨_,rfl⟩ (s6.trans (ji hp)) λH' hb=>⟨p,rfl,hb _ _ (λe=>by rw[e,s6 _ _ hA]at hp;cases hp) jd⟩⟩⟩))
   ·intro D2 H2 ae bz s2 bn au
    have b2:=rF.len au;have af:=an.same s2;obtain⟨ts,ax,bf,br⟩:=alB (F:=λs=>(s.n,n, -(s.pr - s.co))) au;refine⟨la,D2,DQ zs,ae,rfl,rfl,(af.y _ hk).1,bn,by rw[zw,show(DQ zs).length=zs.length from za _];lia,?_⟩;have bg:DQ zs++ae=DQ (zs++ts):=by rw[ax];unfold DQ;rw[zp]
    rw[bg];have b5:ae.length=ts.length:=by rw[ax];exact za _
    obtain⟨o3,q⟩:=af.lay hk (ws:=zs++ts) λt ht=>(zD.mp ht).elim (af.z.y _ hk t) λh=>af.tup (br t h);have S2:=s1.trans s2;have al:(upd H2 la (.lst (DQ (zs++ts)))) D1=some (.lst (tk.map λt=>V.ref t.1)):=o3.k D1 _ (hB.fresh az) (s2 _ _ ab);have ba:IsE A (upd H2 la (.lst (DQ (zs++ts)))) x (.buy d n w p r f):=let⟨dx,nv,e,c⟩:=hx.same S2;⟨dx,nv,o3.k x _ (tM (af.day e)) e,c⟩
    generalize upd H2 la (.lst (DQ (zs++ts)))=H3 at o3 q al ba;obtain⟨k3,ad⟩:∃k3,k3={kb with x:=some (g,la,zs++ts)}:=⟨_,rfl⟩;have bt:k3.C=A.bX:=by rw[ad];exact ah
    have bl:k3.x=some (g,la,zs++ts):=by rw[ad]
    have ar:k3.sl=kb.sl:=by rw[ad]
    have av:∀{sa sl},{kb with sales:=sa,sl:=sl,x:=some (g,la,zs++ts)}={k3 with sales:=sa,sl:=sl}:=by rw[ad];exact rfl
    rw[<-ad]at o3 q;clear ad;rw[<-ar]at hl ay aj;have bh:kb.sl.map (λt=>Tn kb w d n t.2)=k3.sl.map (λt=>(t.2.core,if Qg t.2 w d g=true then some n else t.2.lo)):=by rw[ar];exact zQ λt _=>by unfold Tn;rw[hP]
    obtain⟨b3,bo⟩:=q.i;have ai:=Er T q;walk_at "m";refine rd bo ai.c ai.s (by rfl) ⟨k3.sales,rfl,⟨_,jh q.s⟩,?_⟩;refine Oz (f:=λt:Addr×kj=>V.ref t.1) (λσ=>∃a,σ=[a,some (.ref b),some (.ref x)]) (λDa t v H'=>∃y s,v=.ref y/\mz A H' y s/\(s.pl≠Da/\s.pl∉k3.M b)/\s.dat=(t.2.core,if Qg t.2 w d g=true then some n else t.2.lo)) (jh q.s) ⟨_,rfl⟩ (by lia) ?_ ?_
    ·rintro Da t ht σ H5 R ⟨_,rfl⟩ sm hD ⟨acc,hA⟩ kk
     have ac:=q.same sm;obtain⟨ao,ap⟩:=ac.i;have bc:=q.frz.s t ht;have aa:=bc.same sm;have bb:=ba.same sm;walk_at "i";refine⟨_,ao,_,ap,lR A,by rw[bt];exact zg,BkD.noM _ _ (by decide+kernel),b,x,t.1,k3,g,la,_,t.2,d,n,p,r,f,w,rfl,ac,bl,bb,aa,λH6 s6=>⟨_,rfl,?_⟩⟩
     cases e:Qg t.2 w d g with
     |true=>
      rw[zi rfl];obtain⟨dx,nv,aq,_⟩:=bb.same s6
      exact ⟨_,dx,_,aq,T.ey,T.eB,_,by rfl,t.1,t.2,n,rfl,aa.same s6,λy pl H7 s7 hy as bi=>kk (.ref y) _ H7 ⟨_,rfl⟩ (s6.trans s7) λH' hb=>
       have ag:pl≠Da:=λc=>by rw[c,s6 _ _ hA]at as;cases as
       ⟨y,_,rfl,bi.but (s7 _ _ (s6 _ _ hA)) ag hb,⟨ag,(ac.same s6).fresh as⟩,by rw[zi e];rfl⟩⟩
     |false=>
      rw[zf (by decide)];have ag:t.2.pl≠Da:=λc=>by have:=bc.p;rw[c,hD]at this;cases this
      exact kk (.ref t.1) _ H6 ⟨_,rfl⟩ s6 λH' hb=>⟨t.1,t.2,rfl,(aa.same s6).but (s6 _ _ hA) ag hb,⟨ag,tM (q.z.s t ht).p⟩,by rw[zf (by rw[e];decide)];rfl⟩
    ·intro D4 H4 bx bm s4 aw bj
     obtain⟨be,e1,e2,e3⟩:=aln (R:=λs=>s.pl≠D4/\s.pl∉k3.M b) (F:=λs=>(s.core,if Qg s w d g=true then some n else s.lo)) bj;rw[e1]at aw;obtain⟨bp,bs⟩:=(q.same s4).i;refine sw bs ai.c ai.s (Vh _) (?_);rw[Wy];obtain⟨o5,ac⟩:=q.swap s4 bm aw (dx:=bp) λt ht=>e3 t ht;generalize upd H4 b _=H5 at o5 ac;have o:=(qi S2).trans (o3.trans o5);have ak:=o5.k D1 _ (λc=>(o3.f D1 c).elim (hB.fresh az) λz=>by rw[s2 _ _ ab]at z;cases z) al;have aa:∀t∈tk,mz A H5 t.1 t.2:=λt ht=>(hB.z.s t (ar▸aj t ht)).same λa u h=>sE _ _ (o.same _ _ h);refine⟨⟨_,jh ak⟩,?_⟩;refine Oz (f:=λt:Addr×kj=>V.ref t.1) (λσ=>∃a,σ=[a]) (λ_ t v _=>v=.int (-(t.2.pr - t.2.co))) (jh ak) ⟨_,rfl⟩ (by lia) ?_ ?_
     ·rintro Da t ht σ H6 R ⟨_,rfl⟩ sm hD hA kk
      obtain⟨dt,hi⟩:=((aa t ht).same sm).i;walk_at "i";exact md hi zg (by rfl) ⟨t.1,t.2,rfl,(aa t ht).same sm,λH7 s7=>⟨_,rfl,kk _ _ _ ⟨_,rfl⟩ s7 λ_ _=>rfl⟩⟩
     ·intro D6 H6 bw b1 s6 bd bu
      rw[rF.ints bu]at bd;walk_at "a";refine⟨_,jh bd,k D4 be (some (g,la,zs++ts)) _ H6 ?_ ?_ (e2.trans bh.symm) hI.symm ⟨λc=>(by rw[hk]at c;cases c),λy c=>(by rw[hk]at c;cases c;exact⟨ts,rfl,bf.trans hT.symm⟩)⟩ ?_⟩
      ·rw[av];exact o.trans (qi s6)
      ·rw[av];exact ac.same s6
      ·unfold BkD.ll
       rw[hk];show(zs++ts).length<=zs.length+100;rw[zC];lia
def Bq(K:Fg_)(C:Addr):kitOne K (.ref C) (.ref C)=some true:=zi (by simp)
def alK{e:Ent}(h:IsE A H x e):Kv K H (.ref x) (.ref (e.cls A)):=by
 obtain⟨dx,z,q,_⟩:=h
 cases e with
 |buy=>exact T.ez.of q
 |sell=>exact T.eI.of q
 |gift=>exact T.eS.of q
 |give=>exact T.e0.of q
 |split=>exact T.e7.of q
 |part=>exact T.fe.of q
def anM(e:Ent):kitOne K (.ref (e.cls A)) (.ref A.bO)=some (uV e)/\kitOne K (.ref (e.cls A)) (.ref A.bP)=some (pO e)/\kitOne K (.ref (e.cls A)) (.ref A.bQ)=some (pR e)/\
  kitOne K (.ref (e.cls A)) (.ref A.bR)=some (uG e)/\kitOne K (.ref (e.cls A)) (.ref A.bS)=some (pZ e)/\kitOne K (.ref (e.cls A)) (.ref A.bT)=some (uo e):=by
 cases e with
 |buy=>obtain⟨a,b,c,d,f⟩:=T.g3;exact⟨Bq _ _,a,b,c,d,f⟩
 |sell=>obtain⟨a,b,c,d,f⟩:=T.g4;exact⟨a,Bq _ _,b,c,d,f⟩
 |gift=>obtain⟨a,b,c,d,f⟩:=T.g5;exact⟨a,b,Bq _ _,c,d,f⟩
 |give=>obtain⟨a,b,c,d,f⟩:=T.g6;exact⟨a,b,c,Bq _ _,d,f⟩
 |split=>obtain⟨a,b,c,d,f⟩:=T.g7;exact⟨a,b,c,d,Bq _ _,f⟩
 |part=>obtain⟨a,b,c,d,f⟩:=T.g8;exact⟨a,b,c,d,f,Bq _ _⟩
noncomputable def Ent.oth:Ent->Str
 |.part _ _ _ u _ _=>u
 |e=>e.ware
noncomputable def aiI(c:Str->Int):Ent->Str->Int
 |.buy _ _ w p _ _,z=>if z=w then c w+p else c z
 |.gift _ _ w p _ _,z=>if z=w then c w+p else c z
 |.sell _ _ w p _ _ _,z=>if z=w then c w - p else c z
 |.give _ _ w p _,z=>if z=w then c w - p else c z
 |.split _ _ w m f,z=>if z=w then c w*m/f else c z
 |.part _ _ w u _ _,z=>if z=u then c u+c w else c z
def WD(c:Str->Int):Ent->Prop
 |.sell _ _ w p _ _ _=>p<=c w
 |.give _ _ w p _=>p<=c w
 |.split _ _ w m f=>c w=0\/1<=c w*m/f
 |_=>True
noncomputable def runC(es:List Ent):Str->Int:=es.foldl aiI λ_=>0
def oW(es:List Ent)(e:Ent):runC (es++[e])=aiI (runC es) e:=by unfold runC;rw[List.foldl_append];rfl
structure HB(W:List Str)(es:List Ent):Prop where
 g:∀e∈es,e.good/\e.lots=none/\e.ware∈W/\e.oth∈W
 f:∀(i:Nat) e,es[i]? =some e->WD (runC (es.take i)) e
def HB.nil:HB W []:=⟨λe h=>(zj h).elim,λi e h=>by simp at h⟩
def HB.snoc{es:List Ent}{e:Ent}(h:HB W es)(hg:e.good/\e.lots=none/\e.ware∈W/\e.oth∈W)(z:WD (runC es) e):HB W (es++[e]):=by
 refine⟨λd hd=>?_,λi d hi=>?_⟩
 ·rcases zD.mp hd with hd|hd
  ·exact h.g d hd
  ·rw[zr.mp hd];exact hg
 ·by_cases c:i<es.length
  ·rw[ya c]at hi
   rw[zzX (by lia)];exact h.f i d hi
  ·rw[z4 (by lia)]at hi
   have q:i - es.length=0:=by
    have:=(zk.mp hi).1;simp at this;lia
   rw[q]at hi;cases hi;rw[show i=es.length by lia,zzX (zm _),zX];exact z
noncomputable def Big:Int:=1000000000*2000^59
def alR:Bd Big:=by unfold Bd Big;decide+kernel
def alU{c:Str->Int}{e:Ent}{M:Int}(hg:e.good)(hf:WD c e)(hM:0<=M)(h:∀z,0<=c z/\c z<=M)(z:Str):0<=aiI c e z/\aiI c e z<=1000*M+1000000000:=by
 have hz:=h z
 cases e with
 |buy d n w p r f=>
  have hp:=hg.2.1;unfold Rg at hp;have q:=h w;show 0<=(if z=w then c w+p else c z)/\(if z=w then c w+p else c z)<=_;split<;>lia
 |gift d n w p r f=>
  have hp:=hg.2.1;unfold Rg at hp;have q:=h w;show 0<=(if z=w then c w+p else c z)/\(if z=w then c w+p else c z)<=_;split<;>lia
 |sell d n w p r f o=>
  have hp:=hg.2.1;unfold Rg at hp;have q:=h w;have hf:p<=c w:=hf;show 0<=(if z=w then c w - p else c z)/\(if z=w then c w - p else c z)<=_;split<;>lia
 |give d n w p o=>
  have hp:=hg.2.1;unfold Rg at hp;have q:=h w;have hf:p<=c w:=hf;show 0<=(if z=w then c w - p else c z)/\(if z=w then c w - p else c z)<=_;split<;>lia
 |split d n w m f=>
  obtain⟨_,hm,aa⟩:=hg;unfold Rg at hm aa;have q:=h w;have h1:0<=c w*m:=yU q.1 (by lia);have h2:c w*m<=M*1000:=zz9 q.2 hm.2 (by lia) hM;have h3:0<=c w*m/f:=zzl h1 (by lia);have h4:c w*m/f<=c w*m:=Int.ediv_le_self _ h1;show 0<=(if z=w then c w*m/f else c z)/\(if z=w then c w*m/f else c z)<=_;split<;>lia
 |part d n w u s t=>
  have q:=h w;have hu:=h u;show 0<=(if z=u then c u+c w else c z)/\(if z=u then c u+c w else c z)<=_;split<;>lia
theorem HB.bd{W:List Str}{es:List Ent}(h:HB W es):∀i,i<=es.length->∀z,0<=runC (es.take i) z/\runC (es.take i) z<=1000000000*2000^i
 |0,_,z=>by rw[List.take_zero];exact⟨yR _,show(0:Int)<=_ by decide⟩
 |i+1,hi,z=>by
  have ih:=h.bd i (by lia);obtain⟨e,q⟩:∃e,es[i]? =some e:=⟨_,zq (by lia)⟩;have hp:(1:Int)<=2000^i:=Int.pow_pos (by decide);rw[zK,q];show 0<=runC (es.take i++[e]) z/\runC (es.take i++[e]) z<=_;rw[oW];have h2:=alU (h.g e (zh q)).1 (h.f i e q) (by lia) ih z;rw[Int.pow_succ];lia
def HB.big{es:List Ent}(h:HB W es)(q:es.length<=59)(hi:i<=es.length)(z:Str):Bd (runC (es.take i) z):=by
 have h1:=h.bd i hi z;refine alR.of h1.1 (Int.le_trans h1.2 ?_)
 have:(2000:Int)^i<=2000^59:=by
  have:=yy (n:=2000) (by decide) (show i<=59 by lia)
  exact_mod_cast this
 unfold Big;lia
def jz.lm{k:BkD}(h:jz A H b k):∃z,(k.C,Wu A k.C z)∈[(A.bW,Wu A A.bW false),(A.bX,Wu A A.bX true)]/\k.x.isSome=z:=by
 rcases h.c with⟨e,c⟩|⟨e,c⟩
 ·exact⟨false,by rw[e];exact zg,by rw[c];rfl⟩
 ·exact⟨true,by rw[e];exact zn _ zg,Option.isSome_iff_ne_none.mpr c⟩
def ajS(k:BkD)(w:Str)(d:Int):0<=aap k w d:=by
 unfold aap;refine pI λx z=>?_;obtain⟨t,q,rfl⟩:=zc.mp z;have h:=(yj.mp q).2;unfold Xc at h;split at h
 ·unfold Qg kj.opn at h
  simp only[zza,decide_eq_true_eq]at h;have:=h.1.2;lia
 ·cases h
inductive BK(A:Adr)(vs:List V)(H:Hp)(Q:VK)(E:XK):Prop
 |mk (b x:Addr) (k:BkD) (ns:List Int) (W:List Str) (d n p r f:Int) (w:Str) (_:vs=[.ref b,.ref x]) (_:jz A H b k) (_:IsE A H x (.buy d n w p r f)) (_:1<=p) (_:0<=p*r+f) (_:n∈ns) (_:KZ ns W k.rs) (_:W.length<=50) (_:ns.length<=61) (_:k.sl.length<=100) (_:k.ll<=10000) (_:∀sa sl x' q ms H',Stp (k.M b) ({k with sales:=sa,sl:=sl,x:=x'}.M b) H H'->jz A H' b {k with sales:=sa,sl:=sl,x:=x',rs:=keepR k.rs w q ms,paid:=k.paid+(p*r+f)}->sl.map (λt=>t.2.dat)=k.sl.map (λt=>Tn k w d n t.2)->anG k w d n x'->{k with sales:=sa,sl:=sl,x:=x'}.ll<=k.ll+100->ShO ns ms->pcs ms=pcs (rowOf k.rs w)+p->lH ms=lH (rowOf k.rs w)+(p*r+f+aap k w d)->Q .non H'):BK A vs H Q E
def Bw:kI P w K mg base CX0 6 A.bc D.bc ["self", "entry"] (BK A):=by
 refine T.df.okv BJ λ_ _ _ _ H vs Q E hr h=>?_
 ·obtain⟨b,x,kb,ns,W,d,n,p,r,f,w,rfl,hB,hE,hp,ar,hn,hO,hW,hN,am,aj,k⟩:=h
  have ao:=hE;obtain⟨dx,nv,hx,_⟩:=ao
  refine ⟨_,(jb (jm (i:=2) BJ.nd rfl orl (jw jZ (fv K 1) (jN (pv 0) (mc T.fs T.gt (Ln T) hr (Oo T) (mc T.fA T.gu (Bu T) hr (Dm T) .nil)) jR (pav 1 jc))))
   (jb (jA (jN (pv 0) (mc T.fs T.gr (pW T) hr (rm T) (mc T.fA T.gs (pW T) hr (rm T) .nil)) jR (iY (fv K 1) (iY (lE (iY (mF T.f0 (kW (K:=K) T) (hr.mono (by decide)) (by rfl) T.ek (lu T) .nil jR (iY (fv K 1) (iY (fv K 1) (iY (fv K 1) (pav 2 jc))))) jc)) jc))))
   (je (jJ (K:=K) (pv 0) (jw jZ (fv K 0) (fv K 1)) rfl)))),?_⟩
  obtain⟨db,hb⟩:=hB.i;have hz:=hO.len;obtain⟨z,hm,ap⟩:=hB.lm;simp only[start_eq];walk_at "m";refine rd hx T.ey T.eG (by rfl) (md hb hm (kb.noM _ (by decide+kernel)) ⟨b,x,kb,d,n,p,r,f,w,rfl,rfl,ap,hB,hE,am,aj,λsa sl x' i H1 o1 ad e1 ei ex e2=>?_⟩);refine⟨_,rfl,_,rfl,?_⟩;have aa:=o1.k x _ (tM (hB.day hx)) hx;obtain⟨aq,ak⟩:=ad.i;walk_at "m";refine md ak ad.me (BkD.noM _ _ (by decide+kernel)) (rd aa T.ey T.eC (by rfl) (rd aa T.ey T.eB (by rfl) (rd aa T.ey T.eA (by rfl) (rd aa T.ey T.eD (by rfl) (λy dy hy an _=>?_)))));refine qQ (A:=A) ⟨n,d,p,_⟩ hy an λH2 s1 hL=>⟨sz,λq hq=>?_⟩;have s2:=s1.trans (ji (o:=.lst [.ref y]) hq);have ah:(upd H2 q (.lst [.ref y])) q=some (.lst (jH [(y,⟨n,d,p,p*r+f+i⟩)])):=jd;have ag:=hL.same (ji (o:=.lst [.ref y]) hq);generalize upd H2 q (HO.lst [.ref y])=H3 at s2 ah ag⊢;have ae:=ad.same s2;refine⟨b,q,w,_,[(y,⟨n,d,p,p*r+f+i⟩)],ns,rfl,ae,ah,anE ag,λl hl=>by rw[zr.mp hl];exact⟨hp,hn,by have:=ajS kb w d;show 0<=p*r+f+i;lia⟩,hO.row w,hN,(show kb.rs.length<=50 by lia),λq' ms H4 o4 ac g1 g2 gc=>?_⟩;have al:=o4.k x _ (tM (ae.day (s2 _ _ aa))) (s2 _ _ aa);obtain⟨ai,af⟩:=ac.i;have ab:=Er T ac
  try dsimp only
  refine rd af ab.c ab.p (by rfl) (rd al T.ey T.eG (by rfl) ⟨_,rfl,_,rfl,_,ai,_,af,ab.c,ab.p,Vh _,?_⟩);rw[Yb];exact k sa sl x' q' ms _ (o1.trans ((qi s2).trans (o4.trans (qz BkD.mb)))) (ac.put (la:=kb.last) (pa:=kb.paid+(p*r+f)) (br:=kb.brought) ac.z.p) e1 ex e2 g1 (by rw[g2];unfold pcs;simp) (by rw[gc,<-ei];unfold lH;simp)
noncomputable def uT(W:List Str)(rs:RW):Int:=(W.map λz=>lH (rowOf rs z)).sum
theorem aak{f:Str->Int}{w:Str}{a:Int}:∀{W:List Str},W.Nodup->w∈W->(W.map λz=>if z=w then a else f z).sum=(W.map f).sum - f w+a
 |z::W,q,hw=>by
  have q:=zN.mp q;rw[zl,zl,zI,zI];by_cases c:z=w
  ·subst c
   rw[zi rfl,zQ (g:=f) λx hx=>zf fun(e:x=z)=>q.1 (e▸hx)];lia
  ·rw[zf c,aak q.2 ((zx.mp hw).resolve_left λe=>c e.symm)]
   lia
def pL(hu:W.Nodup){rs:RW}{w:Str}{ms:RL}(hw:w∈W):uT W (keepR rs w q ms)=uT W rs - lH (rowOf rs w)+lH ms:=by
 unfold uT;rw[<-aak (f:=λz=>lH (rowOf rs z)) hu hw];congr 1;refine zQ λz _=>?_;rw[qZ];split<;>rfl
theorem XH:∀{l:List Int}{x:Int},(∀y∈l,0<=y)->x∈l->x<=l.sum
 |y::l,x,h,hx=>by
  have h1:=pI (l:=l) λz q=>h z (.tail _ q);have h2:=h y (.head _);rw[zI];rcases zx.mp hx with rfl|hx
  ·lia
  ·have:=XH (λz q=>h z (.tail _ q)) hx
   lia
def Bd.sm{i:Int}(h1: -1000000000000000000000000000000<=i)(h2:i<=1000000000000000000000000000000):Bd i:=⟨Int.lt_of_lt_of_le (by decide+kernel) h1,Int.lt_of_le_of_lt h2 (by decide+kernel)⟩
abbrev akQ:=(Int×Int×Str×Int×SP5)×Option Int
noncomputable def coD(c:akQ):Int:=(c.1.2.2.2.2.map λr=>r.2.1.c).sum
noncomputable def prD(c:akQ):Int:=c.1.2.2.2.1
noncomputable def sW(c:akQ):Int:=if c.2=none then 0 else -(prD c - coD c)
noncomputable def Gq(k:BkD):Int:=(k.sl.map λt=>coD t.2.dat).sum
noncomputable def Dp(k:BkD):Int:=(k.sl.map λt=>sW t.2.dat).sum
noncomputable def Wl(k:BkD):Int:=(k.gv.map λt=>lH t.2.2.2).sum
noncomputable def Nq:Ent->Int
 |.buy _ _ _ p r f=>p*r+f
 |_=>0
noncomputable def aaO:Ent->Int
 |.gift _ _ _ _ c _=>c
 |_=>0
noncomputable def Bv(k:BkD):Int:=(k.sl.map λt=>prD t.2.dat).sum
noncomputable def ajg:Ent->Int
 |.sell _ _ _ p r f _=>p*r - f
 |_=>0
noncomputable def Wr:Ent->Bool
 |.give ..=>true
 |_=>false
structure Bal(W:List Str)(es:List Ent)(k:BkD):Prop where
 b:uT W k.rs+Gq k+Wl k=k.paid+k.brought+Dp k
 p:k.paid=(es.map Nq).sum
 r:k.brought=(es.map aaO).sum
 s:Bv k=(es.map ajg).sum
 v:(∀e∈es,Wr e=false)->k.gv=[]
def qW(f:Ent->Int)(es:List Ent)(e:Ent):((es++[e]).map f).sum=(es.map f).sum+f e:=by simp
def Bal.gvs{es:List Ent}{k:BkD}{e:Ent}{g:List (Addr×Int×Addr×RL)}(h:Bal W es k)(hg:Wr e=false->g=k.gv):(∀x∈es++[e],Wr x=false)->g=[]:=λq=>(hg (q e (zF _ zg))).trans (h.v λx z=>q x (yg _ z))
theorem Vq{k:BkD}{w:Str}{d n:Int}:∀(sl:List (Addr×kj)),(sl.map λt=>sW (Tn k w d n t.2)).sum=(sl.map λt=>sW t.2.dat).sum+((sl.filter λt=>Xc k w d t.2).map λt=> -(t.2.pr - t.2.co)).sum
 |[]=>rfl
 |t::sl=>by
  have z:=Vq (k:=k) (w:=w) (d:=d) (n:=n) sl;rw[zl,zl,zI,zI,z,zzb]
  cases e:Xc k w d t.2 with
  |false=>
   rw[zf (by decide)];have:Tn k w d n t.2=t.2.dat:=by unfold Tn;rw[e,zf (by decide)];rfl
   rw[this];lia
  |true=>
   rw[zi rfl,zl,zI]
   have h1:sW (Tn k w d n t.2)= -(t.2.pr - t.2.co):=by
    unfold Tn;rw[e,zi rfl];rfl
   have q:t.2.lo=none:=by
    unfold Xc at e;split at e
    ·unfold Qg kj.opn at e
     simp only[zza,decide_eq_true_eq]at e;exact e.1.1
    ·cases e
   have h2:sW t.2.dat=0:=by
    unfold sW kj.dat;rw[q,zi rfl]
   rw[h1,h2];lia
def Tr{f:akQ->Int}{sl:List (Addr×kj)}{k:BkD}{w:Str}{d n:Int}(e:sl.map (λt=>t.2.dat)=k.sl.map (λt=>Tn k w d n t.2)):(sl.map λt=>f t.2.dat)=k.sl.map λt=>f (Tn k w d n t.2):=by
 have:=congrArg (List.map f) e;rw[zu,zu]at this;exact this
theorem Bal.buy{W:List Str}(hu:W.Nodup){es:List Ent}{k:BkD}{d n p r f:Int}{w:Str}(h:Bal W es k)(hw:w∈W){sa q:Addr}{sl:List (Addr×kj)}{x':Option (Int×Addr×LY)}{ms:RL}(z:sl.map (λt=>t.2.dat)=k.sl.map (λt=>Tn k w d n t.2))(hc:lH ms=lH (rowOf k.rs w)+(p*r+f+aap k w d)):
  Bal W (es++[.buy d n w p r f]) {k with sales:=sa,sl:=sl,x:=x',rs:=keepR k.rs w q ms,paid:=k.paid+(p*r+f)}:=by
 have s1:(sl.map λt=>coD t.2.dat)=k.sl.map λt=>coD t.2.dat:=Tr (f:=coD) z;have s2:(sl.map λt=>prD t.2.dat)=k.sl.map λt=>prD t.2.dat:=Tr (f:=prD) z;have s3:(sl.map λt=>sW t.2.dat).sum=Dp k+aap k w d:=by rw[Tr (f:=sW) z];exact Vq k.sl
 refine⟨?_,?_,?_,?_,h.gvs λ_=>rfl⟩
 ·show uT W (keepR k.rs w q ms)+(sl.map λt=>coD t.2.dat).sum+Wl k=k.paid+(p*r+f)+k.brought+(sl.map λt=>sW t.2.dat).sum
  rw[pL hu hw,s1,s3,hc];have:=h.b;unfold Gq at this;lia
 ·rw[qW,<-h.p];rfl
 ·rw[qW,<-h.r];show k.brought=k.brought+0;lia
 ·show(sl.map λt=>prD t.2.dat).sum=_
  rw[s2,qW,<-h.s];show Bv k=Bv k+0;lia
def Bal.alike{es:List Ent}{k q:BkD}{e:Ent}(h:Bal W es k)(h1:Nq e=0)(h2:aaO e=0)(e1:q.paid=k.paid)(z:q.brought=k.brought)(e3:uT W q.rs+Gq q+Wl q - Dp q=uT W k.rs+Gq k+Wl k - Dp k)(e4:Bv q=Bv k+ajg e)(e5:Wr e=false->q.gv=k.gv):Bal W (es++[e]) q:=by
 refine⟨?_,?_,?_,?_,h.gvs e5⟩
 ·rw[e1,z];have:=h.b;lia
 ·rw[qW,<-h.p,h1,e1];lia
 ·rw[qW,<-h.r,h2,z];lia
 ·rw[qW,<-h.s,e4]
theorem Bal.gift{W:List Str}(hu:W.Nodup){es:List Ent}{k:BkD}{d n p c s:Int}{w:Str}(h:Bal W es k)(hw:w∈W){q:Addr}{z:RL}(hc:lH z=lH (rowOf k.rs w)+c):Bal W (es++[.gift d n w p c s]) {k with rs:=keepR k.rs w q z,brought:=k.brought+c}:=by
 refine⟨?_,?_,?_,?_,h.gvs λ_=>rfl⟩
 ·show uT W (keepR k.rs w q z)+Gq k+Wl k=k.paid+(k.brought+c)+Dp k
  rw[pL hu hw,hc];have:=h.b;lia
 ·rw[qW,<-h.p];show k.paid=k.paid+0;lia
 ·rw[qW,<-h.r];rfl
 ·rw[qW,<-h.s];show Bv k=Bv k+0;lia
theorem Bal.split{W:List Str}(hu:W.Nodup){es:List Ent}{k:BkD}{d n m f:Int}{w:Str}(h:Bal W es k)(hw:w∈W){q:Addr}{z:RL}(hc:lH z=lH (rowOf k.rs w)):Bal W (es++[.split d n w m f]) {k with rs:=keepR k.rs w q z}:=
 h.alike rfl rfl rfl rfl (by show uT W (keepR k.rs w q z)+Gq k+Wl k - Dp k=_;rw[pL hu hw,hc];lia) (by show Bv k=Bv k+0;lia) λ_=>rfl
theorem Bal.part{W:List Str}(hu:W.Nodup){es:List Ent}{k:BkD}{d n s t:Int}{w u:Str}(h:Bal W es k)(hw:w∈W)(z:u∈W)(aa:w≠u){q1 q:Addr}{l1 ms:RL}(hc:lH l1+lH ms=lH (rowOf k.rs w)+lH (rowOf k.rs u)):Bal W (es++[.part d n w u s t]) {k with rs:=keepR (keepR k.rs w q1 l1) u q ms}:=
 h.alike rfl rfl rfl rfl (by show uT W (keepR (keepR k.rs w q1 l1) u q ms)+Gq k+Wl k - Dp k=_;rw[pL hu z,pL hu hw,qZ,zf (λc=>aa c.symm)];lia) (by show Bv k=Bv k+0;lia) λ_=>rfl
theorem Bal.sell{W:List Str}(hu:W.Nodup){es:List Ent}{k:BkD}{d n p r f:Int}{w:Str}{o:Option Rs}(h:Bal W es k)(hw:w∈W){q y:Addr}{s:kj}{z:RL}(hl:s.lo=none)(hp:s.pr=p*r - f)(hc:s.co+lH z=lH (rowOf k.rs w)):Bal W (es++[.sell d n w p r f o]) {k with rs:=keepR k.rs w q z,sl:=k.sl++[(y,s)]}:=by
 have a1:∀g:akQ->Int,((k.sl++[(y,s)]).map λt=>g t.2.dat).sum=(k.sl.map λt=>g t.2.dat).sum+g s.dat:=λg=>by simp
 have l0:sW s.dat=0:=by unfold sW kj.dat;rw[hl,zi rfl]
 have c0:coD s.dat=s.co:=rfl;refine h.alike rfl rfl rfl rfl ?_ (by show((k.sl++[(y,s)]).map λt=>prD t.2.dat).sum=Bv k+(p*r - f);rw[a1,<-hp];rfl) λ_=>rfl;show uT W (keepR k.rs w q z)+((k.sl++[(y,s)]).map λt=>coD t.2.dat).sum+Wl k - ((k.sl++[(y,s)]).map λt=>sW t.2.dat).sum=_;rw[pL hu hw,a1,a1,l0,c0];unfold Gq Dp;lia
theorem Bal.give{W:List Str}(hu:W.Nodup){es:List Ent}{k:BkD}{d n p:Int}{w:Str}{o:Option Rs}(h:Bal W es k)(hw:w∈W){q:Addr}{g:Addr×Int×Addr×RL}{z:RL}(hc:lH g.2.2.2+lH z=lH (rowOf k.rs w)):Bal W (es++[.give d n w p o]) {k with rs:=keepR k.rs w q z,gv:=k.gv++[g]}:=by
 refine h.alike rfl rfl rfl rfl ?_ (by show Bv k=Bv k+0;lia) λc=>by cases c
 show uT W (keepR k.rs w q z)+Gq k+((k.gv++[g]).map λt=>lH t.2.2.2).sum - Dp k=_;rw[pL hu hw];have e:((k.gv++[g]).map λt=>lH t.2.2.2).sum=Wl k+lH g.2.2.2:=by unfold Wl;simp
 lia
theorem QS:∀{sl:List (Addr×kj)},(∀c∈sl.map (λt=>t.2.core),0<=(c.2.2.2.2.map λr=>r.2.1.c).sum/\ -1000000000<=c.2.2.2.1)->(sl.map λt=>sW t.2.dat).sum - (sl.map λt=>coD t.2.dat).sum<=sl.length*1000000000
 |[],_=>by simp
 |t::sl,h=>by
  have h1:=h _ (.head _);have h2:=QS (sl:=sl) λc q=>h c (.tail _ q)
  have z:sW t.2.dat - coD t.2.dat<=1000000000:=by
   have a:0<=coD t.2.dat:=h1.1;have b: -1000000000<=prD t.2.dat:=h1.2;unfold sW;split<;>lia
  rw[zl,zl,zI,zI,zG];lia
structure StB(W:List Str)(ns:List Int)(es:List Ent)(k:BkD):Prop where
 r:KZ ns W k.rs
 c:∀z,pcs (rowOf k.rs z)=runC es z
 n:(k.sl.map λt=>t.2.core.1).Sublist (es.map Ent.num)
 p:∀c∈k.sl.map (λt=>t.2.core),(0<=(c.2.2.2.2.map λr=>r.2.1.c).sum/\ -1000000000<=c.2.2.2.1)/\(c.2.2.2.2.map λr=>r.2.1.c).sum<=1000000000000000000000/\c.2.2.2.1<=1000000000000000000
 g:∀t∈k.gv,0<=lH t.2.2.2
 v:k.gv.length<=es.length
 l:k.ll<=100*es.length
 o:∀c∈k.sl.map (λt=>t.2.dat),∀i,c.2=some i->0<=i/\i<=1000000
 e:∀x∈es,x.good
 bal:Bal W es k
theorem StB.sl{W:List Str}{ns:List Int}{es:List Ent}{k:BkD}(h:StB W ns es k):k.sl.length<=es.length:=by have:=h.n.length_le;rwa [za,za]at this
def StB.cost{ns:List Int}{es:List Ent}{k:BkD}(h:StB W ns es k)(hl:es.length<=59)(z:Str):0<=lH (rowOf k.rs z)/\lH (rowOf k.rs z)<=1000000000000000000000:=by
 have h0:=λz=>CV (h.r.row z).c;refine⟨h0 z,?_⟩
 have h1:lH (rowOf k.rs z)<=uT W k.rs:=by
  have nn:∀y∈W.map (λz=>lH (rowOf k.rs z)),0<=y:=λy hy=>by
   obtain⟨x,_,rfl⟩:=zc.mp hy;exact h0 x
  rcases akS k.rs z with⟨t,ht,e,_⟩|⟨_,e,_⟩
  ·exact XH nn (zc.mpr ⟨z,e▸h.r.w t ht,rfl⟩)
  ·rw[e]
   exact pI nn
 have h2:=h.bal.b;have h3:=QS λc hc=>(h.p c hc).1
 have h4:0<=Wl k:=pI λx hx=>by
  obtain⟨t,ht,rfl⟩:=zc.mp hx;exact h.g t ht
 have h5:k.paid<=es.length*1000000001000000000:=by
  rw[h.bal.p,<-za (f:=Nq)];refine Xd λx hx=>?_;obtain⟨e,he,rfl⟩:=zc.mp hx;have q:=h.e e he
  cases e with
  |buy d n w p r f=>
   have:=UG ⟨by have:=q.2.1.1;lia,q.2.1.2⟩ q.2.2.1;have h7:=q.2.2.2;unfold Rg at this h7;show p*r+f<=_;lia
  |_=>show(0:Int)<=_;decide
 have h6:k.brought<=es.length*1000000000000000000:=by
  rw[h.bal.r,<-za (f:=aaO)];refine Xd λx hx=>?_;obtain⟨e,he,rfl⟩:=zc.mp hx;have q:=h.e e he
  cases e with
  |gift d n w p c s=>exact q.2.2.1.2
  |_=>show(0:Int)<=_;decide
 have h7:=h.sl;unfold Gq Dp at h2;lia
structure Can(A:Adr)(H:Hp)(W:List Str)(ns:List Int)(es:List Ent)(k:BkD)(e:Ent):Prop where
 s:StB W ns es k
 l:es.length<=59
 nl:ns.length<=61
 u:W.Nodup/\W.length<=6
 g:e.good/\e.lots=none/\e.ware∈W/\e.oth∈W
 n:e.num∈ns
 f:WD (runC es) e
 m:∀z,Bd (runC es z)
 w:∃Cw dw,H k.way=some (.ins Cw dw [])/\Tg A Cw
def aiL(k:BkD):(k.sl.map λt=>t.2.core.1)=(k.sl.map λt=>t.2.core).map (·.1):=by rw[zu];rfl
def StB.next{ns:List Int}{es:List Ent}{k q:BkD}{e:Ent}(h:StB W ns es k)(he:e.good)(hr:KZ ns W q.rs)(hc:∀z,pcs (rowOf q.rs z)=aiI (λz=>pcs (rowOf k.rs z)) e z)(hs:q.sl.map (λt=>t.2.core)=k.sl.map (λt=>t.2.core))(ho:∀c∈q.sl.map (λt=>t.2.dat),∀i,c.2=some i->0<=i/\i<=1000000)(hg:∀t∈q.gv,0<=lH t.2.2.2)(hv:q.gv.length<=k.gv.length+1)(hl:q.ll<=k.ll+100)(hb:Bal W (es++[e]) q):StB W ns (es++[e]) q:=by
 refine⟨hr,λz=>?_,?_,?_,hg,?_,?_,ho,λx hx=>?_,hb⟩
 ·rw[hc,oW,show(λz=>pcs (rowOf k.rs z))=runC es from funext h.c]
 ·rw[aiL,hs,<-aiL,zp]
  exact h.n.trans (y6 _ _)
 ·rw[hs];exact h.p
 ·have:=h.v;rw[zC];show _<=es.length+1;lia
 ·have:=h.l;rw[zC];show _<=100*(es.length+1);lia
 ·rcases zD.mp hx with hx|hx
  ·exact h.e x hx
  ·rw[zr.mp hx];exact he
inductive tG(A:Adr)(vs:List V)(H:Hp)(Q:VK)(E:XK):Prop
 |mk (b x:Addr) (k:BkD) (e:Ent) (es:List Ent) (W:List Str) (ns:List Int) (_:vs=[.ref b,.ref x]) (_:jz A H b k) (_:IsE A H x e) (_:Can A H W ns es k e) (_:∀k' H',jz A H' b k'->Stp (k.M b) (k'.M b) H H'->StB W ns (es++[e]) k'->k'.C=k.C->k'.way=k.way->Q .non H'):tG A vs H Q E
def tY:kI P w K mg base CX0 8 A.bC D.bC ["self", "entry"] (tG A):=by
 refine T.dF.okv Dv λ_ _ _ _ H vs Q E hr h=>?_
 ·obtain⟨b,x,kb,e,es,W,ns,rfl,hB,hE,hC,k⟩:=h
  obtain⟨db,hb⟩:=hB.i;refine⟨_,(je (kE (qp (jy (uY (K:=K)) (by rfl) T.d1 (by decide+kernel) (pav 1 (iY (mY (v:=V.ref A.bO) (by rfl) T.ea rfl) jc)))) (je (jA (jN (pv 0) (mc T.fs T.gH (Bw T) hr (Dt T) (mc T.fA T.gI (Bw T) hr (Dt T) .nil)) jR (pav 1 jc)))) (je (kE (qp (jy (uY (K:=K)) (by rfl) T.d1 (by decide+kernel) (pav 1 (iY (mY (v:=V.ref A.bQ) (by rfl) T.ec rfl) jc)))) (je (jA (jN (pv 0) (mc T.fs T.gJ (xQ T) hr (BZ T) (mc T.fA T.gK (xQ T) hr (BZ T) .nil)) jR (pav 1 jc)))) (je (kE (qp (jy (uY (K:=K)) (by rfl) T.d1 (by decide+kernel) (pav 1 (iY (mY (v:=V.ref A.bP) (by rfl) T.eb rfl) jc)))) (je (jA (jN (pv 0) (mc T.fs T.gL (Az T) hr (Ci T) (mc T.fA T.gM (Az T) hr (Ci T) .nil)) jR (pav 1 jc)))) (je (kE (qp (jy (uY (K:=K)) (by rfl) T.d1 (by decide+kernel) (pav 1 (iY (mY (v:=V.ref A.bR) (by rfl) T.ed rfl) jc)))) (je (jA (jN (pv 0) (mc T.fs T.gN (Bh T) hr (BP T) (mc T.fA T.gO (Bh T) hr (BP T) .nil)) jR (pav 1 jc)))) (je (kE (qp (jy (uY (K:=K)) (by rfl) T.d1 (by decide+kernel) (pav 1 (iY (mY (v:=V.ref A.bS) (by rfl) T.ee rfl) jc)))) (je (jA (jN (pv 0) (mc T.fs T.gP (wV T) hr (Bb T) (mc T.fA T.gQ (wV T) hr (Bb T) .nil)) jR (pav 1 jc)))) (je (kE (qp (jy (uY (K:=K)) (by rfl) T.d1 (by decide+kernel) (pav 1 (iY (mY (v:=V.ref A.bT) (by rfl) T.ef rfl) jc)))) (je (jA (jN (pv 0) (mc T.fs T.gR (tL T) hr (uZ T) (mc T.fA T.gS (tL T) hr (uZ T) .nil)) jR (pav 1 jc)))) jC)))))))))))),?_⟩;have ty:=alK T hE;obtain⟨k1,k2,k3,k4,k5,k6⟩:=anM T e;obtain⟨hg,ho,hw,hu⟩:=hC.g;have hS:=hC.s;have hl:=hC.l;have ai:=hS.sl;have ah:=hS.l;have af:=hS.v;have w3:W.length<=50:=by have:=hC.u.2;lia
  have hU:=hC.u.1;have ae:∀z,Bd (lH (rowOf kb.rs z)):=λz=>Bd.sm (by have:=(hS.cost hl z).1;lia) (by have:=(hS.cost hl z).2;lia);have hf:=hC.f;have hm:=hC.m;rw[<-show(λz=>pcs (rowOf kb.rs z))=runC es from funext hS.c]at hf hm;have nf:∀f:Str,f∉["way", "rows", "last_place", "paid", "brought", "sales_done", "givings_done", "days", "layings"].map Str.ofString->List.lookup f kb.fs=none:=λf=>kb.noM f
  have ab:∀{rs:RW}{z:Str}{q:Addr}{ms:RL}{y:Str},rs=keepR kb.rs z q ms->pcs (rowOf rs y)=if y=z then pcs ms else pcs (rowOf kb.rs y):=fun{rs z q ms y} e=>by
   rw[e,qZ];split<;>rfl
  simp only[start_eq]
  cases e with
  |buy d n w p r f=>
   dsimp only[uV,pO,pR,uG,pZ,uo]at k1 k2 k3 k4 k5 k6;refine sc1 rfl ty k1 ?_;walk_at "i";refine md hb hB.me (nf _ (by decide+kernel)) ⟨b,x,kb,ns,W,d,n,p,r,f,w,rfl,hB,hE,hg.2.1.1,?_,hC.n,hS.r,w3,hC.nl,by lia,by lia,λsa sl x' q ms H' o aa e1 ex e2 e3 e4 ec=>k _ H' aa o (hS.next hg (hS.r.keep hw e3) (λz=>?_) (aaA e1) (λc hc i ei=>?_) hS.g (yt _) e2 (hS.bal.buy hU hw e1 ec)) rfl rfl⟩
   ·have h7:=UG ⟨by have:=hg.2.1.1;lia,hg.2.1.2⟩ hg.2.2.1
    have h8:=hg.2.2.2;unfold Rg at h7 h8;lia
   ·rw[ab rfl,e4];rfl
   ·have hc:c∈sl.map (λt=>t.2.dat):=hc
    rw[e1]at hc;obtain⟨t,ht,rfl⟩:=zc.mp hc;have ei:(if Xc kb w d t.2=true then some n else t.2.lo)=some i:=ei;split at ei
    ·cases ei
     exact⟨hg.1.n0,hg.1.n1⟩
    ·exact hS.o _ (zc.mpr ⟨t,ht,rfl⟩) i ei
  |gift d n w p c s=>
   dsimp only[uV,pO,pR,uG,pZ,uo]at k1 k2 k3 k4 k5 k6;refine sc0 rfl ty k1 ?_;refine sc1 rfl ty k3 ?_;walk_at "i";refine md hb hB.me (nf _ (by decide+kernel)) ⟨b,x,kb,ns,W,d,n,p,c,s,w,rfl,hB,hE,hg.2.1.1,hg.2.2.1.1,hC.n,hS.r,w3,hC.nl,λq ms H' o aa e3 e4 ec=>k _ H' aa o (hS.next hg (hS.r.keep hw e3) (λz=>?_) rfl hS.o hS.g (yt _) (yJ _ _) (hS.bal.gift hU hw ec)) rfl rfl⟩;rw[ab rfl,e4];rfl
  |sell d n w p r f o=>
   have h7:=UG ⟨by have:=hg.2.1.1;lia,hg.2.1.2⟩ hg.2.2.1;have h8:=hg.2.2.2.1;unfold Rg at h7 h8;dsimp only[uV,pO,pR,uG,pZ,uo]at k1 k2 k3 k4 k5 k6;obtain rfl:o=none:=ho;obtain⟨Cw,dw,ac,ad⟩:=hC.w;refine sc0 rfl ty k1 ?_;refine sc0 rfl ty k3 ?_;refine sc1 rfl ty k2 ?_;walk_at "i";refine md hb hB.me (nf _ (by decide+kernel)) ⟨b,x,Cw,dw,kb,ns,W,d,n,p,r,f,w,rfl,hB,ac,ad,hE,hS.r,w3,hC.nl,hg.2.1.1,hf,hm w,ae w,Bd.sm (by lia) (by lia),by lia,λy s q ms H' o aa e1 e2 e3 e4 ep e6 e7 ec e0=>k _ H' aa o ⟨hS.r.keep hw e6,λz=>?_,?_,?_,hS.g,?_,?_,?_,λx hx=>?_,hS.bal.sell hU hw e4 ep ec⟩ rfl rfl⟩
   ·rw[ab rfl,e7,oW,<-show(λz=>pcs (rowOf kb.rs z))=runC es from funext hS.c];rfl
   ·show(List.map _ (kb.sl++[(y,s)])).Sublist _
    rw[zp,zp];refine hS.n.append ?_;show[s.n].Sublist [n];rw[e1];exact yM _
   ·show∀c∈List.map _ (kb.sl++[(y,s)]),_
    rw[zp];intro c hc;rcases zD.mp hc with hc|hc
    ·exact hS.p c hc
    ·rw[zr.mp hc]
     have h9:=CV e6.c;have ag:=(hS.cost hl w).2;exact⟨⟨e0,by show -1000000000<=s.pr;lia⟩,by show s.co<=_;lia,by show s.pr<=_;lia⟩
   ·rw[zC];exact zS af (yJ _ _)
   ·rw[zC];show kb.ll<=100*(es.length+1);lia
   ·show∀c∈List.map _ (kb.sl++[(y,s)]),_
    rw[zp];intro c hc i ei;rcases zD.mp hc with hc|hc
    ·exact hS.o c hc i ei
    ·rw[zr.mp hc]at ei
     have ei:s.lo=some i:=ei;rw[e4]at ei;cases ei
   ·rcases zD.mp hx with hx|hx
    ·exact hS.e x hx
    ·rw[zr.mp hx];exact hg
  |give d n w p o=>
   dsimp only[uV,pO,pR,uG,pZ,uo]at k1 k2 k3 k4 k5 k6;obtain rfl:o=none:=ho;obtain⟨Cw,dw,ac,ad⟩:=hC.w;refine sc0 rfl ty k1 ?_;refine sc0 rfl ty k3 ?_;refine sc0 rfl ty k2 ?_;refine sc1 rfl ty k4 ?_;walk_at "i";refine md hb hB.me (nf _ (by decide+kernel)) ⟨b,x,Cw,dw,kb,ns,W,d,n,p,w,rfl,hB,ac,ad,hE,hS.r,w3,hC.nl,hg.2.1.1,hf,hm w,ae w,by lia,λg q ms H' o aa e1 e6 e7 ec=>k _ H' aa o (hS.next hg (hS.r.keep hw e6) (λz=>?_) rfl hS.o (λt ht=>?_) ?_ (yJ _ _) (hS.bal.give hU hw ec)) rfl rfl⟩
   ·rw[ab rfl,e7];rfl
   ·rcases zD.mp ht with ht|ht
    ·exact hS.g t ht
    ·rw[zr.mp ht];exact e1
   ·show(kb.gv++[g]).length<=_
    rw[zC];exact zm _
  |split d n w m f=>
   dsimp only[uV,pO,pR,uG,pZ,uo]at k1 k2 k3 k4 k5 k6;refine sc0 rfl ty k1 ?_;refine sc0 rfl ty k3 ?_;refine sc0 rfl ty k2 ?_;refine sc0 rfl ty k4 ?_;refine sc1 rfl ty k5 ?_;walk_at "i";refine md hb hB.me (nf _ (by decide+kernel)) ⟨b,x,kb,ns,W,d,n,m,f,w,rfl,hB,hE,(by obtain⟨_,h1,h2⟩:=hg;unfold Rg at h1 h2;exact⟨⟨by lia,by lia⟩,by lia,by lia⟩),hS.r,w3,hC.nl,hf.imp_left (λc=>?_),λq ms H' o aa e6 e7 ec=>k _ H' aa o (hS.next hg (hS.r.keep hw e6) (λz=>?_) rfl hS.o hS.g (yt _) (yJ _ _) (hS.bal.split hU hw ec)) rfl rfl⟩
   ·have h1:=xN (hS.r.row w).p
    have c:pcs (rowOf kb.rs w)=0:=c;exact zzc.mp (by lia)
   ·rw[ab rfl,e7];rfl
  |part d n w u s t=>
   dsimp only[uV,pO,pR,uG,pZ,uo]at k1 k2 k3 k4 k5 k6;refine sc0 rfl ty k1 ?_;refine sc0 rfl ty k3 ?_;refine sc0 rfl ty k2 ?_;refine sc0 rfl ty k4 ?_;refine sc0 rfl ty k5 ?_;refine sc1 rfl ty k6 ?_;walk_at "i";refine md hb hB.me (nf _ (by decide+kernel)) ⟨b,x,kb,ns,W,d,n,s,t,w,u,rfl,hB,hE,?_,hg.2.2.2.2.2,Ne.symm hg.2.2.1,hw,hS.r,w3,hC.nl,λq1 l1 q ms H' o aa e1 e2 e6 e7 ec=>k _ H' aa o (hS.next hg ((hS.r.keep hw e1).keep hu e6) (λz=>?_) rfl hS.o hS.g (yt _) (yJ _ _) (hS.bal.part hU hw hu (Ne.symm hg.2.2.1) ec)) rfl rfl⟩
   ·obtain⟨h1,h2⟩:=hg.2.2.2
    unfold Rg at h1 h2;exact⟨⟨by lia,by lia⟩,by lia,by lia⟩
   ·show pcs (rowOf (keepR (keepR kb.rs w q1 l1) u q ms) z)=(if z=u then pcs (rowOf kb.rs u)+pcs (rowOf kb.rs w)else pcs (rowOf kb.rs z))
    rw[qZ];by_cases c:z=u
    ·rw[zi c,zi c,e7]
    ·rw[zf c,zf c,qZ]
     by_cases c2:z=w
     ·rw[zi c2,e2,c2]
     ·rw[zf c2]
def Nh{D:Ends}(P:L2.St->Hp->Prop)(h1:∀q H',P q H'->u D q H')(h2:∀N:L2.St->Hp->Prop,(∀q H',P q H'->N q H')->t {D with nx:=N} σ H):aar t u D σ H:=h2 _ h1
def Aft(k:BkD)(e:Ent):Prop:=∀t,k.last=some t->t.2.1<e.day\/(t.2.1=e.day/\t.2.2<e.num)
def alb{a b d:Int}(h:c<a\/(c=a/\d<b)):HT.lexLe [a,b] [c,d]=false:=by
 unfold HT.lexLe;by_cases e:a=c
 ·rw[zi e]
  unfold HT.lexLe;rw[zf (by lia)];exact zJ (by lia)
 ·rw[zf e]
  exact zJ (by lia)
def Zq(k:BkD)(l:Option (Addr×Int×Int)):Fe (Str.ofString "last_place") (TQ l) k.fs={k with last:=l}.fs:=by cases k;rfl
def XJ(A:Adr)(e:Ent):∃q,q e=true/\(e.cls A,Em A q)∈[(A.bO,Em A uV),(A.bP,Em A pO),(A.bQ,Em A pR),(A.bR,Em A uG),(A.bS,Em A pZ),(A.bT,Em A uo)]:=by
 cases e with
 |buy=>exact⟨uV,rfl,zh (i:=0) rfl⟩
 |sell=>exact⟨pO,rfl,zh (i:=1) rfl⟩
 |gift=>exact⟨pR,rfl,zh (i:=2) rfl⟩
 |give=>exact⟨uG,rfl,zh (i:=3) rfl⟩
 |split=>exact⟨pZ,rfl,zh (i:=4) rfl⟩
 |part=>exact⟨uo,rfl,zh (i:=5) rfl⟩
def Yx{e:Ent}{q:List (Key×V)}(h:WD (jo q) e):e.beh q≠none:=by
 cases e with
 |buy=>exact λc=>by cases c
 |gift=>exact λc=>by cases c
 |part=>exact λc=>by cases c
 |sell d n w p r f o=>
  have h:p<=jo q w:=h;rw[Ent.beh,zf (by lia)];exact λc=>by cases c
 |give d n w p o=>
  have h:p<=jo q w:=h;rw[Ent.beh,zf (by lia)];exact λc=>by cases c
 |split d n w m f=>
  have h:jo q w=0\/1<=jo q w*m/f:=h;rw[Ent.beh,zf (by lia)];exact λc=>by cases c
def jz.isE{k:BkD}{e:Ent}{q:V}(h:jz A H b k)(_:IsE A H x e)(z:H x=some (.ins C dx (e.fs q))):qR H (k.M b) x=some (.ins C dx (e.fs q)):=by cases e<;>exact h.day z
def jz.keepE{k:BkD}{M:List Addr}{e:Ent}(h:jz A H b k)(o:Stp (k.M b) M H H')(q:IsE A H x e)(ho:e.lots=none):IsE A H' x e:=let⟨dx,nv,z,c⟩:=q;⟨dx,nv,o.k x _ (tM (h.isE q z)) z,by rw[ho]at c⊢;exact c⟩
inductive Ml(A:Adr)(vs:List V)(H:Hp)(Q:VK)(E:XK):Prop
 |mk (b x:Addr) (k:BkD) (e:Ent) (es:List Ent) (W:List Str) (ns:List Int) (_:vs=[.ref b,.ref x]) (_:jz A H b k) (_:IsE A H x e) (_:Can A H W ns es k e) (_:Aft k e) (_:∀k' t H',jz A H' b k'->Stp (k.M b) (k'.M b) H H'->StB W ns (es++[e]) k'->k'.C=k.C->k'.way=k.way->k'.last=some (t,e.day,e.num)->Q .non H'):Ml A vs H Q E
def Mg:kI P w K mg base CX0 9 A.bD D.bD ["self", "entry"] (Ml A):=by
 refine T.dG.okv WQ λ_ _ _ _ H vs Q E hr h=>?_
 ·obtain⟨b,x,kb,e,es,W,ns,rfl,hB,hx,hC,hA,k⟩:=h
  obtain⟨db,hb⟩:=hB.i;have hc:=Er T hB;have ah:=λf h=>kb.noM f h
  refine ⟨_,(jb (kE (PW.pt (xR (jl (CJ) (fv K 0) mR (jx _)) (vR (jl ((akj (K:=K) hr)) (pcg (Cq T) hr T.co (Fd T) (pav 1 jc)) (fv K 0) (jx _))))) (je (mC)) jC)
   (jb (kE (jl (Gd) (jN (pv 1) (mc T.ey T.f7 (tQ T) hr (uR T) (mc T.eH T.f8 (rT T) hr (tU T) (mc T.eR T.f9 (rn T) hr (uf T) (mc T.eZ T.ga (rP T) hr (tH T) (mc T.e6 T.gb (qM T) hr (su T) (mc T.fd T.gc (pH T) hr (qg T) .nil)))))) jR (iY (mG (pv 0) (mc T.fs T.ge (ud T) hr (vW T) (mc T.fA T.gf (ud T) hr (vW T) .nil)) jR) jc)) mR (jx _)) (je (mC)) jC)
   (jb (jA (jN (pv 0) (mc T.fs T.gT (tY T) hr (vz T) (mc T.fA T.gU (tY T) hr (vz T) .nil)) jR (pav 1 jc)))
   (je (jJ (K:=K) (pv 0) (pcg (Cq T) hr T.co (Fd T) (pav 1 jc)) rfl))))),?_⟩
  simp only[start_eq];refine Nh (λσ' H'=>σ'=[some (.ref b),some (.ref x)]/\Same H H') ?_ ?_
  ·rintro σ1 H1 ⟨rfl,s1⟩
   refine Nh (λσ' H'=>σ'=[some (.ref b),some (.ref x)]/\Same H H') ?_ ?_
   ·rintro σ2 H2 ⟨rfl,s2⟩
    have ab:=hB.same s2;have ag:=hx.same s2;obtain⟨ay,as⟩:=ab.i;have ao:Can A H2 W ns es kb e:=⟨hC.s,hC.l,hC.nl,hC.u,hC.g,hC.n,hC.f,hC.m,let⟨Cw,dw,h1,h2⟩:=hC.w;⟨Cw,dw,s2 _ _ h1,h2⟩⟩;walk_at "m";refine md as ab.me (ah _ (by decide+kernel)) ⟨b,x,kb,e,es,W,ns,rfl,ab,ag,ao,λk3 H3 ak o3 q c3 w3=>?_⟩;have ar:=ab.keepE o3 ag hC.g.2.1
    try dsimp only
    refine⟨x,e,rfl,ar,λt ht=>?_⟩;have s4:=ji (o:=.tup [V.int e.day,V.int e.num]) ht;have aa:=ak.same s4;have af:(upd H3 t (.tup [V.int e.day,V.int e.num])) t=some (.tup [V.int e.day,V.int e.num]):=jd;generalize upd H3 t (.tup [V.int e.day,V.int e.num])=H4 at s4 aa af⊢;obtain⟨au,an⟩:=aa.i;have ad:=Er T aa;refine sw an ad.c ad.l (Vh _) (?_);rw[show V.ref t=TQ (some (t,e.day,e.num))from rfl,Zq];exact k _ t _ (aa.put (la:=some (t,e.day,e.num)) (pa:=k3.paid) (br:=k3.brought) λu hu=>by cases hu;exact aa.tup af) ((qi s2).trans (o3.trans ((qi s4).trans (qz BkD.mb)))) ⟨q.r,q.c,q.n,q.p,q.g,q.v,q.l,q.o,q.e,⟨q.bal.b,q.bal.p,q.bal.r,q.bal.s,q.bal.v⟩⟩ c3 w3 rfl
   ·intro N hN
    have ac:=hB.same s1;obtain⟨av,al⟩:=ac.i;obtain⟨dx,nv,ae,ap⟩:=hx.same s1;walk_at "i";obtain⟨aw,hk,aj⟩:=XJ A e;have hS:=hC.s;refine md ae aj (by cases e<;>rfl) (md al ac.me (ah _ (by decide+kernel)) ⟨b,kb,ns,W,rfl,ac,hS.r,by have:=hC.u.2;lia,hC.nl,λp kv H2 s2 hp am hH hl hv _=>?_⟩);have ai:WD (jo kv) e:=by rw[show jo kv=runC es from funext λz=>(hv z).trans (hS.c z)];exact hC.f
    refine⟨x,p,e,kv,hk,rfl,⟨dx,nv,s2 _ _ ae,ap.same s2⟩,hC.g.1,.inl am,hH,by lia,λc=>(Yx ai c).elim,λax _ p2 H3 s3 _ _=>?_⟩;show(if V.ref p2=V.non then _ else _);rw[zf (λc=>by cases c)];exact hN _ _ ⟨rfl,s1.trans (s2.trans s3)⟩
  ·intro N hN
   walk_at "i";refine rd hb hc.c hc.l (v:=TQ kb.last) (by rfl) (?_)
   cases hl:kb.last with
   |none=>
    rw[zf (by simp[TQ])];exact hN _ _ ⟨rfl,same_refl _⟩
   |some t=>
    rw[zi (by simp[TQ])];refine⟨x,e,rfl,hx,λt1 aq=>?_⟩;have s1:=ji (o:=.tup [V.int e.day,V.int e.num]) aq;refine rd (s1 _ _ hb) hc.c hc.l (v:=TQ kb.last) (by rfl) (?_);rw[hl];refine⟨t1,t.1,[e.day,e.num],[t.2.1,t.2.2],rfl,rfl,jE jd,jE (s1 _ _ (hB.frz.p t hl)),_,rfl,?_⟩;rw[alb (hA t hl),zf (by decide)];exact hN _ _ ⟨rfl,s1⟩
structure Ini(B H:Hp)(x C dx:Addr)(fs:List (Str×V))(os:List (Addr×HO)):Prop where
 n:New B H x C dx fs
 o:∀p∈os,p.1≠x/\B p.1=none/\H p.1=some p.2
 u:os.Pairwise λp q=>p.1≠q.1
theorem Ini.put{B H:Hp}{x C dx:Addr}{fs:List (Str×V)}{os:List (Addr×HO)}(h:Ini B H x C dx fs os)(gs:List (Str×V)):Ini B (upd H x (.ins C dx gs)) x C dx gs os:=⟨h.n.put rfl,λp q=>let⟨a,b,c⟩:=h.o p q;⟨a,b,(jn a).trans c⟩,h.u⟩
def Ini.new{fs:List (Str×V)}(h:Ini B H x C dx fs os)(hq:H q=none):Ini B (upd H q o) x C dx fs ((q,o)::os):=by
 have s:=ji (o:=o) hq;refine⟨h.n.same s,λp z=>?_,List.pairwise_cons.mpr ⟨λp z e=>?_,h.u⟩⟩
 ·rcases zx.mp z with rfl|z
  ·exact⟨λe=>(by have:=h.n.h;rw[<-show q=x from e,hq]at this;cases this),h.n.s.free hq,jd⟩
  ·obtain⟨a,b,c⟩:=h.o p z
   exact⟨a,b,s _ _ c⟩
 ·have:=(h.o p z).2.2
  rw[<-show q=p.1 from e,hq]at this;cases this
noncomputable def k0(C w pr ps pg:Addr)(x:Option (Int×Addr×LY)):BkD:=⟨C,w,pr,ps,pg,[],none,0,0,[],[],x⟩
noncomputable def os0(pr ps pg:Addr):List (Addr×HO):=[(pg,.lst []),(ps,.lst []),(pr,.dK [])]
inductive wI(K:Fg_)(vs:List V)(H:Hp)(Q:VK)(E:XK):Prop
 |mk (x w:Addr) (B:Hp) (C dx:Addr) (_:vs=[.ref x,.ref w]) (_:New B H x C dx []) (_:CB K C) (_:∀pr ps pg H',Ini B H' x C dx (k0 C w pr ps pg none).fs (os0 pr ps pg)->Q .non H'):wI K vs H Q E
def wZ:kI P w K mg base CX0 1 A.bF D.bF ["self", "way"] (wI K):=by
 refine T.dI.okv Gy λ_ _ _ _ H vs Q E hr h=>?_
 ·obtain⟨x,w,B,C,dx,rfl,hN,z,k⟩:=h
  refine ⟨_,(jb (jJ (K:=K) (pv 0) (pvD 1) rfl)
   (jb (jJ (K:=K) (pv 0) vN rfl)
   (jb (jJ (K:=K) (pv 0) mR rfl)
   (jb (jJ (K:=K) (pv 0) jf rfl)
   (jb (jJ (K:=K) (pv 0) jf rfl)
   (jb (jJ (K:=K) (pv 0) (lE jc) rfl)
   (je (jJ (K:=K) (pv 0) (lE jc) rfl)))))))),?_⟩
  have q:Ini B H x C dx [] []:=⟨hN,λp h=>(zj h).elim,.nil⟩;clear hN;simp only[start_eq];refine lg λu hu=>?_;rw[ap_seq];walk_at "i";refine sw q.n.h z.c z.w (by decide) ?_;rw[Bm _ _ (by decide+kernel)];have q:=q.put ([]++[(Str.ofString "way",V.ref w)]);generalize upd H x _=H1 at q⊢;subst hu
  try dsimp only
  refine lg λu hu=>?_;rw[ap_seq];walk_at "i";intro pr aa;have q:=q.new (o:=.dK []) aa;generalize upd H1 pr _=H1a at q⊢;refine sw q.n.h z.c z.r (by simp) ?_;rw[mX (f:=Str.ofString "rows") ["way"]];have q:=q.put (([]++[(Str.ofString "way",V.ref w)])++[(Str.ofString "rows",V.ref pr)]);generalize upd H1a x _=H2 at q⊢;subst hu
  try dsimp only
  refine lg λu hu=>?_;rw[ap_seq];walk_at "i";refine sw q.n.h z.c z.l (by simp) ?_;rw[mX (f:=Str.ofString "last_place") ["way", "rows"]];have q:=q.put ((([]++[(Str.ofString "way",V.ref w)])++[(Str.ofString "rows",V.ref pr)])++[(Str.ofString "last_place",V.non)]);generalize upd H2 x _=H3 at q⊢;subst hu
  try dsimp only
  refine lg λu hu=>?_;rw[ap_seq];walk_at "i";refine sw q.n.h z.c z.p (by simp) ?_;rw[mX (f:=Str.ofString "paid") ["way", "rows", "last_place"]];have q:=q.put (((([]++[(Str.ofString "way",V.ref w)])++[(Str.ofString "rows",V.ref pr)])++[(Str.ofString "last_place",V.non)])++[(Str.ofString "paid",V.int 0)]);generalize upd H3 x _=H4 at q⊢;subst hu
  try dsimp only
  refine lg λu hu=>?_;rw[ap_seq];walk_at "i";refine sw q.n.h z.c z.b (by simp) ?_;rw[mX (f:=Str.ofString "brought") ["way", "rows", "last_place", "paid"]];have q:=q.put ((((([]++[(Str.ofString "way",V.ref w)])++[(Str.ofString "rows",V.ref pr)])++[(Str.ofString "last_place",V.non)])++[(Str.ofString "paid",V.int 0)])++[(Str.ofString "brought",V.int 0)]);generalize upd H4 x _=H5 at q⊢;subst hu
  try dsimp only
  refine lg λu hu=>?_;rw[ap_seq];walk_at "i";refine⟨sz,λps ab=>?_⟩;have q:=q.new (o:=.lst []) ab;generalize upd H5 ps _=H5a at q⊢;refine sw q.n.h z.c z.s (by simp) ?_;rw[mX (f:=Str.ofString "sales_done") ["way", "rows", "last_place", "paid", "brought"]];have q:=q.put (((((([]++[(Str.ofString "way",V.ref w)])++[(Str.ofString "rows",V.ref pr)])++[(Str.ofString "last_place",V.non)])++[(Str.ofString "paid",V.int 0)])++[(Str.ofString "brought",V.int 0)])++[(Str.ofString "sales_done",V.ref ps)]);generalize upd H5a x _=H6 at q⊢;subst hu
  try dsimp only
  walk_at "i";refine⟨sz,λpg ac=>?_⟩;have q:=q.new (o:=.lst []) ac;generalize upd H6 pg _=H6a at q⊢;refine sw q.n.h z.c z.g (by simp) ?_;rw[mX (f:=Str.ofString "givings_done") ["way", "rows", "last_place", "paid", "brought", "sales_done"]];exact k pr ps pg _ (q.put _)
def alS{w pr ps pg:Addr}{z:Option (Int×Addr×LY)}(h:Ini B H x C dx (k0 C w pr ps pg z).fs (os++os0 pr ps pg))(hc:(C=A.bW/\z=none)\/(C=A.bX/\z≠none))(hx:∀y,z=some y->(y.2.1,HO.lst [])∈os/\y.2.2=[]):
  jz A H x (k0 C w pr ps pg z)/\∀m∈(k0 C w pr ps pg z).M x,B m=none:=by
 have m1:(pg,HO.lst [])∈os++os0 pr ps pg:=zF _ (zh (i:=0) rfl);have m2:(ps,HO.lst [])∈os++os0 pr ps pg:=zF _ (zh (i:=1) rfl);have m3:(pr,HO.dK [])∈os++os0 pr ps pg:=zF _ (zh (i:=2) rfl);have hu:=y0.mp h.u;have aa:pg≠ps:=List.rel_of_pairwise_cons hu.2.1 zg;refine⟨⟨hc,⟨dx,h.n.h⟩,(h.o _ m3).2.2,(h.o _ m2).2.2,(h.o _ m1).2.2,λy e=>?_,Ne.symm aa,⟨λt q=>(zj q).elim,λt q=>(by cases q),λt q=>(zj q).elim,λt q=>(zj q).elim,λy e t q=>by rw[(hx y e).2]at q;exact(zj q).elim⟩⟩,λm hm=>?_⟩
 ·obtain⟨g1,g2⟩:=hx y e
  refine⟨by rw[g2];exact(h.o _ (yg _ g1)).2.2,hu.2.2 _ g1 _ (zh (i:=1) rfl),hu.2.2 _ g1 _ (zh (i:=0) rfl)⟩
 ·unfold BkD.M at hm
  rcases zD.mp hm with c|c
  ·rcases zx.mp c with rfl|c
   ·exact h.n.n
   rcases zx.mp c with rfl|c
   ·exact(h.o _ m3).2.1
   rcases zx.mp c with rfl|c
   ·exact(h.o _ m2).2.1
   ·rw[zr.mp c]
    exact(h.o _ m1).2.1
  ·unfold BkD.xm at c
   split at c
   ·exact(zj c).elim
   ·next y e=>
    rw[zr.mp c];exact(h.o _ (yg _ (hx y e).1)).2.1
inductive pF(A:Adr)(vs:List V)(H:Hp)(Q:VK)(E:XK):Prop
 |mk (x w:Addr) (g:Int) (B:Hp) (dx:Addr) (_:vs=[.ref x,.ref w,.int g]) (_:New B H x A.bX dx []) (_:∀k H',Same B H'->jz A H' x k->(∀m∈k.M x,B m=none)->(∃pr ps pg xo,k=k0 A.bX w pr ps pg xo/\k.ll=0)->Q .non H'):pF A vs H Q E
def xx:kI P w K mg base CX0 2 A.bH D.bH ["self", "way", "days"] (pF A):=by
 refine T.dK.okv xJ λ_ _ _ _ H vs Q E hr h=>?_
 ·obtain⟨x,w,g,B,dx,rfl,hN,k⟩:=h
  refine ⟨_,(jb (jA (pP T.g2 (wZ (K:=K) T) (hr.mono (by decide)) (by rfl) T.ei T.dI.kp (xV T) .nil jR (pav 0 (pav 1 jc))))
   (jb (jJ (K:=K) (pv 0) (pvD 2) rfl)
   (je (jJ (K:=K) (pv 0) (lE jc) rfl)))),?_⟩
  have hC:CB K A.bX:=⟨T.fA,T.fB,T.fC,T.fD,T.fE,T.fF,T.fG,T.fH⟩;simp only[start_eq];walk_at "m";refine⟨x,w,B,A.bX,dx,rfl,hN,hC,λpr ps pg H1 q=>?_⟩;walk_at "a";refine sw q.n.h T.fA T.fI (show(7:Nat)<1000 by decide) (?_);rw[mX (f:=Str.ofString "days") ["way", "rows", "last_place", "paid", "brought", "sales_done", "givings_done"]];have q:=q.put ((k0 A.bX w pr ps pg none).fs++[(Str.ofString "days",V.int g)]);generalize upd H1 x _=H2 at q⊢;refine⟨sz,λla z=>?_⟩;have q:=q.new (o:=.lst []) z;generalize upd H2 la _=H3 at q⊢;refine sw q.n.h T.fA T.fJ (show(8:Nat)<1000 by decide) (?_);rw[mX (f:=Str.ofString "layings") ["way", "rows", "last_place", "paid", "brought", "sales_done", "givings_done", "days"]];have q:=q.put ((k0 A.bX w pr ps pg (some (g,la,[]))).fs);obtain⟨g1,g2⟩:=alS (A:=A) (os:=[(la,.lst [])]) q (.inr ⟨rfl,λc=>by cases c⟩) λy e=>by cases e;exact⟨zg,rfl⟩
  exact k _ _ q.n.s g1 g2 ⟨pr,ps,pg,_,rfl,rfl⟩
theorem IK:∀W:List Str,uT W []=0
 |[]=>rfl
 |z::W=>by show lH []+uT W []=0;rw[IK W];rfl
def st0{ns:List Int}{k:BkD}(h:∃C w pr ps pg q,k=k0 C w pr ps pg q/\k.ll=0):StB W ns [] k:=by
 obtain⟨C,w,pr,ps,pg,q,rfl,hl⟩:=h;refine⟨⟨.nil,λt h=>(zj h).elim,λt h=>(zj h).elim⟩,λz=>rfl,yM _,λt h=>(zj h).elim,λt h=>(zj h).elim,zm _,by rw[hl];exact zM _,λt h=>(zj h).elim,λt h=>(zj h).elim,⟨by show uT W []+0+0=0+0+0;rw[IK],rfl,rfl,rfl,λ_=>rfl⟩⟩
inductive Kg(A:Adr)(vs:List V)(H:Hp)(Q:VK)(E:XK):Prop
 |mk (b q:Addr) (k:BkD) (es:EL) (W:List Str) (hs:List Ent) (_:vs=[.ref b,.ref q]) (_:jz A H b k) (_:(∃C w pr ps pg xo,k=k0 C w pr ps pg xo/\k.ll=0)) (_:(∃Cw dw,H k.way=some (.ins Cw dw [])/\Tg A Cw)) (_:k.way∉k.M b) (_:H q=some (.lst (lZ es))) (_:Kh A H es) (_:HB W hs) (_:(W.Nodup/\W.length<=6)) (_:hs.Pairwise BfE) (_:hs.length<=59) (_:(hs.map Ent.num).Nodup) (_:(es.map (·.2)).Perm hs) (_:∀k' H',jz A H' b k'->Stp (k.M b) (k'.M b) H H'->StB W (hs.map Ent.num) hs k'->k'.C=k.C->Q (.ref b) H'):Kg A vs H Q E
def wU:kI P w K mg base CX0 10 A.bE D.bE ["book", "entries"] (Kg A):=by
 refine T.dH.F.okv wK λ_ _ _ _ H vs Q E hr h=>?_
 ·obtain⟨b,q,kb,es,W,z,rfl,hB,h0,hw,au,hq,hE,hH,hU,hb,hl,hn,ah,k⟩:=h
  refine ⟨_,(jb (oh zR rfl (lM (K:=K) (pcg (Im T) hr T.cp (LK T) (pav 1 jc))) (jk (i:=2) wK.nd rfl orl)
    (je (jA (jN (pv 0) (mc T.fs T.gV (Mg T) hr (Qw T) (mc T.fA T.gW (Mg T) hr (Qw T) .nil)) jR (pav 2 jc)))))
   (je (jq (pvD 0)))),?_⟩
  simp only[start_eq];rw[ap_seq,ap_for];walk_at "i";have ax:es.length=z.length:=by have:=ah.length_eq;rwa [za]at this
  refine⟨q,es,rfl,hq,hE,by lia,?_,λp ab H1 s1 hp h1 af ao=>?_⟩
  ·have:=(ah.map Ent.num).nodup_iff.mpr hn
   rwa [zu]at this
  have ag:ab.map (·.2)=z:=aiS ((af.map (·.2)).trans ah) ao hb;have aw:Kh A H1 ab:=λr hr=>(hE r (af.mem_iff.mp hr)).same s1;have aj:=hB.same s1;refine⟨p,rfl,⟨_,jh h1⟩,?_⟩
  refine qu (K:=K) (a:=p) (xs:=lZ ab) (λi σ H2=>∃(k2:BkD)(v2:Option V),σ=[some (.ref b),some (.ref q),v2]/\jz A H2 b k2/\Stp (kb.M b) (k2.M b) H1 H2/\StB W (z.map Ent.num) (z.take i) k2/\k2.C=kb.C/\k2.way=kb.way/\∀t,k2.last=some t->∃e∈z.take i,t.2.1=e.day/\t.2.2=e.num)
   ⟨kb,_,rfl,aj,qi (same_refl _),st0 h0,rfl,rfl,λt ht=>?_⟩ (λi σ H2 _ ⟨k2,_,_,_,o2,_⟩=>jh (o2.k p _ (hB.fresh hp) h1)) ?_ ?_
  ·obtain⟨C,w,pr,ps,pg,xo,rfl,_⟩:=h0
   cases ht
  ·rintro i y σ H2 hi ⟨k2,v2,rfl,ad,o2,ae,c2,w2,ac⟩
   obtain⟨r,ai,rfl⟩:=vq hi;have aq:=zh ai;have ay:i<ab.length:=(zk.mp ai).1;have aa:z[i]? =some r.2:=by rw[<-ag,zo,ai];rfl
   have hln':ab.length=z.length:=by rw[<-ag,za]
   have am:=hH.g r.2 (zh aa);have ar:=aj.keepE o2 (aw r aq) am.2.1;obtain⟨az,av⟩:=ad.i;have htk:z.take (i+1)=z.take i++[r.2]:=by rw[zK,aa];rfl
   have al:Can A H2 W (z.map Ent.num) (z.take i) k2 r.2:=⟨ae,by rw[zT];lia,by rw[za];lia,hU,am,zc.mpr ⟨_,zh aa,rfl⟩,hH.f i _ aa,hH.big hl (by lia),let⟨Cw,dw,g1,g2⟩:=hw;⟨Cw,dw,by rw[w2];exact o2.k _ _ au (s1 _ _ g1),g2⟩⟩
   have ak:Aft k2 r.2:=λt ht=>by
    obtain⟨e,he,ed,en⟩:=ac t ht;have h4:=hb;rw[<-zzo i z]at h4
    have h5:=(y0.mp h4).2.2 e he r.2 (by
     have hil':i<z.length:=by lia
     rw[zzu hil'];have:z[i]=r.2:=by rw[zq hil']at aa;exact zy aa
     rw[this];exact zg)
    rw[ed,en];exact h5
   walk_at "i";refine md av ad.me (k2.noM _ (by decide+kernel)) ⟨b,r.1,k2,r.2,_,_,_,rfl,ad,ar,al,ak,λk3 t H3 an o3 ap c3 w3 as=>?_⟩;refine⟨k3,an,o2.trans o3,htk▸ap,c3.trans c2,w3.trans w2,λu hu=>?_⟩;rw[as]at hu;cases hu;exact⟨r.2,by rw[htk];exact zD.mpr (.inr (by simp)),rfl,rfl⟩
  ·rintro σ H2 ⟨k2,v2,rfl,ad,o2,ae,c2,w2,ac⟩
   rw[kY,show ab.length=z.length by rw[<-ag,za],zX]at ae;walk_at "a";exact k k2 H2 ad ((qi s1).trans o2) ae c2
structure ang(A:Adr)(H:Hp)(w q:Addr)(es:EL)(W:List Str)(hs:List Ent):Prop where
 w:∃Cw dw,H w=some (.ins Cw dw [])/\Tg A Cw
 q:H q=some (.lst (lZ es))
 e:Kh A H es
 h:HB W hs
 u:W.Nodup/\W.length<=6
 b:hs.Pairwise BfE
 l:hs.length<=59
 n:(hs.map Ent.num).Nodup
 p:(es.map (·.2)).Perm hs
def mine{k q:BkD}(s:Same B H)(hm:∀m∈k.M b,B m=none)(o:Stp (k.M b) (q.M b) H H'):Same B H'/\∀m∈q.M b,B m=none:=
 ⟨λa u e=>o.k a u (λc=>by rw[hm a c]at e;cases e) (s _ _ e),λm c=>(o.f m c).elim (hm m) λe=>s.free e⟩
inductive Mw(A:Adr)(vs:List V)(H:Hp)(Q:VK)(E:XK):Prop
 |mk (w q:Addr) (es:EL) (W:List Str) (hs:List Ent) (_:vs=[.ref w,.ref q]) (_:ang A H w q es W hs) (_:∀b k H',Same H H'->jz A H' b k->(∀m∈k.M b,H m=none)->StB W (hs.map Ent.num) hs k->Q (.ref b) H'):Mw A vs H Q E
def Wz:kI P w K mg base CX0 11 A.bG D.bG ["way", "entries"] (Mw A):=by
 refine T.dJ.F.okv WX λ_ _ _ _ H vs Q E hr h=>?_
 ·obtain⟨w,q,es,W,hs,rfl,z,k⟩:=h
  refine⟨_,(je (jq (pcg (wU T) hr T.dH (Be T) (iY (mF T.f1 (wZ (K:=K) T) (hr.mono (by decide)) (by rfl) T.ei (xV T) .nil jR (pav 0 jc)) (pav 1 jc))))),?_⟩;walk_at "a";intro b db hb aa _;have hN:=qO (C:=A.bW) hb aa;refine⟨b,w,H,A.bW,db,rfl,hN,⟨T.fs,T.ft,T.fu,T.fv,T.fw,T.fx,T.fy,T.fz⟩,λpr ps pg H1 hI=>⟨rfl,?_⟩⟩;obtain⟨hB,hm⟩:=alS (A:=A) (os:=[]) hI (.inl ⟨rfl,rfl⟩) λy e=>by cases e
  have s1:=hI.n.s;obtain⟨Cw,dw,w1,w2⟩:=z.w;refine⟨b,q,_,es,W,hs,rfl,hB,⟨_,_,_,_,_,_,rfl,rfl⟩,⟨Cw,dw,s1 _ _ w1,w2⟩,λc=>?_,s1 _ _ z.q,λr hr=>(z.e r hr).same s1,z.h,z.u,z.b,z.l,z.n,z.p,λk2 H2 ab o2 ac c2=>?_⟩
  ·have c:H w=none:=hm _ c
   rw[w1]at c;cases c
  ·obtain⟨g1,g2⟩:=mine s1 hm o2
   exact k b k2 H2 g1 ab g2 ac
inductive vD(A:Adr)(vs:List V)(H:Hp)(Q:VK)(E:XK):Prop
 |mk (w q:Addr) (g:Int) (es:EL) (W:List Str) (hs:List Ent) (_:vs=[.ref w,.int g,.ref q]) (_:ang A H w q es W hs) (_:∀b k H',Same H H'->jz A H' b k->(∀m∈k.M b,H m=none)->StB W (hs.map Ent.num) hs k->Q (.ref b) H'):vD A vs H Q E
def Fo:kI P w K mg base CX0 11 A.bI D.bI ["way", "days", "entries"] (vD A):=by
 refine T.dL.F.okv Ff λ_ _ _ _ H vs Q E hr h=>?_
 ·obtain⟨w,q,g,es,W,hs,rfl,z,k⟩:=h
  refine⟨_,(je (jq (pcg (wU T) hr T.dH (Be T) (iY (mF T.f2 (xx (K:=K) T) (hr.mono (by decide)) (by rfl) T.ej (Af T) .nil jR (pav 0 (pav 1 jc))) (pav 2 jc))))),?_⟩;walk_at "a";intro b db hb aa _;have hN:=qO (C:=A.bX) hb aa;refine⟨b,w,g,H,db,rfl,hN,λk1 H1 s1 hB hm hk=>⟨rfl,?_⟩⟩;obtain⟨pr,ps,pg,xo,rfl,hl⟩:=hk;obtain⟨Cw,dw,w1,w2⟩:=z.w;refine⟨b,q,_,es,W,hs,rfl,hB,⟨_,_,_,_,_,_,rfl,hl⟩,⟨Cw,dw,s1 _ _ w1,w2⟩,λc=>?_,s1 _ _ z.q,λr hr=>(z.e r hr).same s1,z.h,z.u,z.b,z.l,z.n,z.p,λk2 H2 ab o2 ac c2=>?_⟩
  ·have c:H w=none:=hm _ c
   rw[w1]at c;cases c
  ·obtain⟨g1,g2⟩:=mine s1 hm o2
   exact k b k2 H2 g1 ab g2 ac
theorem aiT{H0 H:Hp}:∀{sl:List (Addr×kj)}{acc:List V},rF (λt v=>∃y s,v=.ref y/\(mz A H y s/\H0 s.pl=none)/\s.dat=t.2.dat) sl acc->∃q:List (Addr×kj),acc=GD q/\q.map (λt=>t.2.dat)=sl.map (λt=>t.2.dat)/\∀t∈q,mz A H t.1 t.2/\H0 t.2.pl=none
 |[],[],_=>⟨[],rfl,rfl,λt h=>(zj h).elim⟩
 |t::sl,v::acc,h=>by
  obtain⟨⟨y,s,rfl,hs,hc⟩,h2⟩:=h;obtain⟨q,e1,e2,e3⟩:=aiT h2;refine⟨(y,s)::q,by rw[e1];rfl,by rw[zl,e2,hc];rfl,λu z=>?_⟩;rcases zx.mp z with rfl|z
  ·exact hs
  ·exact e3 u z
 |[],_::_,h=>h.elim
 |_::_,[],h=>h.elim
inductive DP(A:Adr)(vs:List V)(H:Hp)(Q:VK)(E:XK):Prop
 |mk (b:Addr) (k:BkD) (_:vs=[.ref b]) (_:jz A H b k) (_:k.sl.length<=100) (_:∀l sl H',Same H H'->H l=none->H' l=some (.lst (GD sl))->(∀t∈sl,mz A H' t.1 t.2/\H t.2.pl=none)->sl.map (λt=>t.2.dat)=k.sl.map (λt=>t.2.dat)->Q (.ref l) H'):DP A vs H Q E
def qT:kI P w K mg base CX0 4 A.aY D.aY ["self"] (DP A):=by
 refine T.c1.okv Oe λ_ _ _ _ H vs Q E hr h=>?_
 ·obtain⟨b,kb,rfl,z,hl,k⟩:=h
  refine⟨_,(je (jq (jW (cap:=[none]) (N':=["sale"]) rfl (by walk_at "c") (lM (K:=K) (fv K 0)) (λ_ _ _ _=>(jk (i:=0) nd1 rfl orl orr)) (λ_ _ _ _=>kh) (λ_ _ _ _=>(pcg (Ko T) hr T.c0 (Lh T) (pav 0 jc)))))),?_⟩;walk_at "a";obtain⟨dx,hb⟩:=z.i;have hC:=Er T z;refine rd hb hC.c hC.s (by rfl) ⟨kb.sales,rfl,⟨_,jh z.s⟩,?_⟩;refine Oz (f:=λt:Addr×kj=>V.ref t.1) (λσ=>∃a,σ=[a]) (λ_ t v H'=>∃y s,v=.ref y/\(mz A H' y s/\H s.pl=none)/\s.dat=t.2.dat) (jh z.s) ⟨_,rfl⟩ (by lia) ?_ ?_
  ·rintro Da t ht σ H5 R ⟨_,rfl⟩ sm hD ⟨acc,hA⟩ kk
   walk_at "i";exact⟨t.1,t.2,rfl,(z.frz.s t ht).same sm,λy pl H6 s6 hy q hS=>kk (.ref y) _ H6 ⟨_,rfl⟩ s6 λH' hb=>⟨y,_,rfl,⟨hS.but (s6 _ _ hA) (λe=>by rw[show pl=Da from e,hA]at q;cases q) hb,sm.free q⟩,rfl⟩⟩
  ·intro Da H' acc hD sm hA hF
   obtain⟨sl,e1,e2,e3⟩:=aiT hF;exact k Da sl H' sm hD (e1▸hA) e3 e2
noncomputable def cst(ls:RL):Int:=((ls.map (·.2)).map jD.c).sum
noncomputable def Wo(k:BkD):List (Key×V):=[(Sum.inr "paid",.int k.paid),(Sum.inr "brought",.int k.brought),(Sum.inr "laid",.int ((k.sl.filter λt=>decide (t.2.lo≠none)).map λt=> -(t.2.pr - t.2.co)).sum),(Sum.inr "sold",.int (k.sl.map λt=>t.2.co).sum),(Sum.inr "given",.int (k.gv.map λt=>cst t.2.2.2).sum),(Sum.inr "left",.int (k.rs.map λt=>cst t.2.2).sum),(Sum.inr "proceeds",.int (k.sl.map λt=>t.2.pr).sum)]
def alG{q z H5:Hp}{r:Addr}(hr:q r=some (.dK kvs))(o4:∀a o,a≠r->q a=some o->z a=some o)(s:Same z H5):Same q (upd H5 r (.dK kvs)):=λa o h=>by
 by_cases c:a=r
 ·rw[c,hr]at h
  rw[c,jd];exact h
 ·rw[jn c]
  exact s _ _ (o4 _ _ c h)
def akM{f:α->Int}{rs:List α}(q:acc.length=rs.length)(h:∀(i:Nat) v,acc[i]? =some v->∃l,rs[i]? =some l/\v=.int (f l)):acc=(rs.map f).map V.int:=by
 refine zzI λi=>?_;rw[zo,zo];by_cases hi:i<acc.length
 ·obtain⟨l,h1,h2⟩:=h i _ (zq hi)
  rw[zq hi,h2,h1];rfl
 ·rw[yc (by lia),yc (by lia)]
  rfl
inductive FN(A:Adr)(vs:List V)(H:Hp)(Q:VK)(E:XK):Prop
 |mk (b:Addr) (k:BkD) (W:List Str) (ns:List Int) (_:vs=[.ref b]) (_:jz A H b k) (_:KZ ns W k.rs) (_:W.length<=6) (_:ns.length<=61) (_:k.sl.length<=100) (_:k.gv.length<=100) (_:(∀t∈k.gv,t.2.2.2.length<=61)) (_:∀p H',Same H H'->H p=none->H' p=some (.dK (Wo k))->Q (.ref p) H'):FN A vs H Q E
def Gg:kI P w K mg base CX0 3 A.aQ D.aQ ["self"] (FN A):=by
 refine T.cT.okv PN λ_ _ _ _ H vs Q E hr h=>?_
 ·obtain⟨b,q,W,ns,rfl,hB,hO,hW,hN,hl,bc,aq,k⟩:=h
  refine⟨_,(je (jq (akl (wB jB (fv K 0) (wB jB (fv K 0) (wB jB (jy (lK (K:=K) rfl) (by rfl) T.d6 (by decide+kernel) (iY (jW (cap:=[none]) (N':=["sale"]) rfl (by walk_at "c") (lM (K:=K) (fv K 0)) (λ_ _ _ _=>(jk (i:=0) nd1 rfl orl orr)) (λ_ _ _ _=>(ul (jl (CJ) (fv K 0) mR (jx _)))) (λ_ _ _ _=>(aiq Uz (mG (pv 0) (mc T.fl T.gd (oJ T) hr (pN T) .nil) jR)))) jc)) (wB jB (jy (lK (K:=K) rfl) (by rfl) T.d6 (by decide+kernel) (iY (jW (cap:=[none]) (N':=["sale"]) rfl (by walk_at "c") (lM (K:=K) (fv K 0)) (λ_ _ _ _=>(jk (i:=0) nd1 rfl orl orr)) (λ_ _ _ _=>kh) (λ_ _ _ _=>(pcg (wY T) hr T.cQ (Bj T) (iY (fv K 0) jc)))) jc)) (wB jB (jy (lK (K:=K) rfl) (by rfl) T.d6 (by decide+kernel) (iY (jW (cap:=[none,none]) (N':=["number", "lots"]) rfl (by walk_at "c") (lM (K:=K) (fv K 0)) (λ_ _ _ _=>(pY (K:=K) (n:=2) rfl (jG (jk (i:=0) (show(["number", "lots"]:List Str).Nodup from by decide+kernel) rfl orl orr) (jG (jk (i:=1) (show(["number", "lots"]:List Str).Nodup from by decide+kernel) rfl orl orr) oF)))) (λ_ _ _ _=>kh) (λ_ _ _ _=>(pcg (Ey T) hr T.cR (JG T) (pav 1 jc)))) jc)) (wB jB (Sy (jy (lK (K:=K) rfl) (by rfl) T.d6 (by decide+kernel) (iY (jW (cap:=[none]) (N':=["row"]) rfl (by walk_at "c") (YT (HS (K:=K) yd zzw PySem.F.type_dict_values PX (fv K 0))) (λ_ _ _ _=>(jk (i:=0) nd1 rfl orl orr)) (λ_ _ _ _=>kh) (λ_ _ _ _=>(pcg (Ey T) hr T.cR (JG T) (pav 0 jc)))) jc))) (wB jB (jy (lK (K:=K) rfl) (by rfl) T.d6 (by decide+kernel) (iY (jW (cap:=[none]) (N':=["sale"]) rfl (by walk_at "c") (lM (K:=K) (fv K 0)) (λ_ _ _ _=>(jk (i:=0) nd1 rfl orl orr)) (λ_ _ _ _=>kh) (λ_ _ _ _=>(fv K 0))) jc)) ajM))))))) rfl rfl (List.cons_ne_nil _ _) (Nat.le_of_ble_eq_true rfl)))),?_⟩;walk_at "a";unfold alk;intro pd ah;simp only[UJ];have sd:=ji (o:=.dK []) ah;have hd:(upd H pd (.dK [])) pd=some (.dK []):=jd;obtain⟨H1,e1⟩:∃H1,H1=upd H pd (HO.dK []):=⟨_,rfl⟩;rw[<-e1]at sd hd⊢;clear e1;have ab:=hB.same sd;have hC:=Er T hB;obtain⟨dx,hb⟩:=ab.i;walk_at "i";refine rd hb hC.c hC.p (by rfl) (rd hb hC.c hC.b (by rfl) (rd hb hC.c hC.s (by rfl) ⟨q.sales,rfl,⟨_,jh ab.s⟩,?_⟩));refine Kc (f:=λt:Addr×kj=>V.ref t.1) (λσ=>∃a,σ=[a]) (λt=>decide (t.2.lo≠none)) (λ_ t v _=>v=.int (-(t.2.pr - t.2.co))) (jh ab.s) ⟨_,rfl⟩ (by lia) ?_ ?_
  ·rintro Da t ht σ H5 R1 R2 ⟨_,rfl⟩ sm hD hA k1 k2
   have hS:=(ab.frz.s t ht).same sm;obtain⟨dt,hi⟩:=hS.i;walk_at "i";refine rd hi T.fl T.fr (v:=loV t.2.lo) (by rfl) (?_)
   cases e:t.2.lo with
   |none=>
    rw[e]at k2;exact k2 (by decide) _ _ ⟨_,rfl⟩ (same_refl _)
   |some i=>
    rw[e]at k1;exact md hi zg (by rfl) ⟨t.1,t.2,rfl,hS,λH7 s7=>⟨_,rfl,k1 (zH λc=>by cases c) _ _ _ ⟨_,rfl⟩ s7 λ_ _=>rfl⟩⟩
  intro D2 H2 aw bb s2 h2 an;rw[rF.ints an]at h2;rw[ap_rSum];refine⟨_,jh h2,?_⟩;have ac:=ab.same s2;refine rd (s2 _ _ hb) hC.c hC.s (by rfl) ⟨q.sales,rfl,⟨_,jh ac.s⟩,?_⟩;refine Oz (f:=λt:Addr×kj=>V.ref t.1) (λσ=>∃a,σ=[a]) (λ_ t v _=>v=.int t.2.co) (jh ac.s) ⟨_,rfl⟩ (by lia) ?_ ?_
  ·rintro Da t ht σ H5 R ⟨_,rfl⟩ sm hD hA kk
   have hS:=(ac.frz.s t ht).same sm;obtain⟨dt,hi⟩:=hS.i;walk_at "i";exact rd hi T.fl T.fq (by rfl) ⟨t.2.pl,t.2.ps,rfl,hS.p,hS.t,hS.l,λH7 s7=>kk _ _ _ ⟨_,rfl⟩ s7 λ_ _=>rfl⟩
  intro D3 H3 ba bd s3 h3 as;rw[rF.ints as]at h3;rw[ap_rSum];refine⟨_,jh h3,?_⟩;have af:=ac.same s3;have ak:=s2.trans s3;refine rd (ak _ _ hb) hC.c hC.g (by rfl) ⟨q.givs,rfl,⟨_,jh af.g⟩,?_⟩;refine Oz (f:=λt:Addr×Int×Addr×RL=>V.ref t.1) (λσ=>∃a b,σ=[a,b]) (λ_ t v _=>v=.int (cst t.2.2.2)) (jh af.g) ⟨_,_,rfl⟩ (by lia) ?_ ?_
  ·rintro Da t ht σ H5 R ⟨_,_,rfl⟩ sm hD hA kk
   obtain⟨g1,g2,g3⟩:=af.frz.g t ht;walk_at "i";exact⟨_,jE (sm _ _ g1),rfl,_,_,rfl,_,_,rfl,rfl,t.2.2.1,t.2.2.2,rfl,sm _ _ g2,g3.same sm,by have:=aq t ht;lia,λH7 s7=>kk _ _ _ ⟨_,_,rfl⟩ s7 λ_ _=>rfl⟩
  intro D4 H4 ax be s4 h4 ar;rw[rF.ints ar]at h4;rw[ap_rSum];refine⟨_,jh h4,?_⟩;have z:=af.same s4;have ag:=ak.trans s4;refine rd (ag _ _ hb) hC.c hC.r (v:=.ref q.rows) (by rfl) ⟨.inr (.inr (.inl ⟨rfl,.inl ⟨_,z.r⟩⟩)),?_⟩;refine⟨_,_,rfl,rfl,z.r,λv hv=>⟨v,rfl,q.rows,jd,kvR q.rs,(jn (jY z.r hv)).trans z.r,λo=>?_⟩⟩;have h5:(upd (upd H4 v (Ba v q.rows)) q.rows (.frz o (.dK (kvR q.rs)))) q.rows=some (.frz o (.dK (kvR q.rs))):=jd;have o5:∀a o',a≠q.rows->H4 a=some o'->(upd (upd H4 v (Ba v q.rows)) q.rows (.frz o (.dK (kvR q.rs)))) a=some o':=λa o' av h=>(jn av).trans (ji hv _ _ h);generalize upd (upd H4 v (Ba v q.rows)) q.rows (.frz o (.dK (kvR q.rs)))=H5 at h5 o5⊢
  have aj:Mi A H5 q.rs:=λt ht=>⟨o5 _ _ (z.ner (z.frz.l t ht).1 λ_ c=>by cases c) (z.frz.l t ht).1,λl hl=>by
   obtain⟨dy,hy⟩:=(z.frz.l t ht).2 l hl;exact⟨dy,o5 _ _ (z.ner hy λ_ c=>by cases c) hy⟩⟩
  have al:(kvR q.rs).length=q.rs.length:=by unfold kvR;rw[za]
  have hz:q.rs.length<=6:=zS hO.len hW;refine aie (λσ=>∃a,σ=[a]) (λi v _=>∃t,q.rs[i]? =some t/\v=.int (cst t.2.2)) h5 ⟨_,rfl⟩ (by rw[al,zw];lia) ?_ ?_
  ·rintro Da i kv aa σ H6 R ⟨_,rfl⟩ s6 hD hA kk
   obtain ⟨t,am,rfl⟩:∃t,q.rs[i]? =some t/\kv=(Sum.inr t.1,.ref t.2.1):=by
    unfold kvR at aa;rw[zo]at aa
    cases e:q.rs[i]? with
    |none=>rw[e]at aa;cases aa
    |some t=>rw[e]at aa;exact⟨t,rfl,(zy aa).symm⟩
   have ht:=zh am;walk_at "i";exact⟨t.2.1,t.2.2,rfl,s6 _ _ (aj t ht).1,(aj t ht).2.same s6,by have:=(hO.n t ht).2.len;lia,λH7 s7=>kk _ _ _ ⟨_,rfl⟩ s7 λ_ _=>⟨t,am,rfl⟩⟩
  ·intro D5 H7 az bf s7 h7 ap ao
   rw[akM (f:=λt:Str×Addr×RL=>cst t.2.2) (rs:=q.rs) (by rw[ap,al]) ao]at h7;rw[ap_rSum];refine⟨_,jh h7,q.rows,o,kvR q.rs,s7 _ _ h5,λo u e=>?_,?_⟩
   ·have e:H q.rows=some (.frz o u):=e
    rw[hB.r]at e;cases e
   have ad:=alG z.r o5 s7;have ae:=z.same ad;generalize upd H7 q.rows (.dK (kvR q.rs))=H8 at ad ae⊢;refine rd ((ag.trans ad) _ _ hb) hC.c hC.s (by rfl) ⟨q.sales,rfl,⟨_,jh ae.s⟩,?_⟩;refine Oz (f:=λt:Addr×kj=>V.ref t.1) (λσ=>∃a,σ=[a]) (λ_ t v _=>v=.int t.2.pr) (jh ae.s) ⟨_,rfl⟩ (by lia) ?_ ?_
   ·rintro Da t ht σ H5 R ⟨_,rfl⟩ sm hD hA kk
    obtain⟨dt,hi⟩:=((ae.frz.s t ht).same sm).i;walk_at "i";exact rd hi T.fl T.fp (by rfl) (kk _ _ _ ⟨_,rfl⟩ (same_refl _) λ_ _=>rfl)
   intro D9 H9 ay bg s9 h9 au;rw[rF.ints au]at h9;rw[ap_rSum];have ai:=ag.trans (ad.trans s9);refine⟨_,jh h9,ai _ _ hd,Wo q,rfl,(show(7:Nat)<=15 by decide),?_⟩
   have hm:Ma [] (Wo q)=Wo q:=by
    have:=NQ (Wo q) [] (by show([Sum.inr "paid",Sum.inr "brought",Sum.inr "laid",Sum.inr "sold",Sum.inr "given",Sum.inr "left",Sum.inr "proceeds"]:List Key).Nodup;decide+kernel);exact this
   rw[hm];exact k pd _ (λa o h=>(jn (jY h ah)).trans (ai _ _ (sd _ _ h))) ah jd
def ajB{e:Ent}{q:List (Key×V)}(h:vp kvs)(hg:e.good)(hb:e.beh kvs=some q):vp q/\q.length<=kvs.length+1/\∀z,jo q z=aiI (jo kvs) e z:=by
 have key:∀(w:Str)(n:Int),0<=n->vM kvs w n=q->vp q/\q.length<=kvs.length+1/\∀z,jo q z=if z=w then n else jo kvs z:=λw n hn e=>e▸⟨Rb h w n,aaL kvs w n,aiA h w hn⟩;have h0:=h.nn
 cases e with
 |buy d n w p r f=>
  have:=hg.2.1.1;exact key w _ (by have:=h0 w;lia) (zy hb)
 |gift d n w p r f=>
  have:=hg.2.1.1;exact key w _ (by have:=h0 w;lia) (zy hb)
 |part d n w u s t=>exact key u _ (by have:=h0 w;have:=h0 u;lia) (zy hb)
 |sell d n w p r f o=>
  have hb:(if jo kvs w<p then none else some (vM kvs w (jo kvs w - p)))=some q:=hb;split at hb
  ·cases hb
  ·exact key w _ (by lia) (zy hb)
 |give d n w p o=>
  have hb:(if jo kvs w<p then none else some (vM kvs w (jo kvs w - p)))=some q:=hb;split at hb
  ·cases hb
  ·exact key w _ (by lia) (zy hb)
 |split d n w m f=>
  obtain⟨_,⟨hm,_⟩,hf,_⟩:=hg;have hb:(if 0<jo kvs w/\jo kvs w*m/f=0 then none else some (vM kvs w (jo kvs w*m/f)))=some q:=hb;split at hb
  ·cases hb
  ·exact key w _ (zzl (yU (h0 w) (by lia)) (by lia)) (zy hb)
def ajw(e:Ent)(q:V):(e.fs q).lookup (Str.ofString "held_behind")=none:=by cases e<;>rfl
inductive Ds(A:Adr)(vs:List V)(H:Hp)(Q:VK)(E:XK):Prop
 |mk (q:Addr) (es:EL) (W:List Str) (hs:List Ent) (_:vs=[.ref q]) (_:H q=some (.lst (lZ es))) (_:Kh A H es) (_:HB W hs) (_:hs.Pairwise BfE) (_:hs.length<=59) (_:(hs.map Ent.num).Nodup) (_:(es.map (·.2)).Perm hs) (_:∀p kv H',Same H H'->H p=none->H' p=some (.dK kv)->vp kv->kv.length<=59->(∀z,jo kv z=runC hs z)->Q (.ref p) H'):Ds A vs H Q E
def Oc:kI P w K mg base CX0 5 A.aw D.aw ["entries"] (Ds A):=by
 refine T.cz.F.okv oY λ_ _ _ _ H vs Q E hr h=>?_
 ·obtain⟨q,es,W,hs,rfl,hq,hE,hH,hb,hl,hn,ae,k⟩:=h
  refine ⟨_,(jb (jm (i:=1) oY.nd rfl orl vN)
   (jb (oh zR rfl (lM (K:=K) (pcg (Im T) hr T.cp (LK T) (pav 0 jc))) (jk (i:=2) oY.nd rfl orl)
    (jb (jm (i:=3) oY.nd rfl orl (jN (pv 2) (mc T.ey T.f7 (tQ T) hr (uR T) (mc T.eH T.f8 (rT T) hr (tU T) (mc T.eR T.f9 (rn T) hr (uf T) (mc T.eZ T.ga (rP T) hr (tH T) (mc T.e6 T.gb (qM T) hr (su T) (mc T.fd T.gc (pH T) hr (qg T) .nil)))))) jR (pav 1 jc)))
    (jb (kE (jl (Gd) (pvD 3) mR (jx _)) (je (mC)) jC)
    (je (jm (i:=1) oY.nd rfl orl (pvD 3))))))
   (je (jq (pvD 1))))),?_⟩
  simp only[start_eq];walk_at "n";intro ph an;have n1:=ji (o:=.dK []) an;have h1:(upd H ph (.dK [])) ph=some (.dK []):=jd;generalize upd H ph (.dK [])=H1 at n1 h1;have ax:es.length=hs.length:=by have:=ae.length_eq;rwa [za]at this
  (try dsimp only)
  refine lg λu hu=>?_;rw[ap_seq];refine tX λtb au=>?_;rw[ap_for];walk_at "i";refine⟨q,es,rfl,n1 _ _ hq,hE.same n1,by lia,?_,λp aa H2 s2 hp h2 ad aq=>⟨p,rfl,⟨_,jh h2⟩,?_⟩⟩
  ·have:=(ae.map Ent.num).nodup_iff.mpr hn
   rwa [zu]at this
  subst au;have S2:=n1.trans s2;have ah:aa.map (·.2)=hs:=aiS ((ad.map (·.2)).trans ae) aq hb;have aw:Kh A H2 aa:=λr hr=>(hE r (ad.mem_iff.mp hr)).same S2;have hln':aa.length=hs.length:=by rw[<-ah,za]
  refine Eg.listN (K:=K) (a:=p) (xs:=lZ aa) (λi σ Hx=>∃(c:Addr)(kc:List (Key×V))(v2 v3:Option V),σ=[some (.ref q),some (.ref c),v2,v3]/\Same H2 Hx/\Hx c=some (.dK kc)/\H c=none/\vp kc/\kc.length<=i/\∀z,jo kc z=runC (hs.take i) z)
   ⟨ph,[],_,_,rfl,same_refl _,s2 _ _ h1,an,Du,zm _,λ_=>rfl⟩ (λi σ Hx _ ⟨_,_,_,_,_,s,_⟩=>s.seq (jh h2)) ?_ ?_
  ·rintro i y σ H3 hi ⟨c,kc,v2,v3,rfl,s3,hc,al,ac,ai,ab⟩ N hN
   obtain⟨r,ag,rfl⟩:=vq hi;have av:=zh ag;have ay:i<aa.length:=(zk.mp ag).1;have af:hs[i]? =some r.2:=by rw[<-ah,zo,ag];rfl
   have aj:=hH.g r.2 (zh af);have ak:=(aw r av).same s3;obtain⟨dx,nv,hx,ba⟩:=id ak;obtain⟨az,ap,ar⟩:=XJ A r.2;have htk:hs.take (i+1)=hs.take i++[r.2]:=by rw[zK,af];rfl
   have er:jo kc=runC (hs.take i):=funext ab;have am:WD (jo kc) r.2:=er▸hH.f i _ af;walk_at "i";walk_at "n";refine md hx ar (ajw r.2 nv) ⟨r.1,c,r.2,kc,ap,rfl,ak,aj.1,.inl hc,ac,by lia,λhb=>(Yx am hb).elim,λao hb pf H4 s4 as h4=>?_⟩;obtain⟨g1,g2,g3⟩:=ajB ac aj.1 hb;walk_at "n"
   (try dsimp only);walk_at "i"
   exact hN _ _ ⟨pf,ao,_,_,rfl,s3.trans s4,h4,(S2.trans s3).free as,g1,by lia,λz=>by rw[g3 z,er,htk];exact(congrFun (oW _ r.2) z).symm⟩
  ·rintro σ H3 ⟨c,kc,v2,v3,rfl,s3,hc,al,ac,ai,ab⟩
   rw[kY,hln',zX]at ab;rw[kY]at ai;subst hu
   (try dsimp only);walk_at "a"
   exact k c kc H3 (S2.trans s3) al hc ac (by lia) ab
inductive Cg(K:Fg_)(vs:List V)(H:Hp)(Q:VK)(E:XK):Prop
 |mk (c l bs) (_:vs=[.int c,.ref l]) (_:SqL K H l (bs.map V.int)) (_:(∀b∈bs,GX 0 b)) (_:bs.length<=1000) (_:Qy H Q (Us c bs)):Cg K vs H Q E
inductive Ed(vs:List V)(H:Hp)(Q:VK)(E:XK):Prop
 |mk (c k:Int) (_:vs=[.int c,.int k]) (_:0<=k) (_:k<1000) (_:∀r:Int,Q (.int r) H):Ed vs H Q E
inductive DX(K:Fg_)(vs:List V)(H:Hp)(Q:VK)(E:XK):Prop
 |mk (a:Addr) (ns:List Int) (_:vs=[.ref a]) (_:SqL K H a (ns.map V.int)) (_:ns.length<=63) (_:∀p (cs:List Int) H',Same H H'->H p=none->H' p=some (.lst (cs.map V.int))->Q (.ref p) H'):DX K vs H Q E
def uq:kI P w K mg base CX0 1 A.ac D.ac ["_law_cell", "_law_bases"] (Cg K):=by
 refine T.cg.F.okv qd λ_ _ _ _ H vs Q E hr h=>?_
 ·obtain⟨c,l,bs,rfl,hS,hb,hl,k⟩:=h
  refine ⟨_,(jb (jm (i:=2) qd.nd rfl orl (lE jc))
   (jb (oh zR rfl (jP (K:=K) (pv 1)) (jk (i:=3) qd.nd rfl orl)
    (jb (jA (tD (K:=K) zP zV zW mJ (pvD 2) (iY (jw lJ (pvD 0) (pvD 3)) jc)))
    (je (jm (i:=0) qd.nd rfl orl (jw nP (pvD 0) (pvD 3))))))
   (je (jq (pvD 2))))),?_⟩
  walk_at "a";refine⟨zM _,λp hp=>?_⟩
  refine ⟨⟨_,(ji hp).seq hS⟩,qu (K:=K) (a:=l) (xs:=bs.map V.int) (λi σ H2=>∃v,σ=[some (.int (akR c (bs.take i))),some (.ref l),some (.ref p),v]/\Same H H2/\H2 p=some (.lst ((Us c (bs.take i)).map V.int)))
   ⟨none,rfl,ji hp,jd⟩ (λi σ H2 _ ⟨_,_,z,_⟩=>z.seq hS) ?_ ?_⟩
  ·rintro i y σ H2 hi ⟨v,rfl,z,h2⟩
   obtain⟨b,rfl,q⟩:=wg hi;have ab:i<bs.length:=(zk.mp q).1;have aa:GX 0 b:=hb b (zh q);have ht:bs.take (i+1)=bs.take i++[b]:=by rw[zK,q];rfl
   walk_at "a";refine⟨tyL (jh h2),aa.1,_,h2,?_,aa,by rw[ht,Pa],z.upd hp,?_⟩
   ·rw[za,CK,zT]
    exact Qe (by lia)
   ·rw[jd,ht,Rv,zp]
    rfl
  ·rintro σ H2 ⟨v,rfl,z,h2⟩
   rw[za,zX]at h2;walk_at "a";exact k p H2 z hp h2
def MT:kI P w K mg base CX0 1 A.ag D.ag ["_law_cell", "_law_k"] Ed:=by
 refine T.ck.F.okv wF λ_ _ _ _ H vs Q E hr h=>?_
 ·obtain⟨c,z,rfl,k0,k1,k⟩:=h
  refine ⟨_,(jb (jm (i:=2) wF.nd rfl orl (jw lJ (jw nq (jw jZ (jw jZ (pvD 0) (jw nq (jw nq jf (pvD 1)) (pvD 1))) (pvD 1)) jf) jf))
   (jb (jm (i:=3) wF.nd rfl orl (jw lJ (jw nq (pvD 2) jf) jf))
   (je (jq (jw nq (jw nq (pvD 2) (pvD 3)) (jw jZ (jw jZ (jw nP (pvD 2) jf) (jw nP (pvD 3) jf)) jf)))))),?_⟩
  walk_at "a";have q:∀j:Int,0<j->j.natAbs<2^64->∀i,GX i j:=λj h0 h1 i=>⟨h0,aib h1 (by decide)⟩;refine⟨Ri (by decide) (by decide),Ri (by lia) (by lia),JM (by decide) (by decide),by decide,JM (by decide) (by decide),by decide,?_⟩;generalize hn:(c+7919*z*z+z)*982451653%2305843009213693951=n;have n0:0<=n:=by rw[<-hn];exact zZ _ (by decide)
  have n1:n<2305843009213693951:=by rw[<-hn];exact zU _ (by decide)
  generalize ho:n*1000003%1152921504606846883=o;have o0:0<=o:=by rw[<-ho];exact zZ _ (by decide)
  have o1:o<1152921504606846883:=by rw[<-ho];exact zU _ (by decide)
  refine⟨Ri (by lia) (by lia),q _ (by decide) (by decide) _,q _ (by decide) (by decide) _,JM (by lia) (by lia),k _⟩
def ints_of(h:∀(i:Nat) v,acc[i]? =some v->∃r,v=V.int r):∃xs:List Int,acc=xs.map V.int:=by
 refine⟨acc.map toI,?_⟩;rw[zu];refine(NK λv q=>?_).symm;obtain⟨j,hj,z⟩:=z9 q;obtain⟨r,rfl⟩:=h j v (by rw[zq hj,z]);rfl
def Nx:kI P w K mg base CX0 2 A.ah D.ah ["_law_script"] (DX K):=by
 refine T.cl.F.okv Ek λ_ _ _ _ H vs Q E hr h=>?_
 ·obtain⟨a,ns,rfl,hS,hl,k⟩:=h
  refine ⟨_,(jb (kE (PW.pt (xR (jl (Fj) (jy (lX (K:=K)) (by rfl) T.dT (by decide+kernel) (pav 0 jc)) jf (jx _)) (vR (jl (nA) (jw lJ (jL (nQ (K:=K)) (pvD 0) jf (λ_ _=>rfl)) jf) jf (jx _))))) (jb (jm (i:=1) Ek.nd rfl orl (jy (Yq rfl) (by rfl) T.dW (by decide+kernel) (iY (jy (Ah rfl) (by rfl) T.dV (by decide+kernel) (iY (jy (lX (K:=K)) (by rfl) T.dT (by decide+kernel) (pav 0 jc)) (iY jf jc))) (iY (jw jZ jf (jw lJ (jw nP (jL (nQ (K:=K)) (pvD 0) jf (λ_ _=>rfl)) jf) jf)) jc))))
    (je (jq (jW (cap:=[none,some 0]) (N':=["_law_k", "_law_script"]) rfl (by walk_at "c") (YH (by rfl) T.dX (pav 1 jc)) (λ_ _ _ _=>(jk (i:=0) (show(["_law_k", "_law_script"]:List Str).Nodup from by decide+kernel) rfl orl orr)) (λ_ _ _ _=>kh) (λ_ _ _ _=>(pcg (MT T) hr T.ck (PB T) (iY (jL (nQ (K:=K)) (pvD 1) (jw lJ (pvD 0) (jy (lX (K:=K)) (by rfl) T.dT (by decide+kernel) (pav 1 jc))) (λ_ _=>rfl)) (pav 0 jc)))))))) jC)
   (je (jq (jW (cap:=[none]) (N':=["_law_cell"]) rfl (by walk_at "c") (lM (K:=K) (Br (Ec (K:=K)) (pvD 0) Jf (Dd jf))) (λ_ _ _ _=>(jk (i:=0) nd1 rfl orl orr)) (λ_ _ _ _=>kh) (λ_ _ _ _=>(jw lJ (pvD 0) (jw Cm jf jf))))))),?_⟩
  walk_at "a";refine⟨_,.inl hS,?_⟩;rw[za]
  have q:∃ys,SqL K H a ys/\∀p,H p=none->(∃xs,SqL K (upd H p (.lst (Ow ys none (some 63)))) p xs)/\lU [none] (Itl K p) (RX 0) Lw (tOp (rI (λx j=>0<j) λi j=>V.int (i%j)) (tV 0) (tOp (rI anx λi j=>V.int (i^j.toNat)) (tC (V.int 10)) (tC (V.int 60)))) [some (V.ref a),none] (upd H p (.lst (Ow ys none (some 63)))) Q:=by
   refine⟨_,hS,λp hp=>⟨⟨_,jh jd⟩,?_⟩⟩;refine lU.list (xs:=(ns.take 63).map V.int) (λσ=>∃v,σ=[v]) (λ_=>true) (λv=>match v with|.int k=> .int (k%10^60)|_=> .non) (jh ?_) ⟨none,rfl⟩ ?_ ?_ ?_
   ·rw[jd,show(63:Int)=((63:Nat):Int)from rfl,Od,yS]
   ·rw[za,zT,zw];lia
   ·rintro x hx σ H5 R1 R2 ⟨v,rfl⟩ z k1 k2
    obtain⟨c,_,rfl⟩:=zc.mp hx;walk_at "a";refine⟨⟨by decide,by decide,by decide⟩,by decide,k1 rfl _ _ ⟨_,rfl⟩ (same_refl _)⟩
   ·intro Da H' hD z e
    rw[JS,zu]at e;exact k Da ((ns.take 63).map λk=>k%10^60) H' ((ji hp).trans z) ((ji hp).free hD) (by rw[e,zu];rfl)
  by_cases h0:0<ns.length
  ·rw[zi (by lia)]
   have hh:(ns.map V.int)[0]? =some (.int (ns.headD 0)):=by
    cases ns with
    |nil=>simp at h0
    |cons c r=>rfl
   have aa:atI (ns.map V.int) 0=some (.int (ns.headD 0)):=Jp (j:=0) hh;refine⟨_,hS,_,aa,_,rfl,by decide,?_⟩;by_cases h1:ns.headD 0%2=1
   ·rw[zi h1]
    refine⟨_,.inl hS,_,hS,_,aa,_,rfl,⟨by decide,by decide⟩,by decide,?_⟩;rw[za];generalize hm:(if 3+ns.headD 0/2%61>if 63<(ns.length:Int)then 63 else(ns.length:Int)then 3+ns.headD 0/2%61 else if 63<(ns.length:Int)then 63 else(ns.length:Int))=m;have hm:0<=m/\m<=63:=by rw[<-hm];split<;>split<;>lia
    refine⟨by lia,by lia,?_⟩;refine anb (λσ=>∃v,σ=[v,some (.ref a)]) (λi v _=>∃r,v=.int r) ⟨_,rfl⟩ (by rw[zw];lia) ?_ ?_
    ·rintro Da i hi σ H5 R ⟨v,rfl⟩ z hD _ kk
     walk_at "a";have h5:=z.seq hS;refine⟨_,.inl h5,by rw[za];lia,_,h5,?_⟩;rw[za];have e0:=zZ (0+(i:Int)) (show(ns.length:Int)≠0 by lia);have e1:=zU (0+(i:Int)) (show(0:Int)<ns.length by lia);obtain⟨j,hj⟩:∃j:Nat,(0+(i:Int))%(ns.length:Int)=j:=⟨_,(Int.toNat_of_nonneg e0).symm⟩;rw[hj]at e1⊢;have ab:j<ns.length:=by lia
     exact⟨.int ns[j],Jp (by rw[zo,zq ab];rfl),_,_,rfl,by lia,by lia,λr=>kk _ _ H5 ⟨_,rfl⟩ (same_refl _) λ_ _=>⟨r,rfl⟩⟩
    ·intro Da H' acc hD z hA ac hF
     obtain⟨xs,hx⟩:=ints_of hF;exact k Da xs H' z hD (hx▸hA)
   ·rw[zf h1]
    exact q
  ·rw[zf (by lia)]
   exact q
structure akf(ws:List Str):Prop where
 l0:3<=ws.length
 l1:ws.length<=6
 n:∀w∈ws,Nm w
 u:ws.Nodup
inductive Et(K:Fg_)(vs:List V)(H:Hp)(Q:VK)(E:XK):Prop
 |mk (a:Addr) (ns:List Int) (_:vs=[.ref a]) (_:SqL K H a (ns.map V.int)) (_:∀p ws H',Same H H'->H p=none->akf ws->H' p=some (.lst (ws.map V.str))->Q (.ref p) H'):Et K vs H Q E
noncomputable def names:List Str:=["cup", "pot", "zz", "a", "teapots", "b"]
def ais:∀w∈names,Nm w:=by
 unfold Nm;decide+kernel
def Xw:names.Nodup:=by decide+kernel
def Xi(w:Str):5<=(names.filter λx=>x !=w).length:=by
 rw[<-Xw.erase_eq_filter,List.length_erase];split<;>decide
def aii{w:Str}{m:Nat}(z:Nm w)(h0:2<=m)(h1:m<=5):akf (w::((names.filter λx=>x !=w).take m)):=by
 have hl:=Xi w;refine⟨?_,?_,?_,?_⟩
 ·rw[zG,zT];lia
 ·rw[zG,zT];lia
 ·intro v q
  rcases zx.mp q with rfl|q
  ·exact z
  ·exact ais v (yj.mp (yZ q)).1
 ·rw[zN]
  refine⟨λhm=>?_,((yyc _ _).trans List.filter_sublist).nodup Xw⟩;have:=(yj.mp (yZ hm)).2;simp at this
theorem aji:∀(k:Nat)(c:Int),∀d∈Us c (List.replicate k 26),0<=d/\d<26
 |0,_,d,h=>by cases h
 |k+1,c,d,h=>by
  rw[yD]at h;rcases zx.mp h with rfl|h
  ·exact⟨zZ _ (by decide),zU _ (by decide)⟩
  ·exact aji k _ d h
def WM:(Str.ofString "abcdefghijklmnopqrstuvwxyz").cps.toList=(List.range 26).map λi=>97+i:=by decide+kernel
def Zc{d:Int}(q:0<=d)(h1:d<26):atI (Str.ofString "abcdefghijklmnopqrstuvwxyz").cps.toList d=some (97+d.toNat):=by
 rw[WM,show d=((d.toNat:Nat):Int) by lia];refine Jp ?_;rw[zo,zz2 (by lia),yyd];rfl
def Ph(z:Str)(c:Nat):(z++(⟨#[c]⟩:Str)).length=z.length+1:=by
 show(z.cps++ #[c]).size=z.cps.size+1;simp
def Rj(z:Str)(c x:Nat)(h:x∈(z++(⟨#[c]⟩:Str)).cps.toList):x∈z.cps.toList\/x=c:=by
 have h:x∈(z.cps++ #[c]).toList:=h
 simpa using h
def Vx(z:Str):((names.map V.str).filter λv=>!decide (v=.str z)).map id=(names.filter λx=>x !=z).map V.str:=by
 rw[yyt,List.filter_map];refine congrArg _ (List.filter_congr λx _=>?_);show(!decide (V.str x=V.str z))=(x !=z);by_cases h:x=z
 ·subst h;simp
 ·simp[h]
def Oj:kI P w K mg base CX0 2 A.ae D.ae ["_law_script"] (Et K):=by
 refine T.ci.F.okv oU λ_ _ _ _ H vs Q E hr h=>?_
 ·obtain⟨a,ns,rfl,hS,k⟩:=h
  refine ⟨_,(jb (jm (i:=1) oU.nd rfl orr jB)
   (jb (oh zR rfl (lM (K:=K) (Br (Ec (K:=K)) (pcg (uq T) hr T.cg (vX T) (iY (jw nP (pcg (lQ T) hr T.ch (lY T) (pav 0 (iY jf jc))) jf) (iY (jw alN (lE (iY jf jc)) jf) jc))) Jf (Dd (jw jZ jf (jw lJ (pcg (lQ T) hr T.ch (lY T) (pav 0 (iY jf jc))) jf))))) (jk (i:=2) oU.nd rfl orl)
    (je (jm (i:=1) oU.nd rfl orr (jw Ws (pvD 1) (jL alv jB (pvD 2) (λ_ _=>rfl))))))
   (jb (jm (i:=3) oU.nd rfl orl (jL (nQ (K:=K)) (lE (iY jf (iY jf jc))) (mZ YC (by rfl) T.dU (by decide+kernel) (iY (uP (nA) (jw lJ (jw nP (pcg (lQ T) hr T.ch (lY T) (pav 0 (iY jf jc))) jf) jf) jf (jx _)) jc)) (λ_ _=>rfl)))
   (je (jq (jw Xv (lE (pav 1 jc)) (Br (Ec (K:=K)) (jW (cap:=[none,some 1]) (N':=["_law_name", "_law_word"]) rfl (by walk_at "c") (lM (K:=K) (lE (iY jB (iY jB (iY jB (iY jB (iY jB (iY jB jc)))))))) (λ_ _ _ _=>(jk (i:=0) (show(["_law_name", "_law_word"]:List Str).Nodup from by decide+kernel) rfl orl orr)) (λ_ _ _ _=>(ul (jl (Yo) (pvD 0) (pvD 1) (jx _)))) (λ_ _ _ _=>(pvD 0))) Jf (Dd (pvD 3))))))))),?_⟩
  simp only[start_eq];walk_at "l";rw[ap_seq,ap_for];walk_at "i";obtain⟨c,hc⟩:∃c,c=ns.getD 1 0:=⟨_,rfl⟩;refine⟨a,ns,1,rfl,hS,_,rfl,⟨by decide,by decide⟩,sz,λp1 an=>?_⟩;have s1:=ji (o:=.lst [V.int 26]) an;rw[ajL];refine⟨_,jd,by decide,by decide,sz,λp2 al=>?_⟩;have s2:=s1.trans (ji (o:=.lst (List.replicate (8:Int).toNat [V.int 26]).flatten) al);refine⟨_,p2,List.replicate 8 26,rfl,jh (by rw[jd];rfl),λb hb=>by rw[(List.mem_replicate.mp hb).2];exact⟨by decide,by decide⟩,by rw[zzN];decide,λp3 H3 s3 aq h3=>?_⟩;have s3:=s2.trans s3;refine⟨a,ns,1,rfl,s3.seq hS,_,rfl,by decide,p3,rfl,_,jh h3,λp4 ak=>⟨⟨_,jh jd⟩,?_⟩⟩;rw[<-hc];have ah:H p4=none:=s3.free ak;have ar:=zZ c (show(8:Int)≠0 by decide);have au:=zU c (show(0:Int)<8 by decide);obtain⟨n,hn⟩:∃n:Nat,(n:Int)=1+c%8:=⟨(1+c%8).toNat,by lia⟩;rw[<-hn,Od,<-yS];have hd:∀d∈(Us (c/8) (List.replicate 8 26)).take n,0<=d/\d<26:=λd h=>aji _ _ d (yZ h);have af:((Us (c/8) (List.replicate 8 26)).take n).length=n:=by rw[zT,CK,zzN];lia
  generalize(Us (c/8) (List.replicate 8 26)).take n=ds at hd af
  refine qu (K:=K) (a:=p4) (xs:=ds.map V.int) (λi σ H2=>∃z v2 v3,σ=[some (.ref a),some (.str z),v2,v3]/\Same H H2/\H2 p4=some (.lst (ds.map V.int))/\z.length=i/\∀x∈z.cps.toList,97<=x/\x<=122)
   ⟨_,none,none,rfl,s3.upd ah,jd,by decide+kernel,by decide+kernel⟩ (λi σ H2 _ ⟨_,_,_,_,_,h4,_⟩=>jh h4) ?_ ?_
  ·rintro i y σ H2 hi ⟨z,v2,v3,rfl,sm,h4,hz,hl⟩
   obtain⟨d,rfl,ac⟩:=wg hi;have as:i<ds.length:=(zk.mp ac).1;obtain⟨d0,d1⟩:=hd d (zh ac);walk_at "a";refine⟨by decide+kernel,_,Zc d0 d1,?_⟩;refine⟨by rw[zw];show z.length+1<=_;lia,sm,h4,by rw[Ph,hz],λx hx=>?_⟩;rcases Rj _ _ _ hx with h|h
   ·exact hl x h
   ·lia
  ·rintro σ H2 ⟨z,v2,v3,rfl,sm,h4,hz,hl⟩
   rw[za,af]at hz;have hN:Nm z:=⟨by lia,by lia,hl⟩
   try dsimp only
   walk_at "l";refine⟨sz,λq1 aj=>?_⟩;have t1:Same H (upd H2 q1 (.lst [V.int 2,V.int 5])):=sm.trans (ji aj)
   obtain ⟨m,am,ao,ai⟩:∃m:Nat,2<=m/\m<=5/\atI [V.int 2,V.int 5] (if ns.getD 0 0/122%8=3 then 1 else 0)=some (.int m):=by
    split
    ·exact⟨5,by decide,by decide,rfl⟩
    ·exact⟨2,by decide,by decide,rfl⟩
   refine⟨a,ns,0,rfl,t1.seq hS,_,rfl,⟨by decide,by decide⟩,by decide,.inr ?_⟩;refine⟨_,jh jd,_,ai,sz,λq2 ap=>⟨sz,λq3 ag=>⟨⟨_,jh jd⟩,?_⟩⟩⟩;obtain⟨H4,aa⟩:∃H4,H4=upd (upd H2 q1 (.lst [V.int 2,V.int 5])) q2 (.lst [V.str z]):=⟨_,rfl⟩;rw[<-aa]at ag⊢;have t2:Same H H4:=aa▸t1.trans (ji ap);have hq2':H4 q2=some (.lst [V.str z]):=by rw[aa,jd]
   have t3:Same H4 (upd H4 q3 (.lst (names.map V.str))):=ji ag;refine lU.list (xs:=names.map V.str) (λσ=>∃v,σ=[v,some (.str z)]) (λv=>!decide (v=.str z)) id (jh jd) ⟨none,rfl⟩ (by rw[za,zw];decide) ?_ ?_
   ·rintro x hx σ H5 R1 R2 ⟨v,rfl⟩ ab k1 k2
    obtain⟨w',_,rfl⟩:=zc.mp hx;walk_at "a";by_cases hw:w'=z
    ·rw[zf (λh=>h hw)]
     exact k2 (by simp[hw]) _ _ ⟨_,rfl⟩ (same_refl _)
    ·rw[zi hw]
     exact k1 (by simp[hw]) _ _ ⟨_,rfl⟩ (same_refl _)
   ·intro Da H' hD ab e
    rw[Vx]at e;refine⟨m,rfl,Da,rfl,_,jh e,λq4 ad=>?_⟩;rw[Od,<-yS];have q:H' q2=some (.lst [V.str z]):=ab _ _ (t3 _ _ hq2');refine⟨[V.str z],by rw[jn (λh=>by rw[h,ad]at q;cases q)];exact q,_,jd,?_,λq5 ae=>?_⟩
    ·rw[zw,za,zT]
     show 1+_<=_;lia
    ·have t4:=(t2.trans t3).trans (ab.trans (ji (o:=.lst (((names.filter λx=>x !=z).take m).map V.str)) ad))
     exact k q5 (z::((names.filter λx=>x !=z).take m)) _ (t4.upd (t4.free ae)) (t4.free ae) (aii hN am ao) jd
local macro_rules | `(tactic| walk_at "nxi") => `(tactic| ((try dsimp only); refine lg fun u hu => ?_; rw [ap_seq]; refine akH fun v w hv hw => ?_; walk_at "i"; subst hv hw hu))
def ajj{x a b d:Int}(hx:σ[j]? =some (some (.int x)))(hs:σ[i]? =some (some (.int s)))(z:0<=s/\s<4)(ha:Rg 1 1000 a)(hb:Rg 1 1000 b)(hc:Rg 1 1000 c)(hd:Rg 1 1000 d)(k:∀v H',Same H H'->Rg 1 1000 v->Q (.int v) H'):
  tOp (rI0 λi j=>V.int (i+j)) (tC (V.int 1)) (tOp (rI (λ_ j=>0<j) λi j=>V.int (i%j)) (tV j) (tOp (akP K) (alV (ql (tC (V.int a)) (ql (tC (V.int b)) (ql (tC (V.int c)) (ql (tC (V.int d)) Vw))))) (tV i))) σ H Q:=by
 obtain⟨m,hm,bm⟩:=at4 z.1 z.2 ha hb hc hd;simp only[L2.ap_op,L2.av_V,L2.atV_iff,L2.ap_c];refine⟨_,hx,?_⟩;rw[ap_lst];simp only[L2.ap_cons,L2.ap_c,L2.ap_nil];refine⟨by rw[zw];show 4<=_;decide,λq hq=>⟨_,hs,?_⟩⟩;unfold Rg at bm;have g0:=zZ x (show m≠0 by lia);have g1:=zU x (show 0<m by lia);exact⟨q,_,s,_,rfl,rfl,jh jd,hm,x,m,rfl,rfl,by lia,1,x%m,rfl,rfl,k _ _ (ji hq) ⟨by lia,by lia⟩⟩
inductive Eb(K:Fg_)(vs:List V)(H:Hp)(Q:VK)(E:XK):Prop
 |mk (c d n:Int) (wa hd:Addr) (ws:List Str) (kvs:List (Key×V)) (_:vs=[.int c,.int d,.int n,.ref wa,.ref hd]) (_:H wa=some (.lst (ws.map V.str))) (_:akf ws) (_:H hd=some (.dK kvs)) (_:(∀w:Str,∃i:Int,0<=i/\(oM kvs (Sum.inr w)).getD (.int 0)=.int i)) (_:Rg 0 1000000 d) (_:Rg 0 1000000 n) (_:∀(t:Addr)(e:Ent)(H':Hp),Same H H'->H t=none->H' t=some (.tup (.str e.word::e.args .non))->e.good->e.lots=none->e.day=d->e.num=n->e.ware∈ws/\e.oth∈ws->Q (.ref t) H'):Eb K vs H Q E
def Oq:kI P w K mg base CX0 2 A.af D.af ["_law_cell", "_law_day", "_law_number", "_law_wares_here", "_law_held"] (Eb K):=by
 refine T.cj.F.okv jM λ_ _ _ _ H vs Q E hr h=>?_
 ·obtain⟨c,d,n,wa,hd,ws,kvs,rfl,aa,hW,ad,hv,ag,ah,k⟩:=h
  refine ⟨_,(jb (aiK (pcg (uq T) hr T.cg (vX T) (pav 0 (iY (lE (iY jf (iY jf (iY jf (iY (jw Cm jf jf) (iY (jw jZ (jw Cm jf jf) jf) (iY (jw jZ (jw Cm jf jf) jf) jc))))))) jc))) (Xr (K:=K) (n:=6) rfl (jG (jk (i:=5) jM.nd rfl orl) (jG (jk (i:=6) jM.nd rfl orl) (jG (jk (i:=7) jM.nd rfl orl) (jG (jk (i:=8) jM.nd rfl orl) (jG (jk (i:=9) jM.nd rfl orl) (jG (jk (i:=10) jM.nd rfl orl) oF))))))))
   (jb (jm (i:=11) jM.nd rfl orl (jy (lX (K:=K)) (by rfl) T.dT (by decide+kernel) (pav 3 jc)))
   (jb (jm (i:=12) jM.nd rfl orl (jL (nQ (K:=K)) (pvD 3) (jw lJ (pvD 6) (pvD 11)) (λ_ _=>rfl)))
   (jb (jm (i:=13) jM.nd rfl orl (sX (oK hr) (pvD 4) (pvD 12) jf ⟨rfl,rfl,rfl,rfl⟩))
   (jb (jm (i:=8) jM.nd rfl orl (jw jZ (jL (nQ (K:=K)) (lE (iY (jw lJ (pvD 8) jf) (iY (jw lJ (pvD 8) jf) (iY (jw lJ (pvD 8) jf) (pav 8 jc))))) (pvD 7) (λ_ _=>rfl)) jf))
   (jb (jm (i:=9) jM.nd rfl orl (jL (nQ (K:=K)) (lE (iY (jw lJ (pvD 9) jf) (iY (jw lJ (pvD 9) jf) (pav 9 jc)))) (jw lJ (pvD 8) jf) (λ_ _=>rfl)))
   (jb (jm (i:=10) jM.nd rfl orl (jL (nQ (K:=K)) (lE (iY jf (iY (jw lJ (pvD 10) jf) (pav 10 jc)))) (jw lJ (jw nP (pvD 8) jf) jf) (λ_ _=>rfl)))
   (jb (kE (PW.pt (xR (jl (Fj) (pvD 5) jf (jx _)) (xR (jl (Dr) (pvD 5) jf (jx _)) (vR (jl (Fj) (pvD 13) jf (jx _)))))) (je (jm (i:=8) jM.nd rfl orl (jw jZ jf (jw lJ (pvD 8) (jy (Ah rfl) (by rfl) T.dV (by decide+kernel) (pav 13 (iY (jw Cm jf jf) jc))))))) jC)
   (jb (kE (jl (nA) (pvD 5) jf (jx _)) (jb (jm (i:=14) jM.nd rfl orl (jw jZ (jw lJ (pvD 10) (jw Cm jf jf)) jf))
    (jb (jm (i:=15) jM.nd rfl orl (jL (nQ (K:=K)) (pvD 3) (jw lJ (jw jZ (jw jZ (jw lJ (pvD 6) (pvD 11)) jf) (jw lJ (pvD 7) (jw pq (pvD 11) jf))) (pvD 11)) (λ_ _=>rfl)))
    (je (jq (nM (iY jB (pav 1 (pav 2 (pav 12 (pav 15 (iY (jw lJ (pvD 9) (jw jZ (pvD 14) jf)) (pav 14 jc)))))))))))) jC)
   (jb (kE (jl (Fj) (pvD 5) jf (jx _)) (je (jq (nM (iY jB (pav 1 (pav 2 (pav 12 (iY (jw jZ jf (jw lJ (pvD 9) (jL (nQ (K:=K)) (lE (iY jf (iY jf (iY jf (iY jf jc))))) (pvD 7) (λ_ _=>rfl)))) (iY (jw jZ jf (jw lJ (pvD 10) (jL (nQ (K:=K)) (lE (iY jf (iY jf (iY jf (iY jf jc))))) (pvD 7) (λ_ _=>rfl)))) jc))))))))) jC)
   (jb (kE (jl (nA) (pvD 5) jf (jx _)) (je (jq (nM (iY jB (pav 1 (pav 2 (pav 12 (pav 8 (iY (jw nq (pvD 9) (pvD 10)) (iY (jw pq (pvD 1) (jw lJ (pvD 10) (jw jZ (pvD 1) jf))) jc)))))))))) jC)
   (jb (kE (PW.pt (GP (jl (Dr) (pvD 5) jf (jx _)) (BV (jl (nA) (pvD 13) jf (jx _))))) (je (jq (nM (iY jB (pav 1 (pav 2 (pav 12 (pav 8 (pav 9 (pav 10 jc)))))))))) jC)
   (jb (kE (jl (Dr) (pvD 5) jf (jx _)) (je (jq (nM (iY jB (pav 1 (pav 2 (pav 12 (pav 8 (pav 9 (pav 10 (iY mR jc))))))))))) jC)
   (je (jq (nM (iY jB (pav 1 (pav 2 (pav 12 (pav 8 (iY mR jc)))))))))))))))))))))),?_⟩
  simp only[start_eq];walk_at "n";refine⟨⟨by decide,by decide,by decide⟩,⟨by decide,by decide,by decide⟩,⟨by decide,by decide,by decide⟩,sz,λp1 bn=>?_⟩;have s1:=ji (o:=.lst [V.int 16,V.int 6,V.int 4,V.int (10^(9:Int).toNat),V.int (10^(9:Int).toNat+1),V.int (10^(9:Int).toNat+1)]) bn;refine⟨c,p1,[16,6,4,1000000000,1000000001,1000000001],rfl,jh (by rw[jd];rfl),by unfold GX;decide,by decide,λp2 H2 s2 b4 h2=>?_⟩;have s2:=s1.trans s2
  obtain ⟨kd,ix,si,pc,pr,ex,bc,b0,bg,bsz,au,al,am⟩:∃kd ix si pc pr ex:Int,Us c [16,6,4,1000000000,1000000001,1000000001]=[kd,ix,si,pc,pr,ex]/\Rg 0 15 kd/\Rg 0 5 ix/\Rg 0 3 si/\Rg 0 999999999 pc/\Rg 0 1000000000 pr/\Rg 0 1000000000 ex:=
   ⟨_,_,_,_,_,_,rfl,wM (by decide) (by decide) (by decide),wM (by decide) (by decide) (by decide),wM (by decide) (by decide) (by decide),wM (by decide) (by decide) (by decide),wM (by decide) (by decide) (by decide),wM (by decide) (by decide) (by decide)⟩
  rw[bc]at h2;refine⟨p2,rfl,_,jh h2,rfl,_,_,rfl,_,_,rfl,_,_,rfl,_,_,rfl,_,_,rfl,_,_,rfl,rfl,?_⟩;have aa:=s2 _ _ aa;have ad:=s2 _ _ ad;walk_at "n";refine⟨_,.inl (jh aa),?_⟩;rw[za];have b6:=hW.l0;have b7:=hW.l1;unfold Rg at b0 bg bsz au al am ag ah;have aq:=zZ ix (show(ws.length:Int)≠0 by lia);have as:=zU ix (show(0:Int)<ws.length by lia);obtain⟨w,bb,q⟩:=YX aq as;have bj:Nm w:=hW.n w (zh q);walk_at "n";refine⟨by lia,_,jh aa,_,bb,?_⟩;obtain⟨th,b3,bz⟩:=hv w;walk_at "n";refine⟨.inl ⟨kvs,.inl ad⟩,_,Za (k:=Sum.inr w) ad,?_⟩;rw[bz];walk_at "n";refine⟨by decide,by decide,by decide,sz,λq1 aw=>?_⟩;obtain⟨p0,bd,bw⟩:=at4 (a:=pc%4) (b:=pc%50) (c:=pc%3000) (d:=pc) (lo:=0) (hi:=999999999) bsz.1 (by lia) (wM (by decide) (by decide) (by decide)) (wM (by decide) (by decide) (by decide)) (wM (by decide) (by decide) (by decide)) au;refine⟨_,jh jd,_,bd,_,rfl,?_⟩;generalize av:upd H2 q1 _=H3;have s3:Same H2 H3:=av▸ji aw;obtain⟨p,hp⟩:∃p,p=p0+1:=⟨_,rfl⟩;rw[<-hp];have bp:Rg 1 1000000000 p:=by unfold Rg at bw⊢;lia
  walk_at "n";obtain⟨r,az,br⟩:=at3 (i:=p%3) (a:=pr%9) (b:=pr%500) (c:=pr) (lo:=0) (hi:=1000000000) (zZ _ (by decide)) (zU _ (by decide)) (wM (by decide) (by decide) (by decide)) (wM (by decide) (by decide) (by decide)) al;refine⟨by decide,by decide,sz,λq2 bh=>⟨by decide,_,jh jd,_,az,?_⟩⟩;generalize bt:upd H3 q2 _=H4;have s4:Same H3 H4:=bt▸ji bh;walk_at "n";obtain⟨f,ba,bf⟩:=at3 (i:=p/3%3) (a:=0) (b:=ex%30) (c:=ex) (lo:=0) (hi:=1000000000) (zZ _ (by decide)) (zU _ (by decide)) ⟨by decide,by decide⟩ (wM (by decide) (by decide) (by decide)) am;refine⟨by decide,sz,λq3 bm=>⟨⟨by decide,by decide⟩,by decide,_,jh jd,_,ba,?_⟩⟩;generalize bl:upd H4 q3 _=H5;have s5:Same H4 H5:=bl▸ji bm;have sH:Same H H5:=s2.trans (s3.trans (s4.trans s5));have aa:H5 wa=some (.lst (ws.map V.str)):=s5 _ _ (s4 _ _ (s3 _ _ aa));refine Nh (λσ H'=>H'=H5/\∃p',Rg 1 1000000000 p'/\σ=[some (.int c),some (.int d),some (.int n),some (.ref wa),some (.ref hd),some (.int kd),some (.int ix),some (.int si),some (.int p'),some (.int r),some (.int f),some (.int ws.length),some (.str w),some (.int th),none,none]) ?_ ?_
  rotate_left
  ·intro N hN
   walk_at "i";have ab:N [some (.int c),some (.int d),some (.int n),some (.ref wa),some (.ref hd),some (.int kd),some (.int ix),some (.int si),some (.int p),some (.int r),some (.int f),some (.int ws.length),some (.str w),some (.int th),none,none] H5:=hN _ _ ⟨rfl,p,bp,rfl⟩;split
   ·split
    ·split
     ·refine⟨⟨by decide,by decide,by decide⟩,?_,hN _ _ ⟨rfl,_,?_,rfl⟩⟩
      ·split
       ·decide
       ·assumption
      ·rw[e9]
       split
       ·unfold Rg
        have h1:=zZ p (show(1000000000:Int)≠0 by decide);have h2:=zU p (show(0:Int)<1000000000 by decide);lia
       ·unfold Rg
        have h1:=zZ p (show th≠0 by lia);have h2:=zU p (show 0<th by lia);lia
     ·exact ab
    ·exact ab
   ·exact ab
  ·rintro σ' H' ⟨rfl,p',ar,rfl⟩
   have bB:Base d n w:=⟨ag.1,ag.2,ah.1,ah.2,bj⟩;have bo:Rg 0 1000000000000000000 (r*f):=UG br bf;have ac:=ar;have ao:=br;have ak:=bf;unfold Rg at ar br bf;walk_at "nxi";by_cases an:kd=15
   ·rw[zi an]
    walk_at "n";refine⟨⟨by decide,by decide,by decide⟩,by decide,?_⟩;rw[e6];obtain⟨wh,bk⟩:∃wh,wh=f%1000000+1:=⟨_,rfl⟩
    have ae:Rg 1 1000000 wh:=by
     have h1:=zZ f (show(1000000:Int)≠0 by decide);have h2:=zU f (show(0:Int)<1000000 by decide);unfold Rg;lia
    rw[<-bk];have ax:=zZ si (show(ws.length:Int) - 1≠0 by lia);have bv:=zU si (show(0:Int)<(ws.length:Int) - 1 by lia);have bu:=zZ (ix%ws.length+1+si%((ws.length:Int) - 1)) (show(ws.length:Int)≠0 by lia);have bi:=zU (ix%ws.length+1+si%((ws.length:Int) - 1)) (show(0:Int)<ws.length by lia);have b8:=aaM aq as ax bv;obtain⟨u,bs,ai⟩:=YX bu bi;have ay:u≠w:=akd hW.u ai q (by lia);walk_at "n";refine⟨by lia,by lia,by lia,_,jh aa,_,bs,?_⟩;have be:=zZ r (show wh+1≠0 by unfold Rg at ae;lia);have b5:=zU r (show 0<wh+1 by unfold Rg at ae;lia);rw[ap_ret];(try dsimp only);walk_at "i";refine⟨by unfold Rg at ae;lia,sz,λt z=>?_⟩;exact k t (.part d n w u (r%(wh+1)) wh) _ (sH.upd (sH.free z)) (sH.free z) jd ⟨bB,hW.n u (zh ai),ay,ae,⟨be,by lia⟩⟩ rfl rfl rfl ⟨zh q,zh ai⟩
   rw[zf an,ap_next];walk_at "nxi";by_cases aj:kd>11
   ·rw[zi aj]
    rw[ap_ret];generalize h5:tOp (rI0 λi j=>V.int (i+j)) (tC (V.int 1)) (tOp (rI (λ_ j=>0<j) λi j=>V.int (i%j)) (tV 9) (tOp (akP K) (alV (ql (tC (V.int 3)) (ql (tC (V.int 3)) (ql (tC (V.int 10)) (ql (tC (V.int 1000)) Vw))))) (tV 7)))=e5;generalize h6:tOp (rI0 λi j=>V.int (i+j)) (tC (V.int 1)) (tOp (rI (λ_ j=>0<j) λi j=>V.int (i%j)) (tV 10) (tOp (akP K) (alV (ql (tC (V.int 3)) (ql (tC (V.int 5)) (ql (tC (V.int 10)) (ql (tC (V.int 1000)) Vw))))) (tV 7)))=e6
    (try dsimp only);walk_at "i"
    have R3:∀x:Int,1<=x->x<=1000->Rg 1 1000 x:=λx a b=>⟨a,b⟩;rw[<-h5];refine ajj rfl rfl ⟨bsz.1,by lia⟩ (R3 _ (by decide) (by decide)) (R3 _ (by decide) (by decide)) (R3 _ (by decide) (by decide)) (R3 _ (by decide) (by decide)) λv1 H1 bx b1=>?_;rw[<-h6];refine ajj rfl rfl ⟨bsz.1,by lia⟩ (R3 _ (by decide) (by decide)) (R3 _ (by decide) (by decide)) (R3 _ (by decide) (by decide)) (R3 _ (by decide) (by decide)) λv2 H2' bq b2=>⟨sz,λt z=>?_⟩;have af:=sH.trans (bx.trans bq);exact k t (.split d n w v1 v2) _ (af.upd (af.free z)) (af.free z) jd ⟨bB,b1,b2⟩ rfl rfl rfl ⟨zh q,zh q⟩
   rw[zf aj,ap_next];walk_at "nxi";by_cases h6:kd=6
   ·rw[zi h6]
    have g0:=zZ f (show d+1≠0 by lia);have g1:=zU f (show 0<d+1 by lia);rw[ap_ret];(try dsimp only);walk_at "i";refine⟨Ri (by lia) (by lia),by lia,sz,λt z=>?_⟩;exact k t (.gift d n w p' (r*f) (d - f%(d+1))) _ (sH.upd (sH.free z)) (sH.free z) jd ⟨bB,ac,bo,⟨by lia,by lia⟩⟩ rfl rfl rfl ⟨zh q,zh q⟩
   rw[zf h6,ap_next];walk_at "nxi"
   have ap:(7:Nat)<=sizeLine/\∀t,H' t=none->Q (.ref t) (upd H' t (.tup [V.str (Str.ofString "buy"),V.int d,V.int n,V.str w,V.int p',V.int r,V.int f])):=
    ⟨sz,λt z=>k t (.buy d n w p' r f) _ (sH.upd (sH.free z)) (sH.free z) jd ⟨bB,ac,ao,ak⟩ rfl rfl rfl ⟨zh q,zh q⟩⟩
   by_cases h7:kd<6
   ·rw[zi h7]
    rw[ap_ret];(try dsimp only);walk_at "i";exact ap
   rw[zf h7];by_cases h8:th=0
   ·rw[zi h8]
    rw[ap_ret];(try dsimp only);walk_at "i";exact ap
   rw[zf h8,ap_next];walk_at "nxi";by_cases h9:kd<10
   ·rw[zi h9]
    rw[ap_ret];(try dsimp only);walk_at "i";refine⟨sz,λt z=>?_⟩;exact k t (.sell d n w p' r f none) _ (sH.upd (sH.free z)) (sH.free z) jd ⟨bB,ac,ao,ak,trivial⟩ rfl rfl rfl ⟨zh q,zh q⟩
   rw[zf h9,ap_next]
   try dsimp only
   rw[ap_ret];(try dsimp only);walk_at "i";refine⟨sz,λt z=>?_⟩;exact k t (.give d n w p' none) _ (sH.upd (sH.free z)) (sH.free z) jd ⟨bB,ac,trivial⟩ rfl rfl rfl ⟨zh q,zh q⟩
def Uk(h:vp kvs)(z:Str){n:Int}(hn:1<=n):vp (putK kvs (Sum.inr z) (.int n)):=by
 refine⟨λkv q=>?_,xO h.u⟩;rcases JT q with rfl|h1
 ·exact⟨z,n,rfl,hn⟩
 ·exact h.k kv h1
def aai(kvs:List (Key×V))(z:Str)(n:Int)(y:Str):jo (putK kvs (Sum.inr z) (.int n)) y=if y=z then n else jo kvs y:=by
 unfold jo;rw[Hr];by_cases e:y=z
 ·rw[zi e,zi (by rw[e])]
 ·rw[zf e,zf (λq=>e (yF q))]
theorem Uh:∀(kvs:List (Key×V))(k j:Key),oM (Eo kvs k) j=if j=k then none else oM kvs j
 |[],k,j=>by split<;>rfl
 |p::kvs,k,j=>by
  have ih:=Uh kvs k j;unfold Eo at ih⊢;by_cases e:p.1=k
  ·rw[z6 (by simp[e]),ih]
   by_cases q:j=k
   ·rw[zi q,zi q]
   ·rw[zf q,zf q,lq (λz=>q (z.symm.trans e))]
  ·rw[z5 (by simp[e])]
   by_cases q:p.1=j
   ·rw[lG q,lG q,zf (λz=>e (q.trans z))]
   ·rw[lq q,lq q,ih]
def Yh(h:vp kvs)(z:Str)(n:Int):vp (Eo (putK kvs (Sum.inr z) (.int n)) (Sum.inr z)):=by
 refine⟨λkv q=>?_,yV (List.filter_sublist.map _) (xO h.u)⟩;obtain⟨h1,h2⟩:=yj.mp q;rcases JT h1 with rfl|h1
 ·simp at h2
 ·exact h.k kv h1
def air(kvs:List (Key×V))(z:Str)(n:Int)(y:Str):jo (Eo (putK kvs (Sum.inr z) (.int n)) (Sum.inr z)) y=if y=z then 0 else jo kvs y:=by
 unfold jo;rw[Uh,Hr];by_cases e:y=z
 ·rw[zi e,zi (by rw[e])]
 ·rw[zf e,zf (λq=>e (yF q)),zf (λq=>e (yF q))]
def aaC(kvs:List (Key×V))(k:Key):(Eo kvs k).length<=kvs.length:=UL kvs k
def MF{D:Ends}(P:L2.St->Hp->Prop)(k:∀q H',P q H'->u D q H')(h:∀N:L2.St->Hp->Prop,(∀q H',P q H'->N q H')->t {D with nx:=N} σ H):aar t u D σ H:=h (u D) k
noncomputable def Ent.pc1:Ent->Int->Int
 |.buy _ _ _ p _ _,h=>h+p
 |.gift _ _ _ p _ _,h=>h+p
 |_,h=>h
noncomputable def Ent.pc2:Ent->Int->Int
 |.sell _ _ _ p _ _ _,h=>h - p
 |.give _ _ _ p _,h=>h - p
 |e,h=>e.pc1 h
noncomputable def Ent.pc3:Ent->Int->Int
 |.split _ _ _ m f,h=>h*m/f
 |e,h=>e.pc2 h
noncomputable def Ent.mid:Ent->List (Key×V)->List (Key×V)
 |.part _ _ w u _ _,kvs=>if 0<jo kvs w then putK kvs (Sum.inr u) (.int (jo kvs u+jo kvs w))else kvs
 |_,kvs=>kvs
def ahZ{e:Ent}(h:vp kvs):vp (e.mid kvs):=by
 cases e with
 |part d n w u s t=>
  show vp (if _ then _ else _);split
  ·exact Uk h u (by have:=h.nn u;lia)
  ·exact h
 |_=>exact h
def ajy(e:Ent)(kvs:List (Key×V)):(e.mid kvs).length<=kvs.length+1:=by
 cases e with
 |part d n w u s t=>
  show(if _ then _ else _:List (Key×V)).length<=_;split
  ·exact Nj _ _ _
  ·lia
 |_=>exact yt _
def alP{e:Ent}(hg:e.good)(c:0<=e.pc3 (jo kvs e.ware))(h0:0<=jo kvs e.ware)(q:e.word= "split" ->¬(e.pc3 (jo kvs e.ware)=0/\0<jo kvs e.ware)):
  WD (jo kvs) e/\∀y,(if y=e.ware then e.pc3 (jo kvs e.ware)else jo (e.mid kvs) y)=aiI (jo kvs) e y:=by
 cases e with
 |buy d n w p r f=>exact⟨trivial,λy=>rfl⟩
 |gift d n w p r f=>exact⟨trivial,λy=>rfl⟩
 |sell d n w p r f o=>
  have c':0<=jo kvs w - p:=c;exact⟨by show p<=jo kvs w;lia,λy=>rfl⟩
 |give d n w p o=>
  have c':0<=jo kvs w - p:=c;exact⟨by show p<=jo kvs w;lia,λy=>rfl⟩
 |split d n w m f=>
  have c':0<=jo kvs w*m/f:=c;have h0:0<=jo kvs w:=h0;have q:¬(jo kvs w*m/f=0/\0<jo kvs w):=q rfl;exact⟨by show jo kvs w=0\/1<=jo kvs w*m/f;lia,λy=>rfl⟩
 |part d n w u s t=>
  have aa:u≠w:=hg.2.2.1;have h0:0<=jo kvs w:=h0;refine⟨trivial,λy=>?_⟩;show(if y=w then jo kvs w else jo (if 0<jo kvs w then putK kvs (Sum.inr u) (.int (jo kvs u+jo kvs w))else kvs) y)=if y=u then jo kvs u+jo kvs w else jo kvs y;by_cases ey:y=w
  ·rw[zi ey,zf (λz=>aa (z.symm.trans ey)),ey]
  ·rw[zf ey]
   by_cases hp:0<jo kvs w
   ·rw[zi hp,aai]
   ·rw[zf hp]
    by_cases eu:y=u
    ·rw[zi eu,eu];lia
    ·rw[zf eu]
def alT{e:Ent}(z:e.good)(q:0<=jo kvs e.ware)(c:e.pc3 (jo kvs e.ware)<0):¬WD (jo kvs) e:=by
 cases e with
 |buy d n w p r f=>
  have:jo kvs w+p<0:=c;have:0<=jo kvs w:=q;have:1<=p:=z.2.1.1;lia
 |gift d n w p r f=>
  have:jo kvs w+p<0:=c;have:0<=jo kvs w:=q;have:1<=p:=z.2.1.1;lia
 |sell d n w p r f o=>
  have:jo kvs w - p<0:=c;exact fun(h:p<=jo kvs w)=>by lia
 |give d n w p o=>
  have:jo kvs w - p<0:=c;exact fun(h:p<=jo kvs w)=>by lia
 |split d n w m f=>
  have c:jo kvs w*m/f<0:=c;have q:0<=jo kvs w:=q;have hm:1<=m:=z.2.1.1;have hf:1<=f:=z.2.2.1;have:=zzl (yU q (show 0<=m by lia)) (show 0<=f by lia);lia
 |part d n w u s t=>
  have:jo kvs w<0:=c;have:0<=jo kvs w:=q;lia
def amN(e:Ent)(kvs kv3:List (Key×V)):Prop:=WD (jo kvs) e/\vp kv3/\kv3.length<=kvs.length+2/\∀y,jo kv3 y=aiI (jo kvs) e y
inductive rG(vs:List V)(H:Hp)(Q:VK)(E:XK):Prop
 |mk (a t:Addr) (e:Ent) (kvs:List (Key×V)) (_:vs=[.ref a,.ref t]) (_:Rd H a (.dK kvs)) (_:vp kvs) (_:kvs.length<=200) (_:H t=some (.tup (.str e.word::e.args .non))) (_:e.good) (_:(¬WD (jo kvs) e->∀H',Same H H'->Q .non H')) (_:∀kv3,amN e kvs kv3->∀p H',Same H H'->H p=none->H' p=some (.dK kv3)->Q (.ref p) H'):rG vs H Q E
def mU:kI P w K mg base CX0 1 A.aa D.aa ["_law_held", "_law_told"] (rG):=by
 refine T.ce.F.okv jT λ_ _ _ _ H vs Q E hr h=>?_
 ·obtain⟨a,t,e,kvs,rfl,ha,hH,hl,ht,hg,k1,k2⟩:=h
  refine ⟨_,(jb (jm (i:=2) jT.nd rfl orl (mZ JH (by rfl) T.dS (by decide+kernel) (pav 0 jc)))
   (jb (jm (i:=3) jT.nd rfl orl (jL (ju (K:=K)) (pvD 1) jf (λ_ _=>rfl)))
   (jb (jm (i:=4) jT.nd rfl orl (sX (oK hr) (pvD 2) (pvD 3) jf ⟨rfl,rfl,rfl,rfl⟩))
   (jb (jm (i:=5) jT.nd rfl orl (pvD 4))
   (jb (kE (PW.pt (GP (jl (nA) (jL (ju (K:=K)) (pvD 1) jf (λ_ _=>rfl)) jB (jx _)) (BV (jl (nA) (jL (ju (K:=K)) (pvD 1) jf (λ_ _=>rfl)) jB (jx _))))) (je (jm (i:=5) jT.nd rfl orl (jw jZ (pvD 4) (jL (ju (K:=K)) (pvD 1) jf (λ_ _=>rfl))))) jC)
   (jb (kE (PW.pt (GP (jl (nA) (jL (ju (K:=K)) (pvD 1) jf (λ_ _=>rfl)) jB (jx _)) (BV (jl (nA) (jL (ju (K:=K)) (pvD 1) jf (λ_ _=>rfl)) jB (jx _))))) (je (jm (i:=5) jT.nd rfl orl (jw pq (pvD 4) (jL (ju (K:=K)) (pvD 1) jf (λ_ _=>rfl))))) jC)
   (jb (kE (jl (nA) (jL (ju (K:=K)) (pvD 1) jf (λ_ _=>rfl)) jB (jx _)) (je (jm (i:=5) jT.nd rfl orl (jw nP (jw nq (pvD 4) (jL (ju (K:=K)) (pvD 1) jf (λ_ _=>rfl))) (jL (ju (K:=K)) (pvD 1) jf (λ_ _=>rfl))))) jC)
   (jb (kE (PW.pt (xR (jl (nA) (jL (ju (K:=K)) (pvD 1) jf (λ_ _=>rfl)) jB (jx _)) (vR (jl (Fj) (pvD 4) jf (jx _))))) (je (Jd (oK hr) (pvD 2) (jL (ju (K:=K)) (pvD 1) jf (λ_ _=>rfl)) (jw jZ (sX (oK hr) (pvD 2) (jL (ju (K:=K)) (pvD 1) jf (λ_ _=>rfl)) jf ⟨rfl,rfl,rfl,rfl⟩) (pvD 4)) rfl)) jC)
   (jb (kE (PW.pt (GP (jl (Dr) (pvD 5) jf (jx _)) (BV (PW.pt (xR (jl (nA) (jL (ju (K:=K)) (pvD 1) jf (λ_ _=>rfl)) jB (jx _)) (xR (jl (nA) (pvD 5) jf (jx _)) (vR (jl (Fj) (pvD 4) jf (jx _))))))))) (je (jq mR)) jC)
   (jb (Jd (oK hr) (pvD 2) (pvD 3) (pvD 5) rfl)
   (jb (kE (jl (nA) (pvD 5) jf (jx _)) (je (jA (aiH (pvD 2) (pvD 3) ⟨rfl,rfl,rfl,rfl⟩))) jC)
   (je (jq (pvD 2)))))))))))))),?_⟩
  simp only[start_eq];walk_at "n";refine⟨_,ha,λpf ab=>?_⟩;have n1:=ji (o:=.dK kvs) ab;have h1:(upd H pf (.dK kvs)) pf=some (.dK kvs):=jd;generalize upd H pf (.dK kvs)=H1 at n1 h1;have aa:=n1 _ _ ht;have hw:atI (.str e.word::e.args .non) 3=some (.str e.ware):=by cases e<;>rfl
  walk_at "n";refine⟨_,jE aa,_,hw,?_⟩;walk_at "n";refine⟨.inl ⟨_,.inl h1⟩,_,.inl ⟨kvs,Sum.inr e.ware,.inl h1,rfl,rfl⟩,?_⟩;rw[rM hH e.ware];walk_at "n";obtain⟨h,eh⟩:∃h,jo kvs e.ware=h:=⟨_,rfl⟩;rw[eh]
  try dsimp only
  refine MF (λσ Hx=>σ=[some (.ref a),some (.ref t),some (.ref pf),some (.str e.ware),some (.int h),some (.int (e.pc1 h))]/\Hx=H1) ?_ ?_
  rotate_left
  ·intro N hN
   walk_at "i";cases e<;>(dsimp only[Ent.word,Ent.args]at aa)<;>(refine⟨_,jE aa,_,rfl,rfl,?_⟩)<;>first|rw[zi rfl]|(rw[zf (by decide+kernel)];refine⟨_,jE aa,_,rfl,rfl,?_⟩;first|rw[zi rfl]|rw[zf (by decide+kernel)])
   all_goals first|exact hN _ _ ⟨rfl,rfl⟩|exact⟨_,jE aa,_,rfl,_,rfl,hN _ _ ⟨rfl,rfl⟩⟩
  rintro σ H2 ⟨rfl,rfl⟩;refine MF (λσ Hx=>σ=[some (.ref a),some (.ref t),some (.ref pf),some (.str e.ware),some (.int h),some (.int (e.pc2 h))]/\Hx=H2) ?_ ?_
  rotate_left
  ·intro N hN
   walk_at "i";cases e<;>(dsimp only[Ent.word,Ent.args]at aa)<;>(refine⟨_,jE aa,_,rfl,rfl,?_⟩)<;>first|rw[zi rfl]|(rw[zf (by decide+kernel)];refine⟨_,jE aa,_,rfl,rfl,?_⟩;first|rw[zi rfl]|rw[zf (by decide+kernel)])
   all_goals first|exact hN _ _ ⟨rfl,rfl⟩|exact⟨_,jE aa,_,rfl,_,rfl,hN _ _ ⟨rfl,rfl⟩⟩
  rintro σ H3 ⟨rfl,rfl⟩;refine MF (λσ Hx=>σ=[some (.ref a),some (.ref t),some (.ref pf),some (.str e.ware),some (.int h),some (.int (e.pc3 h))]/\Hx=H3) ?_ ?_
  rotate_left
  ·intro N hN
   walk_at "i"
   cases e with
   |split d n w m f=>
    obtain⟨_,⟨ak,al⟩,af,ag⟩:=hg;dsimp only[Ent.word,Ent.args]at aa;refine⟨_,jE aa,_,rfl,rfl,?_⟩;rw[zi rfl]
    exact ⟨_,jE aa,_,rfl,_,rfl,JM (by lia) (by lia),_,jE aa,_,rfl,_,rfl,⟨by lia,by
     have:f.natAbs<=1000:=by lia
     exact yv this (by decide)⟩,hN _ _ ⟨rfl,rfl⟩⟩
   |_=>
    dsimp only[Ent.word,Ent.args]at aa;refine⟨_,jE aa,_,rfl,rfl,?_⟩;rw[zf (by decide+kernel)];exact hN _ _ ⟨rfl,rfl⟩
  rintro σ H4 ⟨rfl,rfl⟩;refine MF (λσ Hx=>σ=[some (.ref a),some (.ref t),some (.ref pf),some (.str e.ware),some (.int h),some (.int (e.pc3 h))]/\Same H Hx/\Hx pf=some (.dK (e.mid kvs))/\Hx t=some (.tup (.str e.word::e.args .non))) ?_ ?_
  rotate_left
  ·intro N hN
   walk_at "i"
   cases e with
   |part d n w u s t'=>
    dsimp only[Ent.word,Ent.args]at aa;refine⟨_,jE aa,_,rfl,rfl,?_⟩;rw[zi rfl];have eh':jo kvs w=h:=eh;by_cases c:0<h
    ·rw[zi c]
     refine⟨.inl ⟨_,.inl h1⟩,_,jE aa,_,rfl,_,.inl ⟨kvs,Sum.inr u,.inl h1,rfl,rfl⟩,jo kvs u,rM hH u,_,jE aa,_,rfl,_,Ul (k:=Sum.inr u) h1 (by rw[zw];lia),hN _ _ ⟨rfl,n1.upd ab,?_,(jn λe=>by rw[e,h1]at aa;cases aa).trans aa⟩⟩;rw[jd];show _=some (HO.dK (if 0<jo kvs w then putK kvs (Sum.inr u) (.int (jo kvs u+jo kvs w))else kvs));rw[eh',zi c]
    ·rw[zf c]
     refine hN _ _ ⟨rfl,n1,?_,aa⟩;show _=some (HO.dK (if 0<jo kvs w then putK kvs (Sum.inr u) (.int (jo kvs u+jo kvs w))else kvs));rw[eh',zf c];exact h1
   |_=>
    dsimp only[Ent.word,Ent.args]at aa;refine⟨_,jE aa,_,rfl,rfl,?_⟩;rw[zf (by decide+kernel)];exact hN _ _ ⟨rfl,n1,h1,aa⟩
  rintro σ H5 ⟨rfl,s5,h5,ad⟩;have hM:=ahZ (e:=e) hH;have aj:=ajy e kvs
  have ac:0<=e.pc3 h->(e.word= "split" ->¬(e.pc3 h=0/\0<h))->aar (ajV (tV 2) (tV 3) (tV 5)) (aar (YD (Tu (tOp rEq (tV 5) (tC (V.int 0)))) (ajE (Ys (tV 2) (tV 3))) Xj) (anf (tV 2))) {nx:=λx H'=>Q V.non H',rt:=Q}
    [some (V.ref a),some (V.ref t),some (V.ref pf),some (V.str e.ware),some (V.int h),some (V.int (e.pc3 h))] H5:=λc0 ae=>by
   obtain⟨eb,hy⟩:=alP hg (by rw[eh];exact c0) (hH.nn _) (by rw[eh];exact ae);rw[eh]at hy;walk_at "n";refine⟨_,Ul (k:=Sum.inr e.ware) h5 (by rw[zw];lia),?_⟩;have s6:Same H (upd H5 pf (.dK (putK (e.mid kvs) (Sum.inr e.ware) (.int (e.pc3 h))))):=s5.upd ab;have h6:(upd H5 pf (.dK (putK (e.mid kvs) (Sum.inr e.ware) (.int (e.pc3 h))))) pf=some (.dK (putK (e.mid kvs) (Sum.inr e.ware) (.int (e.pc3 h)))):=jd;generalize upd H5 pf (.dK (putK (e.mid kvs) (Sum.inr e.ware) (.int (e.pc3 h))))=H6 at s6 h6;have ah:=Nj (e.mid kvs) (Sum.inr e.ware) (.int (e.pc3 h));walk_at "n";by_cases z0:e.pc3 h=0
   ·rw[zi (by rw[z0])]
    refine⟨.inl ⟨_,.inl h6⟩,_,h6,Sum.inr e.ware,rfl,.int (e.pc3 h),by rw[Hr,zi rfl],?_⟩;have ai:=aaC (putK (e.mid kvs) (Sum.inr e.ware) (.int (e.pc3 h))) (Sum.inr e.ware)
    (try dsimp only);walk_at "a"
    refine k2 _ ⟨eb,Yh hM e.ware (e.pc3 h),by lia,λy=>?_⟩ pf _ (s6.upd ab) ab jd;rw[air,<-hy,z0]
   ·rw[zf z0]
    (try dsimp only);walk_at "a"
    refine k2 _ ⟨eb,Uk hM e.ware (by lia),by lia,λy=>?_⟩ pf H6 s6 ab h6;rw[aai,hy]
  walk_at "n";by_cases c0:e.pc3 h<0
  ·rw[zi c0]
   exact k1 (alT hg (hH.nn _) (by rw[eh];exact c0)) H5 s5
  rw[zf c0];refine⟨_,jE ad,.str e.word,by cases e<;>rfl,rfl,?_⟩;by_cases cw:V.str e.word=V.str (Str.ofString "split")
  ·rw[zi cw]
   have cw':e.word= "split" :=by injection cw
   by_cases cz:e.pc3 h=0
   ·rw[zi cz]
    by_cases cp:0<h
    ·rw[zi cp]
     refine k1 ?_ H5 s5
     cases e with
     |split d n w m f=>
      have cz:h*m/f=0:=cz;exact fun(q:jo kvs w=0\/1<=jo kvs w*m/f)=>by rw[show jo kvs w=h from eh]at q;lia
     |buy=>exact absurd cw' (show¬(Str.ofString "buy" =Str.ofString "split") by decide+kernel)
     |sell=>exact absurd cw' (show¬(Str.ofString "sell" =Str.ofString "split") by decide+kernel)
     |gift=>exact absurd cw' (show¬(Str.ofString "gift" =Str.ofString "split") by decide+kernel)
     |give=>exact absurd cw' (show¬(Str.ofString "give" =Str.ofString "split") by decide+kernel)
     |part=>exact absurd cw' (show¬(Str.ofString "part" =Str.ofString "split") by decide+kernel)
    ·rw[zf cp]
     exact ac (by lia) λ_ z=>cp z.2
   ·rw[zf cz]
    exact ac (by lia) λ_ z=>cz z.1
  ·rw[zf cw]
   exact ac (by lia) λz=>absurd (congrArg V.str z) cw
def vC(H:Hp)(tl:EL):Prop:=∀r∈tl,H r.1=some (.tup (.str r.2.word::r.2.args .non))/\r.2.good/\r.2.lots=none
def vC.same{tl:EL}(h:vC H tl)(s:Same H H'):vC H' tl:=λr q=>⟨s _ _ (h r q).1,(h r q).2⟩
def akK(ns:List Int)(m:Nat):∃cs:List Int,Ow (ns.map V.int) (some 1) (some ((m:Int)+1))=cs.map V.int/\cs.length<=m:=by
 refine⟨(ns.drop (min 1 (ns.map V.int).length)).take (min (m+1) (ns.map V.int).length - min 1 (ns.map V.int).length),?_,?_⟩
 ·rw[show((m:Int)+1)=((m+1:Nat):Int) by lia,show(1:Int)=((1:Nat):Int)from rfl]
  unfold Ow;rw[HT.sIx_nat,HT.sIx_nat,yS,List.map_drop]
 ·rw[zT,yI]
  lia
structure Hs(B H:Hp)(pt c:Addr)(tl:EL)(kc:List (Key×V))(low step day:Int)(ws:List Str)(i:Nat):Prop where
 s:Same B H
 l:H pt=some (.lst (lZ tl))
 c:H c=some (.dK kc)
 t:vC H tl
 q:vp kc
 r:∀z,jo kc z=runC (tl.map (·.2)) z
 f:HB ws (tl.map (·.2))
 o:(tl.map (·.2)).Pairwise BfE
 d:∀r∈tl,r.2.day<=day/\r.2.num<low+step*i
 u:(tl.map (·.2.num)).Nodup
 n:tl.length<=i
 m:kc.length<=2*i
 y:0<=day/\day<=16000*i
theorem Hs.same{B H H':Hp}{pt c:Addr}{tl:EL}{kc:List (Key×V)}{aa q z:Int}{ws:List Str}{i:Nat}(h:Hs B H pt c tl kc aa q z ws i)(s:Same H H'):Hs B H' pt c tl kc aa q z ws i:=⟨h.s.trans s,s _ _ h.l,s _ _ h.c,h.t.same s,h.q,h.r,h.f,h.o,h.d,h.u,h.n,h.m,h.y⟩
def Rf{q:Int}:q*((i+1:Nat):Int)=q*(i:Int)+q:=by
 rw[yyr,Int.mul_add];show _+q*1=_;rw[Int.mul_one]
def Hs.next{pt c:Addr}{tl:EL}{kc:List (Key×V)}{aa q z dd:Int}(h:Hs B H pt c tl kc aa q z ws i)(hd:0<=dd/\dd<=16000)(hs:1<=q):Hs B H pt c tl kc aa q (z+dd) ws (i+1):=
 ⟨h.s,h.l,h.c,h.t,h.q,h.r,h.f,h.o,λr hr=>by
  have:=h.d r hr;rw[Rf];lia,h.u,Nat.le_succ_of_le h.n,by have:=h.m;lia,by have:=h.y;lia⟩
inductive Ak(K:Fg_)(vs:List V)(H:Hp)(Q:VK)(E:XK):Prop
 |mk (a:Addr) (ns:List Int) (m:Nat) (_:vs=[.ref a,.int m]) (_:SqL K H a (ns.map V.int)) (_:ns.length<=63) (_:m<=60) (_:∀p (tl:EL) ws H',Same H H'->H p=none->H' p=some (.lst (lZ tl))->vC H' tl->tl.length<=m->(tl.map (·.2)).Pairwise BfE->(tl.map (·.2.num)).Nodup->HB ws (tl.map (·.2))->ws.Nodup/\ws.length<=6->(∀r∈tl,r.2.num<999970)->Q (.ref p) H'):Ak K vs H Q E
def Io:kI P w K mg base CX0 3 A.ai D.ai ["_law_script", "_law_most"] (Ak K):=by
 refine T.cm.F.okv jF λ_ _ _ _ H vs Q E hr h=>?_
 ·obtain⟨a,ns,m,rfl,hS,hl,hm,k⟩:=h
  refine ⟨_,(jb (jm (i:=2) jF.nd rfl orl (pcg (Oj T) hr T.ci (Rx T) (pav 0 jc)))
   (jb (jm (i:=3) jF.nd rfl orl (jw lJ (pcg (lQ T) hr T.ch (lY T) (pav 0 (iY jf jc))) jf))
   (jb (jm (i:=4) jF.nd rfl orl (jw jZ jf (jw lJ (jw nP (pcg (lQ T) hr T.ch (lY T) (pav 0 (iY jf jc))) jf) jf)))
   (jb (jm (i:=5) jF.nd rfl orl (lE jc))
   (jb (jm (i:=6) jF.nd rfl orl vN)
   (jb (jm (i:=7) jF.nd rfl orl jf)
   (jb (oh zR rfl (ZX (K:=K) (by rfl) T.dY (iY (Br (Ec (K:=K)) (pcg (Nx T) hr T.cl (Rh T) (pav 0 jc)) (Dd jf) (Dd (jw jZ (pvD 1) jf))) jc)) (pY (K:=K) (n:=2) rfl (jG (jk (i:=8) jF.nd rfl orl) (jG (jk (i:=9) jF.nd rfl orl) oF)))
    (jb (aiK (pcg (uq T) hr T.cg (vX T) (pav 9 (iY (lE (iY jf (iY jf jc))) jc))) (Xr (K:=K) (n:=2) rfl (jG (jk (i:=10) jF.nd rfl orl) (jG (jk (i:=11) jF.nd rfl orl) oF))))
    (jb (jm (i:=7) jF.nd rfl orl (jw jZ (pvD 7) (jL (nQ (K:=K)) (lE (iY jf (iY jf (iY jf (iY (jw lJ (pvD 11) jf) (pav 11 jc)))))) (pvD 10) (λ_ _=>rfl))))
    (jb (jm (i:=12) jF.nd rfl orl (pcg (Oq T) hr T.cj (QL T) (iY (jw nP (pvD 9) jf) (pav 7 (iY (jw jZ (pvD 3) (jw nq (pvD 4) (pvD 8))) (pav 2 (pav 6 jc)))))))
    (jb (jm (i:=13) jF.nd rfl orl (pcg (mU T) hr T.ce (nC T) (pav 6 (pav 12 jc))))
    (je (kE (jl (CJ) (pvD 13) mR (jx _)) (jb (jm (i:=6) jF.nd rfl orl (pvD 13))
     (je (jA (tD (K:=K) zP zV zW mJ (pvD 5) (pav 12 jc))))) jC)))))))
   (je (jq (pvD 5)))))))))),?_⟩
  simp only[start_eq];walk_at "n";refine⟨a,ns,rfl,hS,λwa ws H1 s1 b5 hW b4=>?_⟩;walk_at "n";refine⟨a,ns,2,rfl,s1.seq hS,_,rfl,by decide,?_⟩;obtain⟨ac,ba⟩:∃ac,ac=ns.getD 2 0%1000:=⟨_,rfl⟩;have bl:0<=ac/\ac<1000:=by lia
  rw[<-ba];walk_at "n";refine⟨a,ns,2,rfl,s1.seq hS,_,rfl,⟨by decide,by decide⟩,by decide,?_⟩;obtain⟨aa,al⟩:∃b,b=1+ns.getD 2 0/1000%1000:=⟨_,rfl⟩;have bs:1<=aa/\aa<=1000:=by lia
  rw[<-al];walk_at "n";refine⟨sz,λpt aw=>?_⟩;have n2:=ji (o:=.lst []) aw;have h2:(upd H1 pt (.lst [])) pt=some (.lst []):=jd;generalize upd H1 pt (.lst [])=H2 at n2 h2;walk_at "n";intro pd bx;have n3:=ji (o:=.dK []) bx;have h3:(upd H2 pd (.dK [])) pd=some (.dK []):=jd;have ap:=n3 _ _ h2;generalize upd H2 pd (.dK [])=H3 at n3 h3 ap;walk_at "n";have s3:=n2.trans n3
  try dsimp only
  rw[ap_seq,ap_for];walk_at "i";refine⟨a,ns,rfl,(s1.trans s3).seq hS,hl,λp1 ar H4 s4 b8 h4=>?_⟩;refine⟨p1,rfl,_,jh h4,λq1 am=>⟨⟨_,jh jd⟩,?_⟩⟩;obtain⟨cs,b0,bq⟩:=akK ar m;rw[b0];have n5:=ji (o:=.lst (cs.map V.int)) am;have h5:(upd H4 q1 (.lst (cs.map V.int))) q1=some (.lst (cs.map V.int)):=jd;have bi:q1≠pt:=λe=>by rw[e,s4 _ _ ap]at am;cases am
  generalize upd H4 q1 (.lst (cs.map V.int))=H5 at n5 h5;have au:=s4.trans n5
  refine Eg.enum (K:=K) (a:=q1) (xs:=cs.map V.int) (λi σ Hx=>∃(c:Addr)(tl:EL)(kc:List (Key×V))(ae:Int)(v8 v9 aq ao as av:Option V),σ=[some (.ref a),some (.int m),some (.ref wa),some (.int ac),some (.int aa),some (.ref pt),some (.ref c),some (.int ae),v8,v9,aq,ao,as,av]/\Hs H1 Hx pt c tl kc ac aa ae ws i/\Hx q1=some (.lst (cs.map V.int)))
   ⟨pd,[],[],0,_,_,_,_,_,_,rfl,⟨s3.trans au,au _ _ ap,au _ _ h3,λr h=>(zj h).elim,Du,λ_=>rfl,.nil,.nil,λr h=>(zj h).elim,.nil,zm _,zm _,by lia⟩,h5⟩ (λi σ Hx _ ⟨_,_,_,_,_,_,_,_,_,_,_,_,h⟩=>jh h) ?_ ?_
  ·rintro i y σ H6 pe hi ⟨c,tl,kc,ae,v8,v9,aq,ao,as,av,rfl,L6,az⟩ bj
   obtain⟨x,rfl,bv⟩:=wg hi;have ce:i<cs.length:=(zk.mp bv).1;have n7:=ji (o:=.tup [V.int i,V.int x]) bj;have L7:=L6.same n7;have ax:=n7 _ _ az;walk_at "i";refine⟨_,jE jd,rfl,_,_,rfl,_,_,rfl,rfl,?_⟩;generalize upd H6 pe _=H7 at L7 ax;walk_at "n";refine⟨sz,λp2 bp=>?_⟩;have n8:=ji (o:=.lst [V.int 5,V.int 16000]) bp;refine⟨x,p2,[5,16000],rfl,jh (by rw[jd];rfl),by unfold GX;decide,by decide,λp3 H8 t8 ca h8=>?_⟩;have L8:=(L7.same n8).same t8;have bt:=t8 _ _ (n8 _ _ ax);obtain⟨way,q,bk,bw,bm⟩:∃way q,Us x [5,16000]=[way,q]/\(0<=way/\way<5)/\(0<=q/\q<16000):=⟨_,_,rfl,by lia,by lia⟩;rw[bk]at h8;refine⟨p3,rfl,_,jh h8,rfl,_,_,rfl,_,_,rfl,rfl,?_⟩;walk_at "n";refine⟨by decide,sz,λp4 bn=>?_⟩
   obtain ⟨dd,bo,bd⟩:∃dd:Int,atI [V.int 0,V.int 0,V.int 1,V.int (q%40),V.int q] way=some (.int dd)/\(0<=dd/\dd<=16000):=by
    rcases(show way=0\/way=1\/way=2\/way=3\/way=4 by lia)with e|e|e|e|e<;>rw[e]
    ·exact⟨0,rfl,by lia⟩
    ·exact⟨0,rfl,by lia⟩
    ·exact⟨1,rfl,by lia⟩
    ·exact⟨q%40,rfl,by lia⟩
    ·exact⟨q,rfl,by lia⟩
   refine⟨_,jh jd,_,bo,_,rfl,?_⟩;have n9:=ji (o:=.lst [V.int 0,V.int 0,V.int 1,V.int (q%40),V.int q]) bn;have L9:=(L8.same n9).next bd bs.1;have ah:=(L8.same n9).d;have be:=n9 _ _ bt;have bg:=L8.n;have cc:=L8.m;generalize upd H8 p4 _=H9 at L9 be;have b1:0<=aa*(i:Int):=yU (by lia) (by lia);have b2:aa*(i:Int)<=1000*60:=zz9 bs.2 (by lia) (by lia) (by lia);have b3:=L9.y;walk_at "n";refine⟨⟨by decide,by decide⟩,Ri (by lia) (by lia),_,ae+dd,ac+aa*(i:Int),wa,c,ws,kc,rfl,L9.s _ _ b4,hW,L9.c,λw=>⟨_,L9.q.nn w,rM L9.q w⟩,⟨by lia,by lia⟩,⟨by lia,by lia⟩,λt e cd bc b6 ht hg ho b7 br bz=>?_⟩;have af:=L9.same bc;have ag:=bc _ _ be;walk_at "n";refine⟨c,t,e,kc,rfl,.inl af.c,af.q,by lia,ht,hg,λ_ ay ad=>?_,λbu hb pn ay ad cb an=>?_⟩
   ·walk_at "i"
    exact⟨_,_,af.same ad,ad _ _ ag⟩
   ·walk_at "i"
    walk_at "n"
    (try dsimp only);walk_at "i"
    have ab:=af.same ad;have ai:=ad _ _ ht;obtain⟨aj,bh,b9,ak⟩:=hb;have er:jo kc=runC (tl.map (·.2)):=funext ab.r;rw[er]at aj ak;have bf:∀{b:Addr}{xs:List V},ay b=some (.tup xs)->b≠pt:=λh e=>by rw[e,ab.l]at h;cases h
    refine⟨.inl ⟨rfl,_,jh ab.l⟩,_,ab.l,by rw[kY,zw];lia,?_⟩;have bb:∀r∈tl,r.2.num<e.num:=λr hr=>by rw[br];exact(ah r hr).2
    refine⟨tl++[(t,e)],bu,⟨ab.s.upd aw,?_,(jn λe=>by rw[e,ab.l]at an;cases an).trans an,λr hr=>?_,bh,λz=>?_,?_,?_,λr hr=>?_,?_,by rw[zC];exact Nat.succ_le_succ bg,by lia,ab.y⟩,(jn bi).trans (ad _ _ ag)⟩
    ·rw[jd];unfold lZ;rw[zp];rfl
    ·rcases zD.mp hr with hr|hr
     ·have h0:=ab.t r hr
      exact⟨(jn (bf h0.1)).trans h0.1,h0.2⟩
     ·obtain rfl:=zr.mp hr
      exact⟨(jn (bf ai)).trans ai,hg,ho⟩
    ·rw[ak,zp]
     exact(congrFun (oW _ e) z).symm
    ·rw[zp]
     exact ab.f.snoc ⟨hg,ho,bz⟩ aj
    ·rw[zp]
     refine y0.mpr ⟨ab.o,List.pairwise_singleton _ _,λd hd z hz=>?_⟩;have hz':z=e:=zr.mp hz;rw[hz'];obtain⟨r,hr,rfl⟩:=zc.mp hd;have h1:=(ah r hr).1;have h2:=bb r hr;show BfE r.2 e;unfold BfE;lia
    ·rcases zD.mp hr with hr|hr
     ·exact ab.d r hr
     ·obtain rfl:=zr.mp hr
      rw[Rf];show e.day<=_/\e.num<_;lia
    ·rw[zp]
     refine y0.mpr ⟨ab.u,List.pairwise_singleton _ _,λd hd z hz=>?_⟩;have hz':z=e.num:=zr.mp hz;rw[hz'];obtain⟨r,hr,rfl⟩:=zc.mp hd;have h2:=bb r hr;show r.2.num≠e.num;lia
  ·rintro σ H6 ⟨c,tl,kc,ae,v8,v9,aq,ao,as,av,rfl,L6,az⟩
   rw[za]at L6;walk_at "a"
   exact k pt tl ws H6 (s1.trans L6.s) (s1.free aw) L6.l L6.t (zS L6.n bq) L6.o L6.u L6.f ⟨hW.u,hW.l1⟩ λr hr=>by
    have h1:=(L6.d r hr).2;have b2:aa*(cs.length:Int)<=1000*60:=zz9 bs.2 (by lia) (by lia) (by lia);lia
inductive spW(z:Str)(vs:List V)(H:Hp)(Q:VK)(E:XK):Prop
 |mk (x:Addr) (_:vs=[.ref x]) (_:Q (.str z) H):spW z vs H Q E
def Lf:kI P w K mg base CX0 1 A.bJ D.bJ ["self"] (spW "eldest"):=by
 refine T.dM.okv KC λ_ _ _ _ H vs Q E q h=>?_
 ·obtain⟨x,rfl,k⟩:=h
  refine⟨_,(je (jq jB)),?_⟩;walk_at "a";exact k
def Li:kI P w K mg base CX0 1 A.bK D.bK ["self"] (spW "newest"):=by
 refine T.dN.okv Lk λ_ _ _ _ H vs Q E q h=>?_
 ·obtain⟨x,rfl,k⟩:=h
  refine⟨_,(je (jq jB)),?_⟩;walk_at "a";exact k
def IW:kI P w K mg base CX0 1 A.bL D.bL ["self"] (spW "dearest"):=by
 refine T.dO.okv HF λ_ _ _ _ H vs Q E q h=>?_
 ·obtain⟨x,rfl,k⟩:=h
  refine⟨_,(je (jq jB)),?_⟩;walk_at "a";exact k
def Pz:kI P w K mg base CX0 1 A.bM D.bM ["self"] (spW "mean"):=by
 refine T.dP.okv Pg λ_ _ _ _ H vs Q E q h=>?_
 ·obtain⟨x,rfl,k⟩:=h
  refine⟨_,(je (jq jB)),?_⟩;walk_at "a";exact k
inductive Ti(A:Adr):Str->Addr->Prop
 |e:Ti A "eldest" A.b1
 |n:Ti A "newest" A.b2
 |d:Ti A "dearest" A.b3
 |m:Ti A "mean" A.b0
def Ti.way(h:Ti A z C):Tg A C:=by
 cases h
 ·exact .e
 ·exact .n
 ·exact .d
 ·exact .m
def Ti.is(h:Ti A z C){q:Str}{C':Addr}(h':Ti A q C')(e:q=z):C'=C:=by
 cases h<;>cases h'<;>first|rfl|exact absurd e (by decide+kernel)
def ne_next{l:List Str}{x:Str}(hx:l[i]? =some x)(hn:∀u∈l.take i,u≠z)(h:x≠z):∀u∈l.take (i+1),u≠z:=by
 rw[zK,hx];intro u q;rcases zD.mp q with q|q
 ·exact hn u q
 ·obtain rfl:=zr.mp q
  exact h
inductive Qa(A:Adr)(vs:List V)(H:Hp)(Q:VK)(E:XK):Prop
 |mk (z:Str) (C:Addr) (_:vs=[.str z]) (_:Ti A z C) (_:∀x dx H',Same H H'->H x=none->H' x=some (.ins C dx [])->Q (.ref x) H'):Qa A vs H Q E
def Qf:kI P w K mg base CX0 2 A.bN D.bN ["word"] (Qa A):=by
 refine T.dQ.F.okv Py λ_ _ _ _ H vs Q E hr h=>?_
 ·obtain⟨z,C,rfl,hC,k⟩:=h
  refine ⟨_,(jb (oh zR rfl (lM (K:=K) (lE (iY (Oi T.f3 (by rfl) T.em) (iY (Oi T.f4 (by rfl) T.en) (iY (Oi T.f5 (by rfl) T.eo) (iY (Oi T.f6 (by rfl) T.el) jc)))))) (jk (i:=1) Py.nd rfl orl)
    (je (kE (jl (nA) (mG (pv 1) (mc T.fQ T.gX (Lf T) hr (MJ T) (mc T.fR T.gY (Li T) hr (Ob T) (mc T.fS T.gZ (IW T) hr (KN T) (mc T.fP T.g0 (Pz T) hr (Sd T) .nil)))) jR) (pvD 0) (jx _)) (je (jq (pvD 1))) jC)))
   (je (mC))),?_⟩
  simp only[start_eq];rw[ap_seq,ap_for];walk_at "i";intro x0 d0 ab ae n0 x1 d1 aa ah n1 x2 d2 ac af n2 x3 d3 ad ag n3;refine⟨sz,λp hp=>⟨⟨_,jh jd⟩,?_⟩⟩;have a0:=qO (C:=A.b1) ab ae;have a1:=qO (C:=A.b2) aa ah;have a2:=qO (C:=A.b3) ac af;have a3:=qO (C:=A.b0) ad ag;have ap:=ji (o:=.lst [V.ref x0,V.ref x1,V.ref x2,V.ref x3]) hp;have t3:=a3.s.trans ap;have t2:=a2.s.trans t3;have t1:=a1.s.trans t2;have S:=a0.s.trans t1;have f0:=t1 _ _ a0.h;have f1:=t2 _ _ a1.h;have f2:=t3 _ _ a2.h;have f3:=ap _ _ a3.h;have e1:=a0.s.free aa;have e2:=(a0.s.trans a1.s).free ac;have e3:=(a0.s.trans (a1.s.trans a2.s)).free ad;have hl:(upd (upd (upd (upd (upd (upd (upd (upd (upd H d0 (HO.own x0)) x0 (HO.ins A.b1 d0 [])) d1 (HO.own x1)) x1 (HO.ins A.b2 d1 [])) d2 (HO.own x2)) x2 (HO.ins A.b3 d2 [])) d3 (HO.own x3)) x3 (HO.ins A.b0 d3 [])) p (HO.lst [V.ref x0,V.ref x1,V.ref x2,V.ref x3])) p=some (.lst [V.ref x0,V.ref x1,V.ref x2,V.ref x3]):=jd;clear a0 a1 a2 a3 ap t1 t2 t3;generalize upd _ p (HO.lst [V.ref x0,V.ref x1,V.ref x2,V.ref x3])=Hf at S f0 f1 f2 f3 hl
  refine qu (K:=K) (a:=p) (xs:=[V.ref x0,V.ref x1,V.ref x2,V.ref x3]) (λi σ H'=>(∃v,σ=[some (.str z),v])/\H'=Hf/\∀u∈(["eldest", "newest", "dearest", "mean"]:List Str).take i,u≠z)
   ⟨⟨_,rfl⟩,rfl,λu h=>(zj h).elim⟩ (λi σ H' _ ⟨_,e,_⟩=>e▸jh hl) ?_ ?_
  ·rintro i y σ H' hy ⟨⟨v,rfl⟩,rfl,hn⟩
   rcases i with _|_|_|_|i
   ·cases hy
    walk_at "i";refine⟨_,d0,_,f0,_,zg,by rfl,x0,rfl,rfl,?_⟩;by_cases q:Str.ofString "eldest" =z
    ·rw[zi (by rw[q])]
     exact k x0 d0 _ S ab (hC.is (Ti.e (A:=A)) q▸f0)
    ·rw[zf (by simpa using q)]
     exact⟨rfl,ne_next (i:=0) rfl hn q⟩
   ·cases hy
    walk_at "i";refine⟨_,d1,_,f1,_,(zn _ zg),by rfl,x1,rfl,rfl,?_⟩;by_cases q:Str.ofString "newest" =z
    ·rw[zi (by rw[q])]
     exact k x1 d1 _ S e1 (hC.is (Ti.n (A:=A)) q▸f1)
    ·rw[zf (by simpa using q)]
     exact⟨rfl,ne_next (i:=1) rfl hn q⟩
   ·cases hy
    walk_at "i";refine⟨_,d2,_,f2,_,(zn _ (zn _ zg)),by rfl,x2,rfl,rfl,?_⟩;by_cases q:Str.ofString "dearest" =z
    ·rw[zi (by rw[q])]
     exact k x2 d2 _ S e2 (hC.is (Ti.d (A:=A)) q▸f2)
    ·rw[zf (by simpa using q)]
     exact⟨rfl,ne_next (i:=2) rfl hn q⟩
   ·cases hy
    walk_at "i";refine⟨_,d3,_,f3,_,(zn _ (zn _ (zn _ zg))),by rfl,x3,rfl,rfl,?_⟩;by_cases q:Str.ofString "mean" =z
    ·rw[zi (by rw[q])]
     exact k x3 d3 _ S e3 (hC.is (Ti.m (A:=A)) q▸f3)
    ·rw[zf (by simpa using q)]
     exact⟨rfl,ne_next (i:=3) rfl hn q⟩
   ·cases hy
  ·rintro σ H' ⟨⟨v,rfl⟩,rfl,hn⟩
   have hn:∀u∈(["eldest", "newest", "dearest", "mean"]:List Str),u≠z:=hn
   cases hC with
   |e=>exact(hn _ zg rfl).elim
   |n=>exact(hn _ (zn _ zg) rfl).elim
   |d=>exact(hn _ (zn _ (zn _ zg)) rfl).elim
   |m=>exact(hn _ (zn _ (zn _ (zn _ zg))) rfl).elim
def nW{t:TA}{Q:List V->Hp->Prop}{xs:List V}{i:Int}(hσ:σ[j]? =some (some (.ref q)))(hq:H q=some (.tup xs))(z:atI xs i=some v)(k:t σ H λvs H'=>Q (v::vs) H'):ql (tOp (ajk K) (tV j) (tC (.int i))) t σ H Q:=by
 simp only[L2.ap_cons,L2.ap_op,L2.av_V,L2.atV_iff,L2.ap_c,L2.ap_ixT];exact⟨_,hσ,q,xs,i,v,rfl,rfl,jE hq,z,k⟩
def amX(x:V)(r:List V):Ow (x::r) (some 1) none=r:=Vk (x::r) 1
def ain(x:V)(r:List V):¬(HT.sIx (x::r).length 0 (some 1)=0/\HT.sIx (x::r).length (x::r).length none=(x::r).length):=λh=>by
 have h1:=h.1;rw[show(1:Int)=((1:Nat):Int)from rfl,HT.sIx_nat,zG]at h1;lia
def ajc{t:TA}{Q:List V->Hp->Prop}(q:σ[j]? =some (some v))(k:t σ H λvs H'=>Q (v::vs) H'):ql (tV j) t σ H Q:=by
 simp only[L2.ap_cons,L2.av_V,L2.atV_iff];exact⟨_,q,k⟩
inductive FT(A:Adr)(vs:List V)(H:Hp)(Q:VK)(E:XK):Prop
 |mk (q:Addr) (e:Ent) (_:vs=[.ref q]) (_:H q=some (.tup (.str e.word::e.args .non))) (_:e.lots=none) (_:e.good) (_:∀x B H',Same H B->Made A B H' x e->Q (.ref x) H'):FT A vs H Q E
def Qo:kI P w K mg base CX0 6 A.aM D.aM ["_law_told"] (FT A):=by
 refine T.cP.F.okv tO λ_ _ _ _ H vs Q E hr h=>?_
 ·obtain⟨q,e,rfl,hq,ho,hg,k⟩:=h
  refine ⟨_,(jb (jm (i:=1) tO.nd rfl orl (Br (ajQ (K:=K)) (pvD 0) (Dd jf) Jf))
   (jb (kE (jl (nA) (jL (ju (K:=K)) (pvD 0) jf (λ_ _=>rfl)) jB (jx _)) (je (jq (mF T.fU (Ja (K:=K) T) (hr.mono (by decide)) (by rfl) T.ea (wJ T).choose_spec.1 (wJ T).choose_spec.2 jR (iY (jL (ju (K:=K)) (pvD 1) jf (λ_ _=>rfl)) (iY (jL (ju (K:=K)) (pvD 1) jf (λ_ _=>rfl)) (iY (jL (ju (K:=K)) (pvD 1) jf (λ_ _=>rfl)) (iY (jL (ju (K:=K)) (pvD 1) jf (λ_ _=>rfl)) (iY (jL (ju (K:=K)) (pvD 1) jf (λ_ _=>rfl)) (iY (jL (ju (K:=K)) (pvD 1) jf (λ_ _=>rfl)) jc))))))))) jC)
   (jb (kE (jl (nA) (jL (ju (K:=K)) (pvD 0) jf (λ_ _=>rfl)) jB (jx _)) (je (jq (mF T.fV (Gv (K:=K) T) (hr.mono (by decide)) (by rfl) T.ec (Jo T) .nil jR (iY (jL (ju (K:=K)) (pvD 1) jf (λ_ _=>rfl)) (iY (jL (ju (K:=K)) (pvD 1) jf (λ_ _=>rfl)) (iY (jL (ju (K:=K)) (pvD 1) jf (λ_ _=>rfl)) (iY (jL (ju (K:=K)) (pvD 1) jf (λ_ _=>rfl)) (iY (jL (ju (K:=K)) (pvD 1) jf (λ_ _=>rfl)) (iY (jL (ju (K:=K)) (pvD 1) jf (λ_ _=>rfl)) jc))))))))) jC)
   (jb (kE (jl (nA) (jL (ju (K:=K)) (pvD 0) jf (λ_ _=>rfl)) jB (jx _)) (je (jq (mF T.fW (Fb (K:=K) T) (hr.mono (by decide)) (by rfl) T.ee (Gw T) .nil jR (iY (jL (ju (K:=K)) (pvD 1) jf (λ_ _=>rfl)) (iY (jL (ju (K:=K)) (pvD 1) jf (λ_ _=>rfl)) (iY (jL (ju (K:=K)) (pvD 1) jf (λ_ _=>rfl)) (iY (jL (ju (K:=K)) (pvD 1) jf (λ_ _=>rfl)) (iY (jL (ju (K:=K)) (pvD 1) jf (λ_ _=>rfl)) jc)))))))) jC)
   (jb (kE (jl (nA) (jL (ju (K:=K)) (pvD 0) jf (λ_ _=>rfl)) jB (jx _)) (je (jq (mF T.fX (CP (K:=K) T) (hr.mono (by decide)) (by rfl) T.ef (Ef T) .nil jR (iY (jL (ju (K:=K)) (pvD 1) jf (λ_ _=>rfl)) (iY (jL (ju (K:=K)) (pvD 1) jf (λ_ _=>rfl)) (iY (jL (ju (K:=K)) (pvD 1) jf (λ_ _=>rfl)) (iY (jL (ju (K:=K)) (pvD 1) jf (λ_ _=>rfl)) (iY (jL (ju (K:=K)) (pvD 1) jf (λ_ _=>rfl)) (iY (jL (ju (K:=K)) (pvD 1) jf (λ_ _=>rfl)) jc))))))))) jC)
   (jb (jm (i:=2) tO.nd rfl orl (jL (ju (K:=K)) (pvD 1) (aiq Uz jf) (λ_ _=>rfl)))
   (jb (kE (jl (CJ) (pvD 2) mR (jx _)) (je (jm (i:=2) tO.nd rfl orl (mZ (vI (K:=K)) (by rfl) T.d5 (by decide+kernel) (pav 2 jc)))) jC)
   (jb (kE (jl (nA) (jL (ju (K:=K)) (pvD 0) jf (λ_ _=>rfl)) jB (jx _)) (je (jq (mF T.fY (Hl (K:=K) T) (hr.mono (by decide)) (by rfl) T.eb (vo T).choose_spec.1 (vo T).choose_spec.2 jR (iY (jL (ju (K:=K)) (pvD 1) jf (λ_ _=>rfl)) (iY (jL (ju (K:=K)) (pvD 1) jf (λ_ _=>rfl)) (iY (jL (ju (K:=K)) (pvD 1) jf (λ_ _=>rfl)) (iY (jL (ju (K:=K)) (pvD 1) jf (λ_ _=>rfl)) (iY (jL (ju (K:=K)) (pvD 1) jf (λ_ _=>rfl)) (iY (jL (ju (K:=K)) (pvD 1) jf (λ_ _=>rfl)) (pav 2 jc)))))))))) jC)
   (je (jq (mF T.fT (Gp (K:=K) T) (hr.mono (by decide)) (by rfl) T.ed (uW T).choose_spec.1 (uW T).choose_spec.2 jR (iY (jL (ju (K:=K)) (pvD 1) jf (λ_ _=>rfl)) (iY (jL (ju (K:=K)) (pvD 1) jf (λ_ _=>rfl)) (iY (jL (ju (K:=K)) (pvD 1) jf (λ_ _=>rfl)) (iY (jL (ju (K:=K)) (pvD 1) jf (λ_ _=>rfl)) (pav 2 jc)))))))))))))))),?_⟩
  simp only[start_eq];walk_at "n";refine⟨_,jE hq,ain _ _,λc hc=>?_⟩;rw[amX];have s1:=ji (o:=.tup (e.args .non)) hc;have aa:=s1 _ _ hq;have z:(upd H c (.tup (e.args .non))) c=some (.tup (e.args .non)):=jd;generalize upd H c (.tup (e.args .non))=H1 at s1 aa z⊢
  try dsimp only
  cases e with
  |buy d n w p r f=>
   have aa:H1 q=some (.tup [.str "buy",.int d,.int n,.str w,.int p,.int r,.int f]):=aa;have z:H1 c=some (.tup [.int d,.int n,.str w,.int p,.int r,.int f]):=z;refine gi1 rfl aa rfl ?_;rw[ap_ret,ap_make];refine(nW rfl z rfl (nW rfl z rfl (nW rfl z rfl (nW rfl z rfl (nW rfl z rfl (nW rfl z rfl ?_))))));rw[ap_nil];intro x dx hx ab ac;exact⟨x,d,n,p,r,f,w,H1,dx,rfl,qO hx ab,hg,λH' hM=>⟨rfl,k x _ H' s1 hM⟩⟩
  |gift d n w p c' s=>
   have aa:H1 q=some (.tup [.str "gift",.int d,.int n,.str w,.int p,.int c',.int s]):=aa;have z:H1 c=some (.tup [.int d,.int n,.str w,.int p,.int c',.int s]):=z;refine si1 rfl aa rfl (by decide+kernel) ?_;refine gi1 rfl aa rfl ?_;rw[ap_ret,ap_make];refine(nW rfl z rfl (nW rfl z rfl (nW rfl z rfl (nW rfl z rfl (nW rfl z rfl (nW rfl z rfl ?_))))));rw[ap_nil];intro x dx hx ab ac;exact⟨x,d,n,p,c',s,w,H1,dx,rfl,qO hx ab,hg,λH' hM=>⟨rfl,k x _ H' s1 hM⟩⟩
  |split d n w m f=>
   have aa:H1 q=some (.tup [.str "split",.int d,.int n,.str w,.int m,.int f]):=aa;have z:H1 c=some (.tup [.int d,.int n,.str w,.int m,.int f]):=z;refine si1 rfl aa rfl (by decide+kernel) ?_;refine si1 rfl aa rfl (by decide+kernel) ?_;refine gi1 rfl aa rfl ?_;rw[ap_ret,ap_make];refine(nW rfl z rfl (nW rfl z rfl (nW rfl z rfl (nW rfl z rfl (nW rfl z rfl ?_)))));rw[ap_nil];intro x dx hx ab ac;exact⟨x,d,n,m,f,w,H1,dx,rfl,qO hx ab,hg,λH' hM=>⟨rfl,k x _ H' s1 hM⟩⟩
  |part d n w u s t=>
   have aa:H1 q=some (.tup [.str "part",.int d,.int n,.str w,.str u,.int s,.int t]):=aa;have z:H1 c=some (.tup [.int d,.int n,.str w,.str u,.int s,.int t]):=z;refine si1 rfl aa rfl (by decide+kernel) ?_;refine si1 rfl aa rfl (by decide+kernel) ?_;refine si1 rfl aa rfl (by decide+kernel) ?_;refine gi1 rfl aa rfl ?_;rw[ap_ret,ap_make];refine(nW rfl z rfl (nW rfl z rfl (nW rfl z rfl (nW rfl z rfl (nW rfl z rfl (nW rfl z rfl ?_))))));rw[ap_nil];intro x dx hx ab ac;exact⟨x,d,n,s,t,w,u,H1,dx,rfl,qO hx ab,hg,λH' hM=>⟨rfl,k x _ H' s1 hM⟩⟩
  |sell d n w p r f o=>
   obtain rfl:o=none:=ho;have aa:H1 q=some (.tup [.str "sell",.int d,.int n,.str w,.int p,.int r,.int f,.non]):=aa;have z:H1 c=some (.tup [.int d,.int n,.str w,.int p,.int r,.int f,.non]):=z;refine si1 rfl aa rfl (by decide+kernel) ?_;refine si1 rfl aa rfl (by decide+kernel) ?_;refine si1 rfl aa rfl (by decide+kernel) ?_;refine si1 rfl aa rfl (by decide+kernel) ?_;walk_at "n";refine⟨_,jE z,_,rfl,?_⟩;walk_at "n";refine gi1 rfl aa rfl ?_;rw[ap_ret,ap_make];refine(nW rfl z rfl (nW rfl z rfl (nW rfl z rfl (nW rfl z rfl (nW rfl z rfl (nW rfl z rfl (ajc rfl ?_)))))));rw[ap_nil];intro x dx hx ab ac;exact⟨x,d,n,p,r,f,w,H1,dx,rfl,qO hx ab,hg,λH' hM=>⟨rfl,k x _ H' s1 hM⟩⟩
  |give d n w p o=>
   obtain rfl:o=none:=ho;have aa:H1 q=some (.tup [.str "give",.int d,.int n,.str w,.int p,.non]):=aa;have z:H1 c=some (.tup [.int d,.int n,.str w,.int p,.non]):=z;refine si1 rfl aa rfl (by decide+kernel) ?_;refine si1 rfl aa rfl (by decide+kernel) ?_;refine si1 rfl aa rfl (by decide+kernel) ?_;refine si1 rfl aa rfl (by decide+kernel) ?_;walk_at "n";refine⟨_,jE z,_,rfl,?_⟩;walk_at "n";refine si1 rfl aa rfl (by decide+kernel) ?_;rw[ap_ret,ap_make];refine(nW rfl z rfl (nW rfl z rfl (nW rfl z rfl (nW rfl z rfl (ajc rfl ?_)))));rw[ap_nil];intro x dx hx ab ac;exact⟨x,d,n,p,w,H1,dx,rfl,qO hx ab,hg,λH' hM=>⟨rfl,k x _ H' s1 hM⟩⟩
def FZ{a b:Str}(h:a≠b):¬V.str a=V.str b:=λe=>h (V.str.inj e)
def akb(e:Ent):Wr e=decide (V.str e.word=V.str (Str.ofString "give")):=by
 cases e with
 |give=>exact(zH rfl).symm
 |buy=>exact(zJ (FZ (show¬(Str.ofString "buy" =Str.ofString "give") by decide+kernel))).symm
 |sell=>exact(zJ (FZ (show¬(Str.ofString "sell" =Str.ofString "give") by decide+kernel))).symm
 |gift=>exact(zJ (FZ (show¬(Str.ofString "gift" =Str.ofString "give") by decide+kernel))).symm
 |split=>exact(zJ (FZ (show¬(Str.ofString "split" =Str.ofString "give") by decide+kernel))).symm
 |part=>exact(zJ (FZ (show¬(Str.ofString "part" =Str.ofString "give") by decide+kernel))).symm
inductive oN(vs:List V)(H:Hp)(Q:VK)(E:XK):Prop
 |mk (q:Addr) (tl:EL) (W:List Str) (_:vs=[.ref q]) (_:H q=some (.lst (lZ tl))) (_:vC H tl) (_:tl.length<=40) (_:(∀r∈tl,r.2.ware∈W/\r.2.oth∈W)) (_:∀p (kl:EL) H',Same H H'->H p=none->H' p=some (.lst (lZ kl))->vC H' kl->kl.Sublist tl->HB W (kl.map (·.2))->(∀r∈kl,Wr r.2=false)->Q (.ref p) H'):oN vs H Q E
def wk:kI P w K mg base CX0 2 A.ab D.ab ["_law_told"] (oN):=by
 refine T.cf.F.okv jV λ_ _ _ _ H vs Q E hr h=>?_
 ·obtain⟨q,tl,W,rfl,hq,hT,hl,hW,k⟩:=h
  refine ⟨_,(jb (jm (i:=1) jV.nd rfl orl (lE jc))
   (jb (jm (i:=2) jV.nd rfl orl vN)
   (jb (oh zR rfl (jP (K:=K) (pv 0)) (jk (i:=3) jV.nd rfl orl)
    (jb (jm (i:=4) jV.nd rfl orl (pcg (mU T) hr T.ce (nC T) (pav 2 (pav 3 jc))))
    (je (kE (PW.pt (xR (jl (Yo) (jL (ju (K:=K)) (pvD 3) jf (λ_ _=>rfl)) jB (jx _)) (vR (jl (CJ) (pvD 4) mR (jx _))))) (jb (jA (tD (K:=K) zP zV zW mJ (pvD 1) (pav 3 jc)))
     (je (jm (i:=2) jV.nd rfl orl (pvD 4)))) jC))))
   (je (jq (pvD 1)))))),?_⟩
  simp only[start_eq];walk_at "n";refine⟨sz,λpk aj=>?_⟩;have s1:=ji (o:=.lst []) aj;have h1:(upd H pk (.lst [])) pk=some (.lst []):=jd;generalize upd H pk (.lst [])=H1 at s1 h1;walk_at "n";intro pd am;have s2:=ji (o:=.dK []) am;have h2:(upd H1 pd (.dK [])) pd=some (.dK []):=jd;have al:=s2 _ _ h1;generalize upd H1 pd (.dK [])=H2 at s2 h2 al;have S2:=s1.trans s2
  (try dsimp only)
  refine lg λu hu=>?_;rw[ap_seq];refine tX λtb ap=>?_;rw[ap_for];walk_at "i";refine⟨⟨_,jh (S2 _ _ hq)⟩,?_⟩;subst ap
  refine Eg.listN (K:=K) (a:=q) (xs:=lZ tl) (λi σ Hx=>∃(c:Addr)(kl:EL)(kc:List (Key×V))(v3 v4:Option V),σ=[some (.ref q),some (.ref pk),some (.ref c),v3,v4]/\Same H Hx/\Hx pk=some (.lst (lZ kl))/\Hx c=some (.dK kc)/\vp kc/\kc.length<=2*i/\(∀z,jo kc z=runC (kl.map (·.2)) z)/\HB W (kl.map (·.2))/\kl.Sublist (tl.take i)/\∀r∈kl,Wr r.2=false)
   ⟨pd,[],[],_,_,rfl,S2,al,h2,Du,zm _,λ_=>rfl,.nil,yM _,λr h=>(zj h).elim⟩ (λi σ Hx _ ⟨_,_,_,_,_,_,s,_⟩=>s.seq (jh hq)) ?_ ?_
  ·rintro i y σ Hx hi ⟨c,kl,kc,v3,v4,rfl,sx,ad,ai,hH,as,hv,hF,aa,ac⟩ N hN
   obtain⟨r,ah,rfl⟩:=vq hi;have ak:=zh ah;have aw:i<tl.length:=(zk.mp ah).1;obtain⟨an,hg,ho⟩:=hT r ak;have ht:=sx _ _ an;have htk:tl.take (i+1)=tl.take i++[r]:=by rw[zK,ah];rfl
   have ax:kl.length<=i:=zS aa.length_le (by rw[zT];lia);have er:jo kc=runC (kl.map (·.2)):=funext hv;walk_at "i";walk_at "n";have ab:∀(v4:Option V) H',Same Hx H'->N [some (.ref q),some (.ref pk),some (.ref c),some (.ref r.1),v4] H':=λv4 H' s'=>hN _ _ ⟨c,kl,kc,_,v4,rfl,sx.trans s',s' _ _ ad,s' _ _ ai,hH,by lia,hv,hF,htk▸aa.trans (y6 _ _),ac⟩;refine⟨c,r.1,r.2,kc,rfl,.inl ai,hH,by lia,ht,hg,λ_ H3 s3=>?_,λaq hb p3 H3 s3 av h3=>?_⟩
   ·(try dsimp only);walk_at "i"
    refine⟨_,jE (s3 _ _ ht),.str r.2.word,by cases r.2<;>rfl,rfl,?_⟩;split
    ·exact ab _ H3 s3
    ·exact ab _ H3 s3
   ·(try dsimp only);walk_at "i"
    refine⟨_,jE (s3 _ _ ht),.str r.2.word,by cases r.2<;>rfl,rfl,?_⟩;by_cases cg:V.str r.2.word=V.str (Str.ofString "give")
    ·rw[zf (λn=>n cg)]
     exact ab _ H3 s3
    ·rw[zi cg]
     have ar:Wr r.2=false:=by rw[akb];exact zJ cg
     obtain⟨af,ao,au,ae⟩:=hb;rw[er]at af ae;have ag:=s3 _ _ ad;walk_at "n";refine⟨.inl ⟨rfl,_,jh ag⟩,_,ag,by rw[kY,zw];lia,?_⟩
     (try dsimp only);walk_at "i"
     rw[show lZ kl++[V.ref r.1]=lZ (kl++[r]) by unfold lZ;rw[zp];rfl]
     exact hN _ _ ⟨p3,kl++[r],aq,_,_,rfl,(sx.trans s3).upd aj,jd,(jn λe=>by rw[e,ag]at h3;cases h3).trans h3,ao,by lia,λz=>by rw[ae,zp];exact(congrFun (oW _ r.2) z).symm,by rw[zp];exact hF.snoc ⟨hg,ho,hW r ak⟩ af,htk▸aa.append (yM _),λx hx=>by
      rcases zD.mp hx with hx|hx
      ·exact ac x hx
      ·rw[zr.mp hx];exact ar⟩
  ·rintro σ Hx ⟨c,kl,kc,v3,v4,rfl,sx,ad,ai,hH,as,hv,hF,aa,ac⟩
   rw[kY,zX]at aa;subst hu
   (try dsimp only);walk_at "a"
   exact k pk kl Hx sx aj ad (λr hr=>⟨sx _ _ (hT r (aa.subset hr)).1,(hT r (aa.subset hr)).2⟩) aa hF ac
theorem Vr{α:Type}{p:α->Bool}{f g:α->Int}:∀{l:List α},(∀x∈l,p x=true->g x=f x)->(∀x∈l,p x=false->f x=0)->((l.filter p).map g).sum=(l.map f).sum
 |[],_,_=>rfl
 |x::l,h1,h2=>by
  have z:=Vr (l:=l) (λy q=>h1 y (.tail _ q)) λy q=>h2 y (.tail _ q);rw[zl,zI,<-z,zzb]
  cases e:p x with
  |true=>rw[zi rfl,zl,zI,h1 x (.head _) e]
  |false=>rw[zf (by decide),h2 x (.head _) e];lia
def akX:∀e:Ent,uV e=false->e.word≠Str.ofString "buy" :=λe h=>by
 cases e with
 |buy=>cases h
 |sell=>exact show¬(Str.ofString "sell" =Str.ofString "buy") by decide+kernel
 |gift=>exact show¬(Str.ofString "gift" =Str.ofString "buy") by decide+kernel
 |give=>exact show¬(Str.ofString "give" =Str.ofString "buy") by decide+kernel
 |split=>exact show¬(Str.ofString "split" =Str.ofString "buy") by decide+kernel
 |part=>exact show¬(Str.ofString "part" =Str.ofString "buy") by decide+kernel
def akF:∀e:Ent,pO e=false->e.word≠Str.ofString "sell" :=λe h=>by
 cases e with
 |buy=>exact show¬(Str.ofString "buy" =Str.ofString "sell") by decide+kernel
 |sell=>cases h
 |gift=>exact show¬(Str.ofString "gift" =Str.ofString "sell") by decide+kernel
 |give=>exact show¬(Str.ofString "give" =Str.ofString "sell") by decide+kernel
 |split=>exact show¬(Str.ofString "split" =Str.ofString "sell") by decide+kernel
 |part=>exact show¬(Str.ofString "part" =Str.ofString "sell") by decide+kernel
def ajx:∀e:Ent,pR e=false->e.word≠Str.ofString "gift" :=λe h=>by
 cases e with
 |buy=>exact show¬(Str.ofString "buy" =Str.ofString "gift") by decide+kernel
 |sell=>exact show¬(Str.ofString "sell" =Str.ofString "gift") by decide+kernel
 |gift=>cases h
 |give=>exact show¬(Str.ofString "give" =Str.ofString "gift") by decide+kernel
 |split=>exact show¬(Str.ofString "split" =Str.ofString "gift") by decide+kernel
 |part=>exact show¬(Str.ofString "part" =Str.ofString "gift") by decide+kernel
inductive uv(vs:List V)(H:Hp)(Q:VK)(E:XK):Prop
 |mk (q:Addr) (tl:EL) (_:vs=[.ref q]) (_:H q=some (.lst (lZ tl))) (_:vC H tl) (_:tl.length<=60) (_:∀t H',Same H H'->H t=none->H' t=some (.tup [.int ((tl.map (·.2)).map Nq).sum,.int ((tl.map (·.2)).map aaO).sum,.int ((tl.map (·.2)).map ajg).sum])->Q (.ref t) H'):uv vs H Q E
def Lq:kI P w K mg base CX0 1 A.aR D.aR ["_law_told"] (uv):=by
 refine T.cU.F.okv qb λ_ _ _ _ H vs Q E hr h=>?_
 ·obtain⟨q,tl,rfl,hq,hT,hl,k⟩:=h
  refine ⟨_,(jb (jm (i:=1) qb.nd rfl orl (jy (lK (K:=K) rfl) (by rfl) T.d6 (by decide+kernel) (iY (jW (cap:=[none]) (N':=["_law_row"]) rfl (by walk_at "c") (jP (K:=K) (pv 0)) (λ_ _ _ _=>(jk (i:=0) nd1 rfl orl orr)) (λ_ _ _ _=>(ul (jl (nA) (jL (ju (K:=K)) (pvD 0) jf (λ_ _=>rfl)) jB (jx _)))) (λ_ _ _ _=>(jw jZ (jw nq (jL (ju (K:=K)) (pvD 0) jf (λ_ _=>rfl)) (jL (ju (K:=K)) (pvD 0) jf (λ_ _=>rfl))) (jL (ju (K:=K)) (pvD 0) jf (λ_ _=>rfl))))) jc)))
   (jb (jm (i:=2) qb.nd rfl orl (jy (lK (K:=K) rfl) (by rfl) T.d6 (by decide+kernel) (iY (jW (cap:=[none]) (N':=["_law_row"]) rfl (by walk_at "c") (jP (K:=K) (pv 0)) (λ_ _ _ _=>(jk (i:=0) nd1 rfl orl orr)) (λ_ _ _ _=>(ul (jl (nA) (jL (ju (K:=K)) (pvD 0) jf (λ_ _=>rfl)) jB (jx _)))) (λ_ _ _ _=>(jL (ju (K:=K)) (pvD 0) jf (λ_ _=>rfl)))) jc)))
   (jb (jm (i:=3) qb.nd rfl orl (jy (lK (K:=K) rfl) (by rfl) T.d6 (by decide+kernel) (iY (jW (cap:=[none]) (N':=["_law_row"]) rfl (by walk_at "c") (jP (K:=K) (pv 0)) (λ_ _ _ _=>(jk (i:=0) nd1 rfl orl orr)) (λ_ _ _ _=>(ul (jl (nA) (jL (ju (K:=K)) (pvD 0) jf (λ_ _=>rfl)) jB (jx _)))) (λ_ _ _ _=>(jw pq (jw nq (jL (ju (K:=K)) (pvD 0) jf (λ_ _=>rfl)) (jL (ju (K:=K)) (pvD 0) jf (λ_ _=>rfl))) (jL (ju (K:=K)) (pvD 0) jf (λ_ _=>rfl))))) jc)))
   (je (jq (nM (pav 1 (pav 2 (pav 3 jc))))))))),?_⟩
  have ab:∀(p:Addr×Ent->Bool)(f:Ent->Int)(g:Addr×Ent->Int),(∀r∈tl,p r=true->g r=f r.2)->(∀r∈tl,p r=false->f r.2=0)->((tl.filter p).map g).sum=((tl.map (·.2)).map f).sum:=λp f g h1 h2=>by
   rw[zu];exact Vr h1 h2
  simp only[start_eq];walk_at "n";refine⟨⟨_,jh hq⟩,?_⟩;refine Kc (f:=λr:Addr×Ent=>V.ref r.1) (λσ=>∃a,σ=[a]) (λr=>uV r.2) (λ_ r v _=>v=.int (Nq r.2)) (jh hq) ⟨_,rfl⟩ (by lia) ?_ ?_
  ·rintro Da r aa σ H5 R1 R2 ⟨_,rfl⟩ sm hD hA k1 k2
   obtain⟨z,hg,ho⟩:=hT r aa;have z:=sm _ _ z;walk_at "i"
   cases e:r.2 with
   |buy d n w p r' f=>
    rw[e]at z hg k1;have z:H5 r.1=some (.tup [.str "buy",.int d,.int n,.str w,.int p,.int r',.int f]):=z;refine⟨_,jE z,_,rfl,rfl,?_⟩;rw[zi rfl];refine⟨_,jE z,_,rfl,_,jE z,_,rfl,_,rfl,_,rfl,Vl hg.2.1 hg.2.2.1,_,jE z,_,rfl,_,rfl,k1 rfl _ _ _ ⟨_,rfl⟩ (same_refl _) λ_ _=>rfl⟩
   |_=>
    rw[e]at z k2;refine⟨_,jE z,_,rfl,rfl,?_⟩;rw[zf (FZ (akX _ rfl))];exact k2 rfl _ _ ⟨_,rfl⟩ (same_refl _)
  intro D1 H1 ah ak s1 h1 ac;rw[rF.ints ac]at h1;rw[ap_rSum];refine⟨_,jh h1,?_⟩;rw[ab (λr=>uV r.2) Nq (λr=>Nq r.2) (λ_ _ _=>rfl) λr _ c=>by cases e:r.2<;>rw[e]at c<;>first|rfl|cases c];walk_at "n";refine⟨⟨_,jh (s1 _ _ hq)⟩,?_⟩;refine Kc (f:=λr:Addr×Ent=>V.ref r.1) (λσ=>∃a,σ=[a]) (λr=>pR r.2) (λ_ r v _=>v=.int (aaO r.2)) (jh (s1 _ _ hq)) ⟨_,rfl⟩ (by lia) ?_ ?_
  ·rintro Da r aa σ H5 R1 R2 ⟨_,rfl⟩ sm hD hA k1 k2
   obtain⟨z,hg,ho⟩:=hT r aa;have z:=(s1.trans sm) _ _ z;walk_at "i"
   cases e:r.2 with
   |gift d n w p c s=>
    rw[e]at z k1;have z:H5 r.1=some (.tup [.str "gift",.int d,.int n,.str w,.int p,.int c,.int s]):=z;refine⟨_,jE z,_,rfl,rfl,?_⟩;rw[zi rfl];exact⟨_,jE z,_,rfl,k1 rfl _ _ _ ⟨_,rfl⟩ (same_refl _) λ_ _=>rfl⟩
   |_=>
    rw[e]at z k2;refine⟨_,jE z,_,rfl,rfl,?_⟩;rw[zf (FZ (ajx _ rfl))];exact k2 rfl _ _ ⟨_,rfl⟩ (same_refl _)
  intro D2 H2 af ai s2 h2 ad;rw[rF.ints ad]at h2;rw[ap_rSum];refine⟨_,jh h2,?_⟩;rw[ab (λr=>pR r.2) aaO (λr=>aaO r.2) (λ_ _ _=>rfl) λr _ c=>by cases e:r.2<;>rw[e]at c<;>first|rfl|cases c];have S2:=s1.trans s2;walk_at "n";refine⟨⟨_,jh (S2 _ _ hq)⟩,?_⟩;refine Kc (f:=λr:Addr×Ent=>V.ref r.1) (λσ=>∃a,σ=[a]) (λr=>pO r.2) (λ_ r v _=>v=.int (ajg r.2)) (jh (S2 _ _ hq)) ⟨_,rfl⟩ (by lia) ?_ ?_
  ·rintro Da r aa σ H5 R1 R2 ⟨_,rfl⟩ sm hD hA k1 k2
   obtain⟨z,hg,ho⟩:=hT r aa;have z:=(S2.trans sm) _ _ z;walk_at "i"
   cases e:r.2 with
   |sell d n w p r' f o=>
    rw[e]at z hg k1;have z:H5 r.1=some (.tup [.str "sell",.int d,.int n,.str w,.int p,.int r',.int f,.non]):=z;refine⟨_,jE z,_,rfl,rfl,?_⟩;rw[zi rfl];refine⟨_,jE z,_,rfl,_,jE z,_,rfl,_,rfl,_,rfl,Vl hg.2.1 hg.2.2.1,_,jE z,_,rfl,_,rfl,k1 rfl _ _ _ ⟨_,rfl⟩ (same_refl _) λ_ _=>rfl⟩
   |_=>
    rw[e]at z k2;refine⟨_,jE z,_,rfl,rfl,?_⟩;rw[zf (FZ (akF _ rfl))];exact k2 rfl _ _ ⟨_,rfl⟩ (same_refl _)
  intro D3 H3 ag aj s3 h3 ae;rw[rF.ints ae]at h3;rw[ap_rSum];refine⟨_,jh h3,?_⟩;rw[ab (λr=>pO r.2) ajg (λr=>ajg r.2) (λ_ _ _=>rfl) λr _ c=>by cases e:r.2<;>rw[e]at c<;>first|rfl|cases c];have S3:=S2.trans s3
  (try dsimp only);walk_at "a"
  exact⟨sz,λt z=>k t _ (S3.trans (ji z)) (S3.free z) jd⟩
def off1{z:Addr}{q:List (Key×V)}(h:G z=some (.dK q))(e:G a=some o)(n:∀q,o≠.dK q):qR G [z] a=some o:=oV e λc=>by
 rw[zr.mp c,h]at e;exact n _ (zy e).symm
def Frz.off{hp:Addr}{kv:List (Key×V)}{k:BkD}(h:Frz A G k)(hh:G hp=some (.dK kv)):Frz A (qR G [hp]) k:=by
 have n:∀{a:Addr}{o:HO},G a=some o->(∀kv,o≠.dK kv)->qR G [hp] a=some o:=λe q=>off1 hh e q;have nl:∀{ls:RL},lD A G ls->lD A (qR G [hp]) ls:=λhL l hl=>let⟨dx,e⟩:=hL l hl;⟨dx,n e λ_ c=>by cases c⟩
 refine⟨λt z=>⟨n (h.l t z).1 λ_ c=>(by cases c),nl (h.l t z).2⟩,λt z=>n (h.p t z) λ_ c=>(by cases c),λt z=>?_,λt z=>?_,λy e t z=>n (h.y y e t z) λ_ c=>by unfold lyT at c;cases c⟩
 ·have hs:=h.s t z
  exact⟨let⟨dx,e⟩:=hs.i;⟨dx,n e λ_ c=>(by cases c)⟩,n hs.p λ_ c=>(by cases c),λr hr=>n (hs.t r hr) λ_ c=>(by cases c),hs.l⟩
 ·obtain⟨a,b,c⟩:=h.g t z
  exact⟨n a λ_ c=>(by cases c),n b λ_ c=>(by cases c),nl c⟩
theorem jz.off{H:Hp}{b z:Addr}{kv:List (Key×V)}{k:BkD}(h:jz A H b k)(hh:H z=some (.dK kv))(hn:z∉k.M b):jz A (qR H [z]) b k:=by
 have n:∀{a:Addr}{o:HO},H a=some o->(∀kv,o≠.dK kv)->qR H [z] a=some o:=λe q=>off1 hh e q
 have eM:qR (qR H [z]) (k.M b)=qR (qR H (k.M b)) [z]:=by
  funext a;unfold qR;split<;>split<;>rfl
 refine⟨h.c,let⟨dx,e⟩:=h.i;⟨dx,n e λ_ c=>(by cases c)⟩,oV h.r λc=>hn (by rw[<-zr.mp c];exact BkD.mr),n h.s λ_ c=>(by cases c),n h.g λ_ c=>(by cases c),λy e=>let⟨a,t⟩:=h.y y e;⟨n a λ_ c=>(by cases c),t⟩,h.d,?_⟩;rw[eM];exact h.z.off (oV hh hn)
def Eg.keysN{o:Obj}{g:TG}{D:_}(z:Nat->L2.St->Hp->Prop)(h0:z 0 σ H)(hl:∀i σ H,i<=kvs.length->z i σ H->H a=some (.frz o (.dK kvs)))(hs:∀(i:Nat)(kv:Key×V) σ H,kvs[i]? =some kv->z i σ H->∀N:L2.St->Hp->Prop,(∀σ H,z (i+1) σ H->N σ H)->g (kV kv.1) σ H λσ2 H2=>tb {D with nx:=N,ct:=N,bk:=D.nx} σ2 H2)(hd:∀σ H,z kvs.length σ H->D.nx σ H):Eg (Itk a o kvs) g tb D σ H:=
 Eg.keys z h0 hl (λi kv σ H h p=>hs i kv σ H h p _ λ_ _ q=>q) hd
def amH{a b d:Int}(h:lt2 (a,b) (c,d)):xH [a,b] [c,d] false=true:=by
 unfold lt2 at h;dsimp only at h;unfold xH;by_cases e:a=c
 ·rw[zi e]
  unfold xH;rw[zf (by lia)];exact zH (by lia)
 ·rw[zf e]
  exact zH (by lia)
noncomputable def ktT(H:Hp):V->List Int
 |.ref b=>match H b with
  |some (.tup vs)=>vs.map amW
  |_=>[]
 |_=>[]
def PlV(H:Hp)(l:Addr×jD)(v:V):Prop:=∃t,v=.ref t/\H t=some (.tup [.int l.2.s,.int l.2.n])
def PlV.kt{l:Addr×jD}(h:PlV H l v):ktT H v=[l.2.s,l.2.n]:=by
 obtain⟨t,rfl,e⟩:=h;unfold ktT
 try dsimp only
 rw[e];rfl
theorem a2m{α:Type}{P:α->V->Prop}:∀{ys:List α}{vs:List V},rF P ys vs->∀v∈vs,∃y∈ys,P y v
 |[],[],_=>λv h=>(zj h).elim
 |_::_,_::_,h=>λv q=>by
  rcases zx.mp q with rfl|q
  ·exact⟨_,.head _,h.1⟩
  ·obtain⟨y,z,e⟩:=a2m h.2 v q
   exact⟨y,.tail _ z,e⟩
 |[],_::_,h=>h.elim
 |_::_,[],h=>h.elim
theorem a2l{α:Type}{P:α->V->Prop}:∀{ys:List α}{vs:List V},rF P ys vs->vs.length=ys.length
 |[],[],_=>rfl
 |_::_,_::_,h=>by rw[zG,zG,a2l h.2]
 |[],_::_,h=>h.elim
 |_::_,[],h=>h.elim
theorem XQ{H:Hp}:∀{ls:RL}{acc:List V},rF (PlV H) ls acc->(pls ls).Pairwise lt2->acc.Pairwise λy z=>xH (ktT H y) (ktT H z) false=true
 |[],[],_,_=> .nil
 |l::ls,v::acc,h,q=>by
  have q:(plD l.2::pls ls).Pairwise lt2:=q;refine .cons (λz hz=>?_) (XQ h.2 (List.pairwise_cons.mp q).2);obtain⟨m,hm,e⟩:=a2m h.2 z hz;rw[PlV.kt h.1,e.kt];exact amH ((List.pairwise_cons.mp q).1 _ (zc.mpr ⟨m.2,zc.mpr ⟨m,hm,rfl⟩,rfl⟩))
 |[],_::_,h,_=>h.elim
 |_::_,[],h,_=>h.elim
def amv{ls:RL}{zs:List V}(h:rF (PlV H) ls acc)(ho:(pls ls).Pairwise lt2)(hp:zs.Perm acc)(hs:∀m,(∀y∈acc,(ktT H y).length=m)->(acc.map (ktT H)).Nodup->zs.Pairwise λy z=>xH (ktT H y) (ktT H z) false=true):zs=acc:=by
 have hl:∀y∈acc,(ktT H y).length=2:=λy hy=>by
  obtain⟨m,_,e⟩:=a2m h y hy;rw[e.kt];rfl
 have hA:=XQ h ho;have hZ:=hs 2 hl (zY.mpr (hA.imp fun{a b} q e=>by rw[e,Og]at q;cases q));refine List.Perm.eq_of_pairwise (λa b ha hb x y=>?_) hZ hA hp;have la:=hl a (hp.mem_iff.mp ha);have lb:=hl b hb;have:=Zk (by rw[la,lb]) (by rw[la,lb]) x y;rw[Og]at this;cases this
inductive vH(A:Adr)(vs:List V)(H:Hp)(Q:VK)(E:XK):Prop
 |mk (b hp:Addr) (k:BkD) (W:List Str) (ns:List Int) (kv:List (Key×V)) (_:vs=[.ref b,.ref hp]) (_:jz A H b k) (_:KZ ns W k.rs) (_:W.length<=6) (_:ns.length<=59) (_:hp∉k.M b) (_:H hp=some (.dK kv)) (_:vp kv) (_:kv.length<=59) (_:(∀z,jo kv z=pcs (rowOf k.rs z))) (_:∀H',Same H H'->Q (.bl true) H'):vH A vs H Q E
def Fl:kI P w K mg base CX0 3 A.aV D.aV ["_law_book", "_law_held"] (vH A):=by
 refine T.cY.F.okv mL λ_ _ _ _ H vs Q E hr h=>?_
 ·obtain⟨b,hp,kb,W,ns,kv,rfl,hB,hO,hW,hN,ao,hh,hH,bl,hv,k⟩:=h
  refine ⟨_,(jb (kE (jl (aiQ hr) (mG (pv 0) (mc T.fs T.ge (ud T) hr (vW T) (mc T.fA T.gf (ud T) hr (vW T) .nil)) jR) (pvD 1) (jx _)) (je (jq FJ)) jC)
   (jb (oh zR rfl (akc (pvD 1)) (jk (i:=2) mL.nd rfl orl)
    (jb (jm (i:=3) mL.nd rfl orl (jN (pv 0) (mc T.fs T.gg (kJ T) hr (lw T) (mc T.fA T.gh (kJ T) hr (lw T) .nil)) jR (pav 2 jc)))
    (jb (nT (i:=4) mL.nd rfl rfl (cap:=[none]) (N':=["_law_lot"]) rfl (by walk_at "c") (jP (K:=K) (pv 3)) (λ_ _ _ _=>(jk (i:=0) nd1 rfl orl orr)) (λ_ _ _ _=>kh) (λ_ _ _ _=>(nM (iY (fv K 0) (iY (fv K 0) jc)))))
    (jb (kE (PW.pt (GP (jl (ajW (K:=K) hr) (pvD 4) (jy (Tt (K:=K)) (by rfl) T.dZ (by decide+kernel) (pav 4 jc)) (jx _)) (BV (jl (Dr) (jy Ze (by rfl) T.dT (by decide+kernel) (iY (mZ (TJ (K:=K) rfl) (by rfl) T.d7 (by decide+kernel) (iY (jW (cap:=[none]) (N':=["_law_lot"]) rfl (by walk_at "c") (jP (K:=K) (pv 3)) (λ_ _ _ _=>(jk (i:=0) nd1 rfl orl orr)) (λ_ _ _ _=>kh) (λ_ _ _ _=>(fv K 0))) jc)) jc)) (jy (lX (K:=K)) (by rfl) T.dT (by decide+kernel) (pav 3 jc)) (jx _))))) (je (jq FJ)) jC)
    (jb (nT (i:=5) mL.nd rfl rfl (cap:=[none]) (N':=["_law_lot"]) rfl (by walk_at "c") (jP (K:=K) (pv 3)) (λ_ _ _ _=>(jk (i:=0) nd1 rfl orl orr)) (λ_ _ _ _=>kh) (λ_ _ _ _=>(fv K 0)))
    (je (kE (PW.pt (GP (jl (Yo) (jy (lK (K:=K) rfl) (by rfl) T.d6 (by decide+kernel) (pav 5 jc)) (nY (oK hr) (pvD 1) (pvD 2) (λ_ _=>rfl)) (jx _)) (BV (jl (Dr) (jy (Wm (K:=K) rfl) (by rfl) T.dV (by decide+kernel) (pav 5 jc)) jf (jx _))))) (je (jq FJ)) jC)))))))
   (je (jq (Sy FJ))))),?_⟩
  obtain⟨db,hb⟩:=hB.i;simp only[start_eq];walk_at "n";refine md hb hB.me (kb.noM _ (by decide+kernel)) ⟨b,kb,ns,W,rfl,hB,hO,by lia,by lia,λp bc H1 s1 bj h1 aw bi ar _=>?_⟩;refine⟨p,hp,_,_,rfl,rfl,.inl h1,.inl (s1 _ _ hh),Mv aw hH λz=>(ar z).trans (hv z).symm,_,rfl,?_⟩;rw[zf (by decide)];have aj:=s1 _ _ hh;have au:=(hB.same s1).off aj ao;refine lg λu hu=>?_;rw[ap_seq];refine tX λtb aq=>?_;rw[ap_for];walk_at "i";refine⟨_,aj,λo=>?_⟩;subst aq
  refine Eg.keysN (λi σ Hx=>∃(v2 v3 v4 v5:Option V),σ=[some (.ref b),some (.ref hp),v2,v3,v4,v5]/\Same (qR H1 [hp]) Hx/\Hx hp=some (.frz o (.dK kv)))
   ⟨_,_,_,_,rfl,λa u e=>(jn λc=>tM e (by rw[c];exact .head _)).trans (sE _ _ e),jd⟩ (λi σ Hx _ ⟨_,_,_,_,_,_,q⟩=>q) ?_ ?_
  ·rintro i bk σ Hx hi ⟨v2,v3,v4,v5,rfl,sx,hx⟩ N hN
   obtain⟨z,n,rfl,bh⟩:=hH.k _ (zh hi);have ah:=au.same sx;obtain⟨bf,as⟩:=ah.i;have ab:=hO.row z
   have az:(rowOf kb.rs z).length<=59:=by
    have:=Ej ab.u λn hn=>by
     obtain⟨q,hq,rfl⟩:=zc.mp hn;exact ab.m q hq
    rw[za]at this;lia
   walk_at "i";walk_at "n";refine md as ah.me (kb.noM _ (by decide+kernel)) ⟨b,z,kb,rfl,ah,λl H2 s2 bg ad hL=>?_⟩;walk_at "n";refine⟨⟨_,jh ad⟩,?_⟩;refine Kc (f:=λr:Addr×jD=>V.ref r.1) (λσ=>∃a,σ=[a]) (λ_=>true) (λ_ r v H'=>PlV H' r v) (jh ad) ⟨_,rfl⟩ (by lia) ?_ ?_
   ·rintro Da r ae σ H5 R1 R2 ⟨_,rfl⟩ sm hD ⟨ac,hA⟩ k1 k2
    obtain⟨dx,aa⟩:=hL r ae;have aa:=sm _ _ aa;walk_at "i";exact rd aa T.fK T.fM rfl (rd aa T.fK T.fL rfl ⟨sz,λt ht=>k1 rfl _ _ _ ⟨_,rfl⟩ (ji ht) λH' hb=>⟨t,rfl,hb _ _ (λc=>by rw[c,hA]at ht;cases ht) jd⟩⟩)
   intro D1 H3 acc be s3 h3 hF;rw[yE.mpr λ_ _=>rfl]at hF;walk_at "n";refine⟨_,jh h3,by rw[a2l hF];lia,ktT H3,λy hy=>?_,λp2 zs ap ai an=>?_⟩
   ·obtain⟨m,_,e⟩:=a2m hF y hy
    rw[e.kt];obtain⟨t,rfl,ht⟩:=e;exact⟨by simp,t,rfl,jE ht⟩
   obtain rfl:=amv hF ab.o ai an;have s4:=ji (o:=.lst zs) ap;have h4:(upd H3 p2 (.lst zs)) p2=some (.lst zs):=jd;generalize upd H3 p2 (.lst zs)=H4 at s4 h4;have S4:=s3.trans s4;refine⟨_,jh (s4 _ _ h3),_,jh h4,.inr ⟨rfl,λv hv=>?_,⟨_,jh (S4 _ _ ad)⟩,?_⟩⟩
   ·obtain⟨m,_,t,e,_⟩:=a2m hF v hv
    exact⟨t,e⟩
   refine Kc (f:=λr:Addr×jD=>V.ref r.1) (λσ=>∃a,σ=[a]) (λ_=>true) (λ_ r v _=>v=.int r.2.n) (jh (S4 _ _ ad)) ⟨_,rfl⟩ (by lia) ?_ ?_
   ·rintro Da r ae σ H5 R1 R2 ⟨_,rfl⟩ sm hD ⟨ac,hA⟩ k1 k2
    obtain⟨dx,aa⟩:=hL r ae;have aa:=(S4.trans sm) _ _ aa;walk_at "i";exact rd aa T.fK T.fL rfl (k1 rfl _ _ _ ⟨_,rfl⟩ (same_refl _) λ_ _=>rfl)
   intro D2 H5 ay bb s5 h5 ak;rw[yE.mpr λ_ _=>rfl]at ak;rw[rF.ints ak]at h5;rw[ap_setOf];refine⟨_,jh h5,by rw[za];lia,λsl S n' av bm ax=>?_⟩;rw[ap_lenSet];refine⟨S,n',jd,?_⟩;have s6:=ji (o:=.set S n') av;generalize upd H5 sl (.set S n')=H6 at s6;have S6:=(S4.trans s5).trans s6;refine⟨_,.inl (jh (S6 _ _ ad)),_,rfl,?_⟩;rw[zf (by rw[ax ab.u,za];unfold jH;rw[za];lia)];walk_at "n";refine⟨⟨_,jh (S6 _ _ ad)⟩,?_⟩;refine Kc (f:=λr:Addr×jD=>V.ref r.1) (λσ=>∃a,σ=[a]) (λ_=>true) (λ_ r v _=>v=.int r.2.p) (jh (S6 _ _ ad)) ⟨_,rfl⟩ (by lia) ?_ ?_
   ·rintro Da r ae σ H5 R1 R2 ⟨_,rfl⟩ sm hD ⟨ac,hA⟩ k1 k2
    obtain⟨dx,aa⟩:=hL r ae;have aa:=(S6.trans sm) _ _ aa;walk_at "i";exact rd aa T.fK T.fN rfl (k1 rfl _ _ _ ⟨_,rfl⟩ (same_refl _) λ_ _=>rfl)
   intro D3 H7 ba bd s7 h7 al;rw[yE.mpr λ_ _=>rfl]at al;rw[rF.ints al]at h7;have S7:=(sx.trans s2).trans (S6.trans s7);have am:=(s2.trans (S6.trans s7)) _ _ hx
   have af:0<jo kv z:=by
    obtain⟨z',e,q⟩:=(DR hH).mp (zc.mpr ⟨_,zh hi,rfl⟩);cases e;exact q
   have hG:Va H7 hp (V.str z) (some (.int (jo kv z))):=.inl ⟨_,Sum.inr z,.inr ⟨o,am⟩,rfl,(by rw[hH.val,zi af])⟩
   (try dsimp only)
   walk_at "a";have ag:((rowOf kb.rs z).map (·.2.p)).sum=jo kv z:=(hv z).symm;refine⟨_,jh h7,_,hG,rfl,?_⟩;rw[zf (λc=>c (by rw[<-ag]))];refine⟨_,jh h7,λc=>?_,λm hm _=>?_⟩
   ·rw[c]at ag
    rw[<-ag]at af;cases af
   ·obtain⟨q,hq,rfl⟩:=zc.mp hm
    rw[zf (by have:=ab.p q hq;lia)];exact hN _ _ ⟨_,_,_,_,rfl,S7,am⟩
  ·rintro σ Hx ⟨v2,v3,v4,v5,rfl,sx,hx⟩
   subst hu
   (try dsimp only)
   walk_at "a";refine⟨hp,o,kv,hx,λo u c=>?_,k _ λa u e=>?_⟩
   ·have c:H hp=some (.frz o u):=c
    rw[hh]at c;cases c
   ·by_cases c:a=hp
    ·subst c
     rw[hh]at e;rw[<-e];exact jd
    ·exact(jn c).trans (sx _ _ (oV (s1 _ _ e) λq=>c (zr.mp q)))
def ahQ{rs:RW}(h:z∉rs.map (·.1)):rowOf rs z=[]:=by
 rcases akS rs z with⟨t,h1,h2,_,_⟩|⟨_,h2,_⟩
 ·exact(h (zc.mpr ⟨t,h1,h2⟩)).elim
 ·exact h2
theorem Ly{W:List Str}(hu:W.Nodup):∀{rs:RW},(rs.map (·.1)).Nodup->(∀t∈rs,t.1∈W)->uT W rs=(rs.map λt=>cst t.2.2).sum
 |[],_,_=>IK W
 |t::rs,hn,hw=>by
  have hn:=zN.mp hn;rw[zl,zI,<-Ly hu hn.2 λq hq=>hw q (.tail _ hq)]
  have e:uT W (t::rs)=(W.map λz=>if z=t.1 then lH t.2.2 else lH (rowOf rs z)).sum:=by
   unfold uT;congr 1;refine zQ λz _=>?_;rw[rowOf];by_cases c:z=t.1
   ·rw[zi c,zi c.symm]
   ·rw[zf c,zf λq=>c q.symm]
  rw[e,aak (f:=λz=>lH (rowOf rs z)) hu (hw t (.head _)),ahQ hn.1,nG t.2.2];show uT W rs - 0+cst t.2.2=_;lia
theorem XD:∀sl:List (Addr×kj),(sl.map λt=>t.2.cnt).sum=(sl.map λt=>prD t.2.dat).sum - (sl.map λt=>coD t.2.dat).sum+(sl.map λt=>sW t.2.dat).sum
 |[]=>rfl
 |t::sl=>by
  simp only[zl,zI];rw[XD sl];have h1:prD t.2.dat=t.2.pr:=rfl;have h2:coD t.2.dat=t.2.co:=rfl
  have q:t.2.cnt=prD t.2.dat - coD t.2.dat+sW t.2.dat:=by
   unfold sW kj.cnt;rw[h1,h2];show(if t.2.lo=none then _ else _)=_+(if t.2.lo=none then _ else _);split<;>lia
  lia
theorem Nz:∀sl:List (Addr×kj),((sl.filter λt=>decide (t.2.lo≠none)).map λt=> -(t.2.pr - t.2.co)).sum=(sl.map λt=>sW t.2.dat).sum
 |[]=>rfl
 |t::sl=>by
  rw[zl,zI,zzb,<-Nz sl];show _=(if t.2.lo=none then(0:Int)else -(t.2.pr - t.2.co))+_;by_cases c:t.2.lo=none
  ·rw[zi c,zf (by rw[c];decide)];lia
  ·rw[zf c,zi (zH c),zl,zI]
def alz(K:Fg_):R2:=λx y H Q=>∃(a b:Addr)(ns:List Int),x=.ref a/\y=.ref b/\SqT K H a (ns.map V.int)/\SqT K H b (ns.map V.int)/\Q (.bl false) H
theorem aks{X:Cx}{k:Nat}(hr:qY k X.A)(hK:X.K=K:=by rfl):OpR X (compareOp .NotEq) (alz K):=by
 subst hK;intro pins s σ H x y v u Q I rx ry h;obtain⟨a,b,ns,rfl,rfl,h1,h2,q⟩:=h;have hr':=hr.units;cases rx;cases ry;obtain⟨i1,r1,p1,_⟩:=I.tuple h1;obtain⟨z,r2,p2,_⟩:=I.tuple h2;have l1:=r1.length;have l2:=r2.length;refine SeqAt.RcNeAt.tuples (A:=X.A) (e:=λ_=>true) p1 p2 (by lia) (λj a b=>?_) X.prog X.w X.xe _ ⟨.bl false,H,I,?_,q⟩
 ·simp only[zt]at a b
  have a1:j<(ns.map V.int).length:=by lia
  obtain⟨w1,e1,q1⟩:=r1.get (i:=j) (x:=(ns.map V.int)[j]) (by simp[a1]);obtain⟨w2,e2,q2⟩:=r2.get (i:=j) (x:=(ns.map V.int)[j]) (by simp[a1]);rw[ye]at q1 q2;obtain⟨t1,rfl⟩:=(show∃t,w1=Value.int _ t from q1);obtain⟨t2,rfl⟩:=(show∃t,w2=Value.int _ t from q2);have z1:i1.toArray[j]=Value.int (ns[j]'(by simpa using a1)) t1:=by simpa [a] using e1
  have z2:z.toArray[j]=Value.int (ns[j]'(by simpa using a1)) t2:=by simpa [b] using e2
  rw[z1,z2];have:=SeqAt.EqAt.int_int (A:=X.A.in1) (s:=s) (ns[j]'(by simpa using a1)) t1 (ns[j]'(by simpa using a1)) t2
  rwa [beq_self_eq_true]at this
 ·have e:((List.range (min i1.toArray.size z.toArray.size)).all (λ_=>true) && i1.toArray.size==z.toArray.size)=true:=by simp;lia
  rw[e];rfl
def aid{p:Addr}{xs ys:List Int}(h1:SqT K H p (xs.map V.int))(h2:SqT K H q (ys.map V.int))(e:xs=ys)(z:Q (.bl false) H):alz K (.ref p) (.ref q) H Q:=⟨p,q,ys,rfl,rfl,e▸h1,h2,z⟩
def YQ{ns:List Int}{rs:RW}(h:KZ ns W rs)(h0:∀z,pcs (rowOf rs z)=0):rs=[]:=by
 cases e:rs with
 |nil=>rfl
 |cons t rs'=>
  exfalso;have q:t∈rs:=by rw[e];exact zg
  have h1:=h0 t.1;rw[e,rowOf,zi rfl]at h1;have h2:=xN (h.n t q).2.p;exact(h.n t q).1 (zzc.mp (by lia))
inductive uU(A:Adr)(vs:List V)(H:Hp)(Q:VK)(E:XK):Prop
 |mk (b tp hp:Addr) (k:BkD) (W:List Str) (ns:List Int) (tl:EL) (kv:List (Key×V)) (_:vs=[.ref b,.ref tp,.ref hp]) (_:jz A H b k) (_:StB W ns (tl.map (·.2)) k) (_:W.Nodup) (_:W.length<=6) (_:ns.length<=59) (_:tl.length<=59) (_:H tp=some (.lst (lZ tl))) (_:vC H tl) (_:(∀r∈tl,Wr r.2=false)) (_:hp∉k.M b) (_:H hp=some (.dK kv)) (_:vp kv) (_:kv.length<=59) (_:(∀z,jo kv z=pcs (rowOf k.rs z))) (_:∀H',Same H H'->Q (.bl true) H'):uU A vs H Q E
def uQ:kI P w K mg base CX0 5 A.a0 D.a0 ["_law_book", "_law_told", "_law_held"] (uU A):=by
 refine T.c3.F.okv mK λ_ _ _ _ H vs Q E hr h=>?_
 ·obtain⟨b,tp,hp,kb,W,ns,tl,kv,rfl,hB,hS,bh,hW,hN,hl,be,hT,bc,as,hh,hH,bf,hv,k⟩:=h
  refine ⟨_,(jb (jm (i:=3) mK.nd rfl orl (mG (pv 0) (mc T.fs T.gi (Gg T) hr (IV T) (mc T.fA T.gj (Gg T) hr (IV T) .nil)) jR))
   (jb (jm (i:=4) mK.nd rfl orl (jw jZ (jw jZ (nY (oK hr) (pvD 3) jB (λ_ _=>rfl)) (nY (oK hr) (pvD 3) jB (λ_ _=>rfl))) (nY (oK hr) (pvD 3) jB (λ_ _=>rfl))))
   (jb (kE (jl (Yo) (pvD 4) (jw jZ (jw jZ (nY (oK hr) (pvD 3) jB (λ_ _=>rfl)) (nY (oK hr) (pvD 3) jB (λ_ _=>rfl))) (nY (oK hr) (pvD 3) jB (λ_ _=>rfl))) (jx _)) (je (jq FJ)) jC)
   (jb (kE (jl (aks (K:=K) hr) (nM (iY (nY (oK hr) (pvD 3) jB (λ_ _=>rfl)) (iY (nY (oK hr) (pvD 3) jB (λ_ _=>rfl)) (iY (nY (oK hr) (pvD 3) jB (λ_ _=>rfl)) jc)))) (pcg (Lq T) hr T.cU (Om T) (pav 1 jc)) (jx _)) (je (jq FJ)) jC)
   (jb (jm (i:=5) mK.nd rfl orl (jy (lK (K:=K) rfl) (by rfl) T.d6 (by decide+kernel) (iY (jW (cap:=[none]) (N':=["_law_sale"]) rfl (by walk_at "c") (lM (K:=K) (mG (pv 0) (mc T.fs T.gk (qT T) hr (uc T) (mc T.fA T.gl (qT T) hr (uc T) .nil)) jR)) (λ_ _ _ _=>(jk (i:=0) nd1 rfl orl orr)) (λ_ _ _ _=>(ul (jl (CJ) (fv K 0) mR (jx _)))) (λ_ _ _ _=>(jw pq jf (mG (pv 0) (mc T.fl T.gd (oJ T) hr (pN T) .nil) jR)))) jc)))
   (jb (kE (PW.pt (GP (jl (Yo) (pvD 5) (nY (oK hr) (pvD 3) jB (λ_ _=>rfl)) (jx _)) (BV (LC (qp (pcg (Fl T) hr T.cY (Hg T) (pav 0 (pav 2 jc)))))))) (je (jq FJ)) jC)
   (jb (kE (jl (amm hr) (pvD 2) vN (jx _)) (jb (jm (i:=6) mK.nd rfl orl (jy (lK (K:=K) rfl) (by rfl) T.d6 (by decide+kernel) (iY (jW (cap:=[none]) (N':=["_law_sale"]) rfl (by walk_at "c") (lM (K:=K) (mG (pv 0) (mc T.fs T.gk (qT T) hr (uc T) (mc T.fA T.gl (qT T) hr (uc T) .nil)) jR)) (λ_ _ _ _=>(jk (i:=0) nd1 rfl orl orr)) (λ_ _ _ _=>kh) (λ_ _ _ _=>(mG (pv 0) (mc T.fl T.gm (Jq T) hr (Ky T) .nil) jR))) jc)))
    (je (jq (Qz (uP (nA) (nY (oK hr) (pvD 3) jB (λ_ _=>rfl)) jf (jx _)) (Ur (uP (nA) (pvD 6) (jw pq (jw pq (nY (oK hr) (pvD 3) jB (λ_ _=>rfl)) (nY (oK hr) (pvD 3) jB (λ_ _=>rfl))) (nY (oK hr) (pvD 3) jB (λ_ _=>rfl))) (jx _))))))) jC)
   (je (jq FJ))))))))),?_⟩
  obtain⟨db,hb⟩:=hB.i;have bd:=hS.sl;rw[za]at bd
  have af:=hS.bal.v λe he=>by
   obtain⟨r,hr,rfl⟩:=zc.mp he;exact bc r hr
  have aj:=λf h=>kb.noM f h;have ad:=Ly bh hS.r.u hS.r.w;have al:=hS.bal.b;have hg:Wl kb=0:=by unfold Wl;rw[af];rfl
  have v2:(kb.gv.map λt=>cst t.2.2.2).sum=0:=by rw[af];rfl
  have ai:(kb.sl.map λt=>t.2.co).sum=Gq kb:=rfl;have ab:(kb.sl.map λt=>t.2.pr).sum=Bv kb:=rfl;have aa:((kb.sl.filter λt=>decide (t.2.lo≠none)).map λt=> -(t.2.pr - t.2.co)).sum=Dp kb:=Nz kb.sl;simp only[start_eq];walk_at "n";refine md hb hB.me (aj _ (by decide+kernel)) ⟨b,kb,W,ns,rfl,hB,hS.r,hW,by lia,by lia,by rw[af];decide,λt ht=>by rw[af]at ht;exact(zj ht).elim,λp1 H1 s1 br h1=>?_⟩;have dg:∀{H8:Hp}{z:Str}{i:Int},Same H1 H8->oM (Wo kb) (Sum.inr z)=some (.int i)->Va H8 p1 (V.str z) (some (.int i)):=fun{H8 z i} s e=>e▸Za (k:=Sum.inr z) (s _ _ h1)
  iterate 2 (walk_at "n";refine⟨_,dg (same_refl _) rfl,_,dg (same_refl _) rfl,_,rfl,_,rfl,_,dg (same_refl _) rfl,_,rfl,?_⟩)
  rw[zf (λc=>c (by rw[aa,ai,v2,<-ad];lia))];walk_at "n";refine⟨_,dg (same_refl _) rfl,_,dg (same_refl _) rfl,_,dg (same_refl _) rfl,sz,λp2 ay=>?_⟩;have s2:=ji (o:=.tup ([kb.paid,kb.brought,(kb.sl.map λt=>t.2.pr).sum].map V.int)) ay;have h2:(upd H1 p2 (.tup ([kb.paid,kb.brought,(kb.sl.map λt=>t.2.pr).sum].map V.int))) p2=some (.tup ([kb.paid,kb.brought,(kb.sl.map λt=>t.2.pr).sum].map V.int)):=jd;show uv _ (upd H1 p2 (.tup ([kb.paid,kb.brought,(kb.sl.map λt=>t.2.pr).sum].map V.int))) _ _;generalize upd H1 p2 (.tup ([kb.paid,kb.brought,(kb.sl.map λt=>t.2.pr).sum].map V.int))=H2 at s2 h2;have S2:=s1.trans s2;refine⟨tp,tl,rfl,S2 _ _ be,hT.same S2,by lia,λp3 H3 s3 bs h3=>?_⟩;have h3:H3 p3=some (.tup ([((tl.map (·.2)).map Nq).sum,((tl.map (·.2)).map aaO).sum,((tl.map (·.2)).map ajg).sum].map V.int)):=h3;refine aid (jE (s3 _ _ h2)) (ys:=[((tl.map (·.2)).map Nq).sum,((tl.map (·.2)).map aaO).sum,((tl.map (·.2)).map ajg).sum]) (jE h3) (by rw[ab,hS.bal.p,hS.bal.r,hS.bal.s]) ⟨_,rfl,?_⟩;rw[zf (by decide)];have S3:=S2.trans s3;have ak:=hB.same S3;obtain⟨bn,bg⟩:=ak.i;walk_at "n";refine md bg ak.me (aj _ (by decide+kernel)) ⟨b,kb,rfl,ak,by lia,λq sl H4 s4 hq h4 av ar=>?_⟩;have bl:sl.length=kb.sl.length:=by simpa using congrArg List.length ar
  refine⟨q,rfl,⟨_,jh h4⟩,?_⟩;refine Kc (f:=λt:Addr×kj=>V.ref t.1) (λσ=>∃v,σ=[v]) (λt=>decide (t.2.lo≠none)) (λ_ t v _=>v=.int (0 - (t.2.pr - t.2.co))) (jh h4) ⟨_,rfl⟩ (by lia) ?_ ?_
  ·rintro Da t ht σ H5 R1 R2 ⟨_,rfl⟩ sm hD hA k1 k2
   have ac:=(av t ht).1.same sm;obtain⟨dt,hi⟩:=ac.i;walk_at "i";refine rd hi T.fl T.fr (by rfl) ?_
   cases am:t.2.lo with
   |none=>
    rw[zf (λc=>c rfl)];exact k2 (by show decide (t.2.lo≠none)=_;rw[am];rfl) _ _ ⟨_,rfl⟩ (same_refl _)
   |some i=>
    rw[zi (by intro c;cases c)];exact md hi zg (by rfl) ⟨t.1,t.2,rfl,ac,λH7 s7=>⟨_,rfl,k1 (by show decide (t.2.lo≠none)=_;rw[am];rfl) _ _ _ ⟨_,rfl⟩ s7 λ_ _=>rfl⟩⟩
  intro D5 H5 akJ bp s5 h5 aw;rw[rF.ints aw]at h5;rw[ap_rSum];refine⟨_,jh h5,?_⟩
  have ag:((sl.filter λt=>decide (t.2.lo≠none)).map λt=>0 - (t.2.pr - t.2.co)).sum=Dp kb:=by
   have e1:=Nz sl;have e2:=congrArg (List.map sW) ar;rw[zu,zu]at e2;have e3:(sl.map λt=>sW t.2.dat)=kb.sl.map λt=>sW t.2.dat:=e2;unfold Dp;rw[<-e3,<-e1];congr 1;exact zQ λt _=>by lia
  have S5:=S3.trans (s4.trans s5);have au:=hB.same S5;rw[ag];walk_at "n";refine⟨_,dg (s2.trans (s3.trans (s4.trans s5))) rfl,rfl,?_⟩;rw[zf (λc=>c (by rw[aa]))];refine⟨b,hp,kb,W,ns,kv,rfl,au,hS.r,hW,hN,as,S5 _ _ hh,hH,bf,hv,λH6 s6=>⟨_,rfl,?_⟩⟩;rw[zf (by decide)];have S6:=S5.trans s6;have bj:Same H1 H6:=(s2.trans (s3.trans (s4.trans s5))).trans s6;walk_at "n";intro p7 bi;have s7:=ji (o:=.dK []) bi;have h7:(upd H6 p7 (.dK [])) p7=some (.dK []):=jd;generalize upd H6 p7 (.dK [])=H7 at s7 h7;have S7:=S6.trans s7;have az:=bj.trans s7;refine⟨kv,.inl (S7 _ _ hh),.inl h7,?_⟩;by_cases c0:kv.length=0
  ·rw[zi c0]
   have bb:kb.rs=[]:=YQ hS.r λz=>by
    rw[<-hv z,zzc.mp c0];rfl
   have ah:=hB.same S7;obtain⟨bo,ax⟩:=ah.i;walk_at "n";refine md ax ah.me (aj _ (by decide+kernel)) ⟨b,kb,rfl,ah,by lia,λq sl H8 s8 hq h8 ba ao=>?_⟩;have bk:sl.length=kb.sl.length:=by simpa using congrArg List.length ao
   refine⟨q,rfl,⟨_,jh h8⟩,?_⟩;refine Kc (f:=λt:Addr×kj=>V.ref t.1) (λσ=>∃v,σ=[v]) (λ_=>true) (λ_ t v _=>v=.int t.2.cnt) (jh h8) ⟨_,rfl⟩ (by lia) ?_ ?_
   ·rintro Da t ht σ H5 R1 R2 ⟨_,rfl⟩ sm hD hA k1 k2
    have ac:=(ba t ht).1.same sm;obtain⟨dt,hi⟩:=ac.i;walk_at "i";exact md hi zg (by rfl) ⟨t.1,t.2,rfl,ac,λH7 s7=>k1 rfl _ _ _ ⟨_,rfl⟩ s7 λ_ _=>rfl⟩
   intro D9 H9 bm bq s9 h9 ap;rw[yE.mpr λ_ _=>rfl]at ap;rw[rF.ints ap]at h9;rw[ap_rSum];refine⟨_,jh h9,?_⟩
   have ef:∀f:akQ->Int,(sl.map λt=>f t.2.dat)=kb.sl.map λt=>f t.2.dat:=λf=>by
    have:=congrArg (List.map f) ao;rw[zu,zu]at this;exact this
   have aq:(sl.map λt=>t.2.cnt).sum=Bv kb - Gq kb+Dp kb:=by
    rw[XD,ef,ef,ef];rfl
   rw[aq];have an:(kb.rs.map λt=>cst t.2.2).sum=0:=by rw[bb];rfl
   have ae:=az.trans (s8.trans s9)
   (try dsimp only)
   walk_at "a";refine⟨_,dg ae rfl,rfl,?_⟩;rw[zi (by rw[an])];refine⟨_,dg ae rfl,_,dg ae rfl,_,rfl,_,rfl,_,dg ae rfl,_,rfl,?_⟩;rw[ab,zH (by rw[ad,an]at al;lia)];exact k _ (S7.trans (s8.trans s9))
  ·rw[zf c0]
   walk_at "a";exact k _ S7
def anQ(e:Ent)(q:V):atI (.str e.word::e.args q) 1=some (.int e.day):=by cases e<;>rfl
def Yd{q:List (Key×V)}(h:vp q):∃ks:List (Str×Int),q=ks.map (λp=>((Sum.inr p.1:Key),V.int p.2)):=by
 have:∀l:List (Key×V),(∀kv∈l,∃(z:Str)(i:Int),kv=(Sum.inr z,.int i)/\1<=i)->∃ks:List (Str×Int),l=ks.map (λp=>((Sum.inr p.1:Key),V.int p.2)):=by
  intro l
  induction l with
  |nil=>exact λ_=>⟨[],rfl⟩
  |cons x l ih=>
   intro h;obtain⟨z,i,e,_⟩:=h x (.head _);obtain⟨ks,ek⟩:=ih λkv hk=>h kv (.tail _ hk);exact⟨(z,i)::ks,by rw[e,ek];rfl⟩
 exact this q h.k
def Rm{e:Ent}(h:e.good):Base e.day e.num e.ware:=by cases e<;>exact h.1
theorem Ng{W:List Str}{z:Str}(hz:z∉W):∀(es:List Ent)(c:Str->Int),(∀e∈es,e.ware∈W/\e.oth∈W)->c z=0->es.foldl aiI c z=0
 |[],_,_,h=>h
 |e::es,c,h,h0=>by
  refine Ng hz es _ (λd hd=>h d (.tail _ hd)) ?_;have hw:z≠e.ware:=λq=>hz (q▸(h e (.head _)).1);have ho:z≠e.oth:=λq=>hz (q▸(h e (.head _)).2)
  cases e with
  |buy=>exact(zf hw).trans h0
  |gift=>exact(zf hw).trans h0
  |sell=>exact(zf hw).trans h0
  |give=>exact(zf hw).trans h0
  |split=>exact(zf hw).trans h0
  |part=>exact(zf ho).trans h0
def HB.inW{es:List Ent}(h:HB W es)(hz:0<runC es z):z∈W:=Decidable.byContradiction λc=>by
 have:=Ng c es (λ_=>0) (λe q=>(h.g e q).2.2) rfl;have e:runC es z=0:=this;lia
def ahR{e:Ent}(h:e.good):Nm e.oth:=by
 cases e with
 |part=>exact h.2.1
 |buy=>exact h.1.w
 |sell=>exact h.1.w
 |gift=>exact h.1.w
 |give=>exact h.1.w
 |split=>exact h.1.w
def HB.nm{es:List Ent}(h:HB W es)(hz:0<runC es z):Nm z:=Classical.byContradiction λc=>by
 have:=Ng (W:=es.map Ent.ware++es.map Ent.oth) (z:=z) (λm=>c ?_) es (λ_=>0) (λe q=>⟨yg _ (zc.mpr ⟨e,q,rfl⟩),zF _ (zc.mpr ⟨e,q,rfl⟩)⟩) rfl
 ·have e:runC es z=0:=this
  lia
 ·rcases zD.mp m with m|m
  ·obtain⟨e,q,rfl⟩:=zc.mp m
   exact(Rm (h.g e q).1).w
  ·obtain⟨e,q,rfl⟩:=zc.mp m
   exact ahR (h.g e q).1
structure SoO(H:Hp)(W:List Str)(tl:EL)(D:Int)(sl:EL):Prop where
 t:vC H sl
 l:sl.length<=19
 f:HB W ((tl++sl).map (·.2))
 n:∀(i:Nat)(r:Addr×Ent),sl[i]? =some r->r.2.day=D/\r.2.num=999970+i/\Wr r.2=false
def aaB{tt:TT}{D:Ends}(q:Nat->L2.St->Hp->Prop)(h0:∃m,q m σ H)(hs:∀m σ H,q m σ H->tt σ H λb H1=>if b=true then∃N:L2.St->Hp->Prop,(∀z H2,N z H2->∃m',m'<m/\q m' z H2)/\tb {D with nx:=N,ct:=N,bk:=D.nx} σ H1 else D.nx σ H1):aiM tt tb D σ H:=⟨q,h0,hs⟩
inductive wG(K:Fg_)(vs:List V)(H:Hp)(Q:VK)(E:XK):Prop
 |mk (a p:Addr) (ns:List Int) (tl:EL) (W:List Str) (_:vs=[.ref a,.ref p]) (_:SqL K H a (ns.map V.int)) (_:H p=some (.lst (lZ tl))) (_:vC H tl) (_:tl.length<=40) (_:W.length<=6) (_:HB W (tl.map (·.2))) (_:(tl.map (·.2)).Pairwise BfE) (_:(∀r∈tl,r.2.num<999970)) (_:(tl.map (·.2.num)).Nodup) (_:∀q (sl:EL) H',Same H H'->H q=none->H' q=some (.lst (lZ sl))->vC H' sl->sl.length<=19->HB W ((tl++sl).map (·.2))->((tl++sl).map (·.2)).Pairwise BfE->((tl++sl).map (·.2.num)).Nodup->(∀r∈sl,Wr r.2=false)->Q (.ref q) H'):wG K vs H Q E
def Hq:kI P w K mg base CX0 2 A.ax D.ax ["_law_script", "_law_told"] (wG K):=by
 refine T.cA.F.okv jK λ_ _ _ _ H vs Q E hr h=>?_
 ·obtain⟨a,p,ns,tl,W,rfl,hS,hp,hT,hl,cd,hF,bc,aj,b7,k⟩:=h
  refine ⟨_,(jb (jm (i:=2) jK.nd rfl orl vN)
   (jb (jm (i:=3) jK.nd rfl orl jf)
   (jb (oh zR rfl (jP (K:=K) (pv 1)) (jk (i:=4) jK.nd rfl orl)
    (jb (jm (i:=2) jK.nd rfl orl (pcg (mU T) hr T.ce (nC T) (pav 2 (pav 4 jc))))
    (je (jm (i:=3) jK.nd rfl orl (jL (ju (K:=K)) (pvD 4) jf (λ_ _=>rfl))))))
   (jb (jm (i:=5) jK.nd rfl orl (lE jc))
   (jb (oh zR rfl (lM (K:=K) (jy (RK rfl) (by rfl) T.dZ (by decide+kernel) (pav 2 jc))) (jk (i:=6) jK.nd rfl orl)
    (jb (jm (i:=7) jK.nd rfl orl (nY (oK hr) (pvD 2) (pvD 6) (λ_ _=>rfl)))
    (je (aiz zR (PW.pt (xR (jl (Fj) (pvD 7) jf (jx _)) (vR (jl (Dr) (jy (lX (K:=K)) (by rfl) T.dT (by decide+kernel) (pav 5 jc)) jf (jx _))))) (jb (jm (i:=8) jK.nd rfl orl (jy (Ah rfl) (by rfl) T.dV (by decide+kernel) (pav 7 (iY (jw Cm jf jf) jc))))
     (jb (jm (i:=9) jK.nd rfl orl (jw lJ (pcg (lQ T) hr T.ch (lY T) (pav 0 (iY (jw jZ jf (jy (lX (K:=K)) (by rfl) T.dT (by decide+kernel) (pav 5 jc))) jc))) (jw jZ (jw Cm jf jf) jf)))
     (jb (jm (i:=10) jK.nd rfl orl (jw jZ (jw pq (jw Cm jf jf) jf) (jy (lX (K:=K)) (by rfl) T.dT (by decide+kernel) (pav 5 jc))))
     (jb (jA (tD (K:=K) zP zV zW mJ (pvD 5) (iY (nM (iY jB (iY (jy (Ah rfl) (by rfl) T.dV (by decide+kernel) (iY (jw jZ (pvD 3) jf) (iY (jw Cm jf jf) jc))) (pav 10 (pav 6 (pav 8 (pav 9 (iY (jw lJ (pvD 9) jf) (iY mR jc))))))))) jc)))
     (je (jm (i:=7) jK.nd rfl orl (jw pq (pvD 7) (pvD 8))))))))))))
   (je (jq (pvD 5)))))))),?_⟩
  simp only[start_eq];walk_at "n";intro pd b5;have s1:=ji (o:=.dK []) b5;have h1:(upd H pd (.dK [])) pd=some (.dK []):=jd;generalize upd H pd (.dK [])=H1 at s1 h1;walk_at "n"
  (try dsimp only)
  refine lg λu hu=>?_;rw[ap_seq];refine tX λtb ar=>?_;rw[ap_for];walk_at "i";refine⟨⟨_,jh (s1 _ _ hp)⟩,?_⟩;subst ar
  refine Eg.listN (K:=K) (a:=p) (xs:=lZ tl) (λi σ Hx=>∃(c:Addr)(kc:List (Key×V))(d:Int)(v4:Option V),σ=[some (.ref a),some (.ref p),some (.ref c),some (.int d),v4,none,none,none,none,none,none]/\Same H Hx/\Hx c=some (.dK kc)/\vp kc/\kc.length<=2*i/\(∀z,jo kc z=runC ((tl.map (·.2)).take i) z)/\0<=d/\d<=1000000/\∀r∈tl.take i,r.2.day<=d)
   ⟨pd,[],0,_,rfl,s1,h1,Du,zm _,λ_=>rfl,yR _,by decide,λr h=>by simp at h⟩ (λi σ Hx _ ⟨_,_,_,_,_,s,_⟩=>s.seq (jh hp)) ?_ ?_
  ·rintro i y σ Hx hi ⟨c,kc,d,v4,rfl,sx,ah,hH,bb,hv,bx,b3,hD⟩ N hN
   obtain⟨r,ae,rfl⟩:=vq hi;have bw:=zh ae;have ch:i<tl.length:=(zk.mp ae).1;obtain⟨bl,hg,ho⟩:=hT r bw;have ht:=sx _ _ bl;have htk:tl.take (i+1)=tl.take i++[r]:=by rw[zK,ae];rfl
   have er:jo kc=runC ((tl.map (·.2)).take i):=funext hv
   have bd:WD (jo kc) r.2:=by
    rw[er];exact hF.f i r.2 (by rw[zo,ae];rfl)
   have as:∀q∈tl.take i,q.2.day<=r.2.day:=λq hq=>by
    obtain⟨j,hj⟩:=yW.mp hq;rw[List.getElem?_take]at hj;split at hj
    ·next c=>
     have h1:=yh.mp bc j i (by rw[za];lia) (by rw[za];lia) c;rw[ye,ye]at h1;obtain⟨cf,bp⟩:=zk.mp hj;obtain⟨cj,b4⟩:=zk.mp ae;rw[bp,b4]at h1;rcases h1 with h1|h1<;>lia
    ·cases hj
   have hb:=Rm hg;walk_at "i";walk_at "n";refine⟨c,r.1,r.2,kc,rfl,.inl ah,hH,by lia,ht,hg,λnf=>(nf bd).elim,λbz b0 p3 H3 s3 cg h3=>?_⟩;obtain⟨_,bn,ca,ak⟩:=b0;rw[er]at ak
   (try dsimp only);walk_at "i"
   refine⟨_,jE (s3 _ _ ht),_,anQ _ _,?_⟩;refine hN _ _ ⟨p3,bz,r.2.day,_,rfl,sx.trans s3,h3,bn,by lia,λz=>?_,hb.d0,hb.d1,λq hq=>?_⟩
   ·rw[ak,show(tl.map (·.2)).take (i+1)=(tl.map (·.2)).take i++[r.2] by rw[<-yS,htk,zp,yS];rfl]
    exact(congrFun (oW _ r.2) z).symm
   ·rw[htk]at hq
    rcases zD.mp hq with hq|hq
    ·exact as q hq
    ·rw[zr.mp hq];exact yR _
  rintro σ Hx ⟨c,kc,d,v4,rfl,sx,ah,hH,bb,hv,bx,b3,hD⟩;rw[kY]at bb hv hD;rw[zX]at hD;rw[show(tl.map (·.2)).take tl.length=tl.map (·.2) by rw[<-za (f:=λx:Addr×Ent=>x.2),zX]]at hv;subst hu;walk_at "n";refine⟨sz,λpm aq=>?_⟩;have s2:=ji (o:=.lst []) aq;have h2:(upd Hx pm (.lst [])) pm=some (.lst (lZ [])):=jd;generalize upd Hx pm (.lst [])=H2 at s2 h2
  (try dsimp only)
  refine lg λu hu=>?_;rw[ap_seq];refine tX λtb ar=>?_;rw[ap_for];walk_at "i";obtain⟨ks,ek⟩:=Yd hH
  have bh:(ks.map (·.1)).Nodup:=by
   have:=hH.u;rw[ek,zu]at this;exact zY.mpr ((zY.mp this).imp fun{x y} q e=>q (congrArg Sum.inr e))
  have bj:∀z,z∈ks.map (·.1)↔0<jo kc z:=λz=>by
   constructor
   ·intro h
    obtain⟨q,hq,rfl⟩:=zc.mp h;obtain⟨z',e,hz⟩:=(DR hH).mp (zc.mpr ⟨(Sum.inr q.1,V.int q.2),by rw[ek];exact zc.mpr ⟨q,hq,rfl⟩,rfl⟩);rw[yF e];exact hz
   ·intro h
    obtain⟨kv,ba,bv⟩:=zc.mp ((DR hH).mpr ⟨z,rfl,h⟩);rw[ek]at ba;obtain⟨q,hq,rfl⟩:=zc.mp ba;exact zc.mpr ⟨q,hq,yF bv⟩
  have ce:ks.length<=W.length:=by
   have:=Ej bh λz hz=>hF.inW (by rw[<-hv];exact(bj z).mp hz)
   rwa [za]at this
  refine⟨ks.map λq=>(q.1,V.int q.2),?_,by rw[za];lia,λps ss aw ad cc=>?_⟩
  ·rw[zu,s2 _ _ ah,ek]
   rfl
  rw[zu]at ad;have ad:ss.Perm (ks.map (·.1)):=ad;have bq:ss.Nodup:=ad.nodup_iff.mpr bh;have az:∀z,z∈ss↔0<jo kc z:=λz=>ad.mem_iff.trans (bj z);have n3:=ji (o:=.lst (ss.map V.str)) aw;have ap:(upd H2 ps (.lst (ss.map V.str))) ps=some (.lst (ss.map V.str)):=jd;have bi:=n3 _ _ h2;have S3:=s2.trans n3;have b9:ps≠pm:=λe=>by rw[e,h2]at aw;cases aw
  generalize upd H2 ps (.lst (ss.map V.str))=H3 at n3 ap bi S3;refine⟨⟨_,jh ap⟩,?_⟩
  obtain ⟨D,br,bs,bt,cb⟩:∃D:Int,(if(10:Int)^Int.toNat 6<d+1 then(10:Int)^Int.toNat 6 else d+1)=D/\0<=D/\D<=1000000/\d<=D:=by
   have e6:(10:Int)^Int.toNat 6=1000000:=by decide
   rw[e6];exact⟨_,rfl,by split<;>lia,by split<;>lia,by split<;>lia⟩
  subst ar;have bk:H pm=none:=sx.free aq
  refine Eg.listN (K:=K) (a:=ps) (xs:=ss.map V.str) (λj σ Hy=>∃(sl:EL)(v6 v7 v8 v9 ab:Option V),σ=[some (.ref a),some (.ref p),some (.ref c),some (.int d),v4,some (.ref pm),v6,v7,v8,v9,ab]/\Same Hx Hy/\Hy ps=some (.lst (ss.map V.str))/\Hy pm=some (.lst (lZ sl))/\SoO Hy W tl D sl/\∀z,z∉ss.take j->runC ((tl++sl).map (·.2)) z=jo kc z)
   ⟨[],_,_,_,_,_,rfl,S3,ap,bi,⟨λr h=>(zj h).elim,by decide,by rw[yk];exact hF,λi r h=>by simp at h⟩,λz _=>by rw[yk,hv]⟩ (λi σ Hy _ ⟨_,_,_,_,_,_,_,_,h,_⟩=>jh h) ?_ ?_
  ·rintro j x σ Hy hx ⟨sl,v6,v7,v8,v9,ab,rfl,sy,bf,au,aa,hsz⟩ N hN
   obtain ⟨z,hz,rfl⟩:∃z,ss[j]? =some z/\x=.str z:=by
    rw[zo]at hx
    cases e:ss[j]? with
    |none=>rw[e]at hx;cases hx
    |some z=>rw[e]at hx;exact⟨z,rfl,(zy hx).symm⟩
   have av:0<jo kc z:=(az z).mp (zh hz);have htk:ss.take (j+1)=ss.take j++[z]:=by rw[zK,hz];rfl
   have bm:z∉ss.take j:=λh=>by
    have:(ss.take j++[z]).Nodup:=htk▸yV (yyc _ _) bq;exact(yB.mp this).2.2 z h z zg rfl
   have b8:Va Hy c (.str z) (some (.int (jo kc z))):=.inl ⟨kc,Sum.inr z,.inl (sy _ _ ah),rfl,by rw[hH.val z,zi av]⟩;walk_at "i";walk_at "n";refine⟨_,b8,?_⟩
   refine aaB (λm σ Hw=>∃(wl:EL)(left:Int)(v8 v9 ab:Option V),m=left.toNat/\σ=[some (.ref a),some (.ref p),some (.ref c),some (.int d),v4,some (.ref pm),some (.str z),some (.int left),v8,v9,ab]/\Same Hx Hw/\Hw ps=some (.lst (ss.map V.str))/\Hw pm=some (.lst (lZ wl))/\SoO Hw W tl D wl/\(∀y,y∉ss.take (j+1)->runC ((tl++wl).map (·.2)) y=jo kc y)/\runC ((tl++wl).map (·.2)) z=left)
    ⟨_,sl,jo kc z,_,_,_,rfl,rfl,sy,bf,au,aa,λy hy=>hsz y λq=>hy (by rw[htk];exact yg _ q),hsz z bm⟩ ?_
   rintro m σ Hw ⟨wl,left,v8,v9,ab,rfl,rfl,sw,an,ac,af,ai,al⟩;have done:N [some (.ref a),some (.ref p),some (.ref c),some (.int d),v4,some (.ref pm),some (.str z),some (.int left),v8,v9,ab] Hw:=hN _ _ ⟨wl,_,_,_,_,_,rfl,sw,an,ac,af,ai⟩;walk_at "i";by_cases ax:0<left
   rotate_left
   ·rw[zf ax]
    exact done
   rw[zi ax];refine⟨_,.inl (jh ac),?_⟩;rw[kY];by_cases be:(wl.length:Int)<19
   rotate_left
   ·rw[zf be]
    exact done
   rw[zi be];refine⟨_,λσ' H2 h=>h,?_⟩;walk_at "n";refine⟨⟨by decide,by decide,by decide⟩,?_⟩
   obtain ⟨am,ea,a1,a2,a3⟩:∃am:Int,(if(10:Int)^Int.toNat 9<left then(10:Int)^Int.toNat 9 else left)=am/\1<=am/\am<=1000000000/\am<=left:=by
    have e9:(10:Int)^Int.toNat 9=1000000000:=by decide
    rw[e9];exact⟨_,rfl,by split<;>lia,by split<;>lia,by split<;>lia⟩
   rw[ea];walk_at "n";refine⟨_,.inl (jh ac),a,ns,5+wl.length,by rw[kY,yyr];rfl,(sx.trans sw).seq hS,⟨by decide,by decide,by decide⟩,_,rfl,by decide,?_⟩
   obtain ⟨pr,bu,p0,p1⟩:∃pr:Int,ns.getD (5+wl.length) 0%((10:Int)^Int.toNat 9+1)=pr/\0<=pr/\pr<=1000000000:=by
    have e9:(10:Int)^Int.toNat 9+1=1000000001:=by decide
    rw[e9];exact⟨_,rfl,by lia,by lia⟩
   rw[bu];walk_at "n";refine⟨⟨by decide,by decide,by decide⟩,_,.inl (jh ac),?_⟩;rw[show(10:Int)^Int.toNat 6 - 30+((lZ wl).length:Int)=999970+(wl.length:Int) by rw[kY,show(10:Int)^Int.toNat 6=1000000 by decide];rfl];walk_at "n";refine⟨.inl ⟨rfl,_,jh ac⟩,⟨by decide,by decide,by decide⟩,by decide,sz,λt ht=>?_⟩;rw[br];obtain⟨e,he⟩:∃e,e=Ent.sell D (999970+(wl.length:Int)) z am pr (pr%7) none:=⟨_,rfl⟩;have n1:=ji (o:=.tup (.str e.word::e.args .non)) ht;have ag:(upd Hw t (.tup (.str e.word::e.args .non))) t=some (.tup (.str e.word::e.args .non)):=jd;rw[show[V.str (Str.ofString "sell"),V.int D,V.int (999970+(wl.length:Int)),V.str z,V.int am,V.int pr,V.int (pr%7),V.non]=V.str e.word::e.args .non by rw[he];rfl];generalize upd Hw t (.tup (.str e.word::e.args .non))=Hn at n1 ag;have ao:=n1 _ _ ac;have hg:e.good:=by rw[he];exact⟨⟨bs,bt,by lia,by lia,hF.nm (by rw[<-hv];exact av)⟩,⟨a1,a2⟩,⟨p0,p1⟩,⟨by lia,by lia⟩,trivial⟩
   have bg:z∈W:=hF.inW (by rw[<-hv];exact av);have bo:t≠pm:=λq=>by rw[q,ao]at ag;cases ag
   refine⟨_,ao,by rw[kY,zw];lia,?_⟩
   (try dsimp only);walk_at "i"
   have er:lZ wl++[V.ref t]=lZ (wl++[(t,e)]):=by unfold lZ;rw[zp];rfl
   rw[er]
   have ay:∀y,runC ((tl++(wl++[(t,e)])).map (·.2)) y=if y=z then left - am else runC ((tl++wl).map (·.2)) y:=λy=>by
    rw[<-yL,zp];show runC ((tl++wl).map (·.2)++[e]) y=_;rw[oW,<-al,he];rfl
   refine⟨(left - am).toNat,by lia,wl++[(t,e)],left - am,rfl,rfl,(sw.trans n1).upd aq,(jn b9).trans (n1 _ _ an),jd,⟨λr hr=>?_,by rw[zC,yn];lia,?_,λi r hi=>?_⟩,λy hy=>?_,?_⟩
   ·rcases zD.mp hr with hr|hr
    ·obtain⟨q1,q2⟩:=af.t r hr
     have q1:=n1 _ _ q1;exact⟨(jn λq=>by rw[q,ao]at q1;cases q1).trans q1,q2⟩
    ·rw[zr.mp hr]
     exact⟨(jn bo).trans ag,hg,by rw[he];rfl⟩
   ·rw[<-yL,zp]
    exact af.f.snoc ⟨hg,by rw[he];rfl,by rw[he];exact bg,by rw[he];exact bg⟩ (by rw[he];show am<=_;rw[al];exact a3)
   ·by_cases ci:i<wl.length
    ·rw[ya ci]at hi
     exact af.n i r hi
    ·rw[z4 (by lia)]at hi
     have h0:i - wl.length=0:=by
      have:=(zk.mp hi).1;rw[yn]at this;lia
     rw[h0]at hi;obtain rfl:(t,e)=r:=zy hi;show e.day=D/\e.num=_/\Wr e=false;rw[he];exact⟨rfl,by show 999970+(wl.length:Int)=_;lia,rfl⟩
   ·rw[ay,zf (λq=>hy (by rw[htk,q];exact zF _ zg))]
    exact ai y hy
   ·rw[ay,zi rfl]
  ·rintro σ Hy ⟨sl,v6,v7,v8,v9,ab,rfl,sy,bf,au,aa,hsz⟩
   subst hu
   (try dsimp only);walk_at "a"
   refine k pm sl Hy (sx.trans sy) bk au aa.t aa.l aa.f ?_ ?_ λr hr=>?_
   ·rw[zp]
    refine y0.mpr ⟨bc,?_,λe he f hf=>?_⟩
    ·refine yh.mpr λi j hi hj b6=>?_
     rw[za]at hi hj;rw[ye,ye];obtain⟨a1,a2,_⟩:=aa.n i _ (zq hi);obtain⟨b1,b2,_⟩:=aa.n j _ (zq hj);exact .inr ⟨a1.trans b1.symm,by lia⟩
    ·obtain⟨q,hq,rfl⟩:=zc.mp he
     obtain⟨r,hr,rfl⟩:=zc.mp hf;obtain⟨i,hi⟩:=yW.mp hr;obtain⟨a1,a2,_⟩:=aa.n i _ hi;have b1:=hD q hq;have b2:=aj q hq;unfold BfE;lia
   ·rw[zp]
    refine yB.mpr ⟨b7,yh.mpr λi j hi hj b6=>?_,λx hx y hy=>?_⟩
    ·rw[za]at hi hj
     rw[ye,ye];have a2:=(aa.n i _ (zq hi)).2.1;have b2:=(aa.n j _ (zq hj)).2.1;lia
    ·obtain⟨q,hq,rfl⟩:=zc.mp hx
     obtain⟨r,hr,rfl⟩:=zc.mp hy;obtain⟨i,hi⟩:=yW.mp hr;have a2:=(aa.n i _ hi).2.1;have b2:=aj q hq;lia
   ·obtain⟨i,hi⟩:=yW.mp hr
    exact(aa.n i _ hi).2.2
def ahW{D:Addr}{e:Ent}{xs:List V}(h:Made A B H x e)(hD:H D=some (.lst xs))(z:e.lots=none)(b:But D H H'):IsE A H' x e:=by
 obtain⟨dx,q,h1,h2,h3⟩:=h;refine⟨dx,q,b _ _ (λc=>by rw[c]at h1;have:=h1.h;rw[hD]at this;cases this) h1.h,?_⟩;rw[z]at h2⊢;exact h2
def RB{e:Ent}(h:Made A B H x e):Same B H:=let⟨_,_,g,_⟩:=h;g.s
theorem alq{H:Hp}:∀{tl:EL}{acc:List V},rF (λr v=>∃x,v=.ref x/\IsE A H x r.2) tl acc->∃es:EL,acc=lZ es/\es.map (·.2)=tl.map (·.2)/\Kh A H es
 |[],[],_=>⟨[],rfl,rfl,λt h=>(zj h).elim⟩
 |t::sl,v::acc,h=>by
  obtain⟨⟨y,rfl,hs⟩,h2⟩:=h;obtain⟨z,e1,e2,e3⟩:=alq h2;refine⟨(y,t.2)::z,by rw[e1];rfl,by rw[zl,e2];rfl,λu q=>?_⟩;rcases zx.mp q with rfl|q
  ·exact hs
  ·exact e3 u q
 |[],_::_,h=>h.elim
 |_::_,[],h=>h.elim
structure Som(H:Hp)(W:List Str)(tl:EL)(q:Addr)(ts:EL):Prop where
 l:H q=some (.lst (lZ ts))
 t:vC H ts
 n:ts.length<=59
 f:HB W (ts.map (·.2))
 b:(ts.map (·.2)).Pairwise BfE
 u:(ts.map (·.2.num)).Nodup
 g:∀r∈ts,Wr r.2=false
 c:ts=tl\/ts.length≠tl.length
theorem Som.same{H H':Hp}{W:List Str}{tl:EL}{q:Addr}{z:EL}(h:Som H W tl q z)(s:Same H H'):Som H' W tl q z:=⟨s _ _ h.l,h.t.same s,h.n,h.f,h.b,h.u,h.g,h.c⟩
inductive Rn(K:Fg_)(vs:List V)(H:Hp)(Q:VK)(E:XK):Prop
 |mk (a:Addr) (ns:List Int) (_:vs=[.ref a]) (_:SqL K H a (ns.map V.int)) (_:ns.length<=63) (_:∀H',Q (.bl true) H'):Rn K vs H Q E
def alo:kI P w K mg base CX0 12 A.law D.law ["_law_script"] (Rn K):=by
 refine T.dR.F.okv BR λ_ _ _ _ H vs Q E hr h=>?_
 ·obtain⟨a,ns,rfl,hS,hn,k⟩:=h
  refine ⟨_,(jb (jm (i:=1) BR.nd rfl orl (pcg (wk T) hr T.cf (xG T) (iY (pcg (Io T) hr T.cm (Kw T) (pav 0 (iY jf jc))) jc)))
   (jb (jm (i:=2) BR.nd rfl orl vN)
   (jb (oh zR rfl (jP (K:=K) (pv 1)) (jk (i:=3) BR.nd rfl orl)
    (je (jm (i:=2) BR.nd rfl orl (pcg (mU T) hr T.ce (nC T) (pav 2 (pav 3 jc))))))
   (jb (jm (i:=4) BR.nd rfl orl (jw lJ (pcg (lQ T) hr T.ch (lY T) (pav 0 (iY jf jc))) jf))
   (jb (oh zR rfl (lM (K:=K) (lE (pav 1 (iY (jw Xv (pvD 1) (pcg (Hq T) hr T.cA (JD T) (pav 0 (pav 1 jc)))) jc)))) (jk (i:=5) BR.nd rfl orl)
    (jb (nT (i:=6) BR.nd rfl rfl (cap:=[none]) (N':=["_law_row"]) rfl (by walk_at "c") (jP (K:=K) (pv 5)) (λ_ _ _ _=>(jk (i:=0) nd1 rfl orl orr)) (λ_ _ _ _=>kh) (λ_ _ _ _=>(pcg (Qo T) hr T.cP (Sv T) (pav 0 jc))))
    (jb (jm (i:=7) BR.nd rfl orl (pcg (Oc T) hr T.cz (Rp T) (pav 6 jc)))
    (jb (kE (PW.pt (xR (jl (ajH (K:=K) hr) (pvD 5) (pvD 1) (jx _)) (vR (jl (aiQ hr) (pvD 7) (pvD 2) (jx _))))) (je (jq FJ)) jC)
    (je (oh zR rfl (lM (K:=K) (lE (iY jB (iY jB (iY jB (iY jB jc)))))) (jk (i:=8) BR.nd rfl orl)
     (jb (kE (LC (qp (pcg (uQ T) hr T.c3 (xr T) (iY (pcg (Wz T) hr T.dJ (Xx T) (iY (pcg (Qf T) hr T.dQ (Ve T) (pav 8 jc)) (pav 6 jc))) (pav 5 (pav 7 jc)))))) (je (jq FJ)) jC)
     (je (kE (LC (qp (pcg (uQ T) hr T.c3 (xr T) (iY (pcg (Fo T) hr T.dL (Gz T) (iY (pcg (Qf T) hr T.dQ (Ve T) (pav 8 jc)) (pav 4 (pav 6 jc)))) (pav 5 (pav 7 jc)))))) (je (jq FJ)) jC)))))))))
   (je (jq FJ))))))),?_⟩
  simp only[start_eq];walk_at "n";refine⟨a,ns,40,rfl,hS,hn,by decide,λp0 bm W H0 s0 b9 h0 bl az bu bq bt hW ao=>?_⟩;refine⟨p0,bm,W,rfl,h0,bl,az,λr hr=>(bt.g r.2 (zc.mpr ⟨r,hr,rfl⟩)).2.2,λp tl H1 s1 hp h1 hT aa hF ax=>?_⟩;have hl:tl.length<=40:=zS aa.length_le az;have ho:(tl.map (·.2)).Pairwise BfE:=bu.sublist (aa.map _);have bd:(tl.map (·.2.num)).Nodup:=yV (aa.map _) bq;have ay:∀r∈tl,r.2.num<999970:=λr hr=>ao r (aa.subset hr);have S1:=s0.trans s1;walk_at "n";intro pd bw;have s2:=ji (o:=.dK []) bw;have h2:(upd H1 pd (.dK [])) pd=some (.dK []):=jd;generalize upd H1 pd (.dK [])=H2 at s2 h2
  (try dsimp only)
  refine lg λu hu=>?_;rw[ap_seq];refine tX λtb ad=>?_;rw[ap_for];walk_at "i";refine⟨⟨_,jh (s2 _ _ h1)⟩,?_⟩;subst ad
  refine Eg.listN (K:=K) (a:=p) (xs:=lZ tl) (λi σ Hx=>∃(c:Addr)(kc:List (Key×V))(v3:Option V),σ=[some (.ref a),some (.ref p),some (.ref c),v3,none,none,none,none,none]/\Same H1 Hx/\Hx c=some (.dK kc)/\vp kc/\kc.length<=2*i/\(∀z,jo kc z=runC ((tl.map (·.2)).take i) z))
   ⟨pd,[],_,rfl,s2,h2,Du,zm _,λ_=>rfl⟩ (λi σ Hx _ ⟨_,_,_,_,s,_⟩=>s.seq (jh h1)) ?_ ?_
  ·rintro i y σ Hx hi ⟨c,kc,v3,rfl,sx,as,hH,bb,hv⟩ N hN
   obtain⟨r,aj,rfl⟩:=vq hi;have br:=zh aj;have cc:i<tl.length:=(zk.mp aj).1;obtain⟨be,hg,_⟩:=hT r br;have ht:=sx _ _ be;have htk:tl.take (i+1)=tl.take i++[r]:=by rw[zK,aj];rfl
   have er:jo kc=runC ((tl.map (·.2)).take i):=funext hv
   have bc:WD (jo kc) r.2:=by
    rw[er];exact hF.f i r.2 (by rw[zo,aj];rfl)
   walk_at "i";refine⟨c,r.1,r.2,kc,rfl,.inl as,hH,by lia,ht,hg,λnf=>(nf bc).elim,λbs bv p3 H3 s3 cb h3=>?_⟩;obtain⟨_,bh,b4,am⟩:=bv;rw[er]at am;refine hN _ _ ⟨p3,bs,_,rfl,sx.trans s3,h3,bh,by lia,λz=>?_⟩;rw[am,show(tl.map (·.2)).take (i+1)=(tl.map (·.2)).take i++[r.2] by rw[<-yS,htk,zp,yS];rfl];exact(congrFun (oW _ r.2) z).symm
  rintro σ Hx ⟨c,kc,v3,rfl,sx,as,hH,bb,hv⟩;rw[kY]at bb hv;rw[show(tl.map (·.2)).take tl.length=tl.map (·.2) by rw[<-za (f:=λx:Addr×Ent=>x.2),zX]]at hv;subst hu;walk_at "n";refine⟨a,ns,4,rfl,(S1.trans sx).seq hS,_,rfl,by decide,?_⟩;generalize ns.getD 4 0%100=ae
  (try dsimp only)
  refine lg λu hu=>?_;rw[ap_seq];refine tX λtb ad=>?_;rw[ap_for];walk_at "i";refine⟨a,p,ns,tl,W,rfl,(S1.trans sx).seq hS,sx _ _ h1,hT.same sx,hl,hW.2,hF,ho,ay,bd,λqs sl H3 s3 ca h3 b2 b7 bo bz an bp=>?_⟩;have S3:=sx.trans s3;show amF (V.ref p) (V.ref qs) H3 _;rw[ap_rCat];refine⟨_,_,S3 _ _ h1,h3,by rw[kY,kY,zw];lia,λpc bf=>?_⟩;have s4:=ji (o:=.lst (lZ tl++lZ sl)) bf;have h4:(upd H3 pc (.lst (lZ tl++lZ sl))) pc=some (.lst (lZ (tl++sl))):=by rw[jd];unfold lZ;rw[zp]
  generalize upd H3 pc _=H4 at s4 h4⊢;refine⟨sz,λpl b1=>⟨⟨_,jh jd⟩,?_⟩⟩;have s5:=ji (o:=.lst [V.ref p,V.ref pc]) b1;have h5:(upd H4 pl (.lst [V.ref p,V.ref pc])) pl=some (.lst [V.ref p,V.ref pc]):=jd;generalize upd H4 pl _=H5 at s5 h5⊢;have au:=s4.trans s5;have S5:=S3.trans au;have M1:Som H5 W tl p tl:=⟨S5 _ _ h1,hT.same S5,by lia,hF,ho,bd,ax,.inl rfl⟩
  have M2:Som H5 W tl pc (tl++sl):=⟨s5 _ _ h4,λr hr=>(zD.mp hr).elim (hT.same S5 r) (b2.same au r),by rw[zC];lia,bo,bz,an,λr hr=>(zD.mp hr).elim (ax r) (bp r),by
   cases sl with
   |nil=>exact .inl (yk _)
   |cons x l=>exact .inr (by rw[zC,zG];lia)⟩
  have bx:H5 c=some (.dK kc):=(s3.trans au) _ _ as;subst ad;refine Eg.listN (K:=K) (a:=pl) (xs:=[V.ref p,V.ref pc]) (λi σ Hy=>(∃v3 v5 v6 v7 v8,σ=[some (.ref a),some (.ref p),some (.ref c),v3,some (.int ae),v5,v6,v7,v8])/\Same H5 Hy) ⟨⟨_,_,_,_,_,rfl⟩,same_refl _⟩ (λi σ Hx _ ⟨_,s⟩=>jh (s _ _ h5)) ?_ ?_
  ·rintro i y σ Hy hy ⟨⟨v3,v5,v6,v7,v8,rfl⟩,sy⟩ N hN
   obtain ⟨q,ts,rfl,hM⟩:∃q ts,y=V.ref q/\Som H5 W tl q ts:=by
    rcases i with _|_|i
    ·cases hy;exact⟨_,_,rfl,M1⟩
    ·cases hy;exact⟨_,_,rfl,M2⟩
    ·cases hy
   have hM:=hM.same sy;have b6:=hM.n;walk_at "i";walk_at "n";refine⟨⟨_,jh hM.l⟩,?_⟩;refine Oz (f:=λr:Addr×Ent=>V.ref r.1) (λσ=>∃v,σ=[v]) (λ_ r v H'=>∃x,v=.ref x/\IsE A H' x r.2) (jh hM.l) ⟨_,rfl⟩ (by lia) ?_ ?_
   ·rintro Da r bi σ H5 R ⟨_,rfl⟩ sm hD ⟨acc,hA⟩ kk
    obtain⟨g0,g1,g2⟩:=hM.t r bi;walk_at "i";exact⟨r.1,r.2,rfl,sm _ _ g0,g2,g1,λx B H6 s6 hM=>kk (.ref x) _ H6 ⟨_,rfl⟩ (s6.trans (RB hM)) λH' hb=>⟨x,rfl,ahW hM ((s6.trans (RB hM)) _ _ hA) g2 hb⟩⟩
   intro D2 H6 b3 b5 s6 ar bg;obtain⟨es,e1,e2,hE⟩:=alq bg;rw[e1]at ar;walk_at "n";refine⟨D2,es,W,ts.map (·.2),rfl,ar,hE,hM.f,hM.b,by rw[za];exact hM.n,by rw[zu];exact hM.u,e2▸zz7 _,λph kv H7 s7 b8 h7 aq ak ap=>?_⟩;have ab:=s6.trans s7
   (try dsimp only)
   refine lg λu2 b0=>?_;rw[ap_seq];walk_at "i"
   have al:u2 {nx:=N,rt:=Q,bk:=u {nx:=λx H'=>Q V.non H',rt:=Q},ct:=N} [some (V.ref a),some (V.ref p),some (V.ref c),v3,some (V.int ae),some (V.ref q),some (V.ref D2),some (V.ref ph),v8] H7:=by
    subst b0;refine tX λtb ad=>?_;rw[ap_for];walk_at "i";refine⟨by rw[zw];show 4<=_;decide,λpw bj=>⟨⟨_,jh jd⟩,?_⟩⟩;have s8:=ji (o:=.lst [V.str (Str.ofString "eldest"),V.str (Str.ofString "newest"),V.str (Str.ofString "dearest"),V.str (Str.ofString "mean")]) bj;have h8:(upd H7 pw (.lst [V.str (Str.ofString "eldest"),V.str (Str.ofString "newest"),V.str (Str.ofString "dearest"),V.str (Str.ofString "mean")])) pw=some (.lst [V.str (Str.ofString "eldest"),V.str (Str.ofString "newest"),V.str (Str.ofString "dearest"),V.str (Str.ofString "mean")]):=jd;generalize upd H7 pw _=H8 at s8 h8⊢;have ba:=s7.trans s8;have hO:∀{w C dw:Addr}{H9:Hp},Same H8 H9->H9 w=some (.ins C dw [])->Tg A C->ang A H9 w D2 es W (ts.map (·.2)):=λs hw hC=>⟨⟨_,_,hw,hC⟩,(ba.trans s) _ _ ar,hE.same (ba.trans s),hM.f,hW,hM.b,by rw[za];exact hM.n,by rw[zu];exact hM.u,e2▸zz7 _⟩;have ag:=hM.same (ab.trans s8);have ah:=s8 _ _ h7;refine Eg.listN (K:=K) (a:=pw) (xs:=[V.str (Str.ofString "eldest"),V.str (Str.ofString "newest"),V.str (Str.ofString "dearest"),V.str (Str.ofString "mean")]) (λi σ Hx=>(∃v8,σ=[some (.ref a),some (.ref p),some (.ref c),v3,some (.int ae),some (.ref q),some (.ref D2),some (.ref ph),v8])/\Same H8 Hx) ⟨⟨_,rfl⟩,same_refl _⟩ (λi σ Hx _ ⟨_,s⟩=>jh (s _ _ h8)) ?_ ?_
    ·rintro i y σ Hx hy ⟨⟨v8,rfl⟩,sx⟩ M bn
     obtain ⟨z,C,rfl,ai⟩:∃z C,y=V.str z/\Ti A z C:=by
      rcases i with _|_|_|_|i
      ·cases hy;exact⟨_,_,rfl,.e⟩
      ·cases hy;exact⟨_,_,rfl,.n⟩
      ·cases hy;exact⟨_,_,rfl,.d⟩
      ·cases hy;exact⟨_,_,rfl,.m⟩
      ·cases hy
     subst ad;rw[ap_name]
     (try dsimp only)
     refine lg λu3 an=>?_;rw[ap_seq];walk_at "i";have aw:((ts.map (·.2)).map Ent.num).length<=59:=by rw[za,za];exact hM.n
     refine⟨z,C,rfl,ai,λw dw H9 s9 _ hw=>⟨w,D2,es,W,_,rfl,hO (sx.trans s9) hw ai.way,λb k1 Ha sa hB hm af=>⟨b,q,ph,k1,W,_,ts,kv,rfl,hB,af,hW.1,hW.2,aw,hM.n,(ag.same (sx.trans (s9.trans sa))).l,(ag.same (sx.trans (s9.trans sa))).t,hM.g,λc=>(by have:=hm _ c;rw[(sx.trans s9) _ _ ah]at this;cases this),(sx.trans (s9.trans sa)) _ _ ah,aq,ak,λz=>(ap z).trans (af.c z).symm,λHb sb=>⟨_,rfl,?_⟩⟩⟩⟩;rw[zf (by decide)];subst an;have ac:=sx.trans (s9.trans (sa.trans sb))
     (try dsimp only)
     walk_at "i";refine⟨z,C,rfl,ai,λw dw H9 s9 _ hw=>⟨w,D2,_,es,W,_,rfl,hO (ac.trans s9) hw ai.way,λb k1 Ha sa hB hm af=>⟨b,q,ph,k1,W,_,ts,kv,rfl,hB,af,hW.1,hW.2,aw,hM.n,(ag.same (ac.trans (s9.trans sa))).l,(ag.same (ac.trans (s9.trans sa))).t,hM.g,λc=>(by have:=hm _ c;rw[(ac.trans s9) _ _ ah]at this;cases this),(ac.trans (s9.trans sa)) _ _ ah,aq,ak,λz=>(ap z).trans (af.c z).symm,λHc sc=>⟨_,rfl,?_⟩⟩⟩⟩;rw[zf (by decide)];exact bn _ _ ⟨⟨_,rfl⟩,ac.trans (s9.trans (sa.trans sc))⟩
    ·rintro σ Hx ⟨⟨v8,rfl⟩,sx⟩
     exact hN _ _ ⟨⟨_,_,_,_,_,rfl⟩,sy.trans (ab.trans (s8.trans sx))⟩
   have av:=(sy.trans ab) _ _ M1.l;rcases hM.c with hc|hc
   ·refine⟨_,jh (ab _ _ hM.l),_,jh av,.inr ⟨by rw[hc],λv hv=>?_,_,.inl h7,_,.inl ((sy.trans ab) _ _ bx),Mv aq hH λz=>by rw[ap,hv,hc],al⟩⟩
    obtain⟨r,_,rfl⟩:=zc.mp hv;exact⟨_,rfl⟩
   ·exact⟨_,jh (ab _ _ hM.l),_,jh av,.inl ⟨by rw[kY,kY];exact hc,al⟩⟩
  ·rintro σ Hy ⟨⟨v3,v5,v6,v7,v8,rfl⟩,sy⟩
   subst hu
   (try dsimp only);walk_at "a"
   exact k _
end
end My
namespace My
open PySem L2 PyProof.Rows
open PySem.W (codeIn findCls findIn fnOf hasDictIn isFn keepIn kitOne makesIn mg_none_of mg_of mroIn nsIn plainGet plainOver readsIn specialIn takesIn)
def all_mk{l:PySem.W.OpenLaw}{w:World}{K:Fg_}{mg:Str->Option Value}{fa:Addr}{A:Adr}{D:Fds}(u:mg "law" =some (.ref fa))(T:Txt K mg A D):∃fd:FuncData,(∀(s:Shared)(v:Value),BindsTo s fd ⟨[v],[]⟩ [("_law_script",v)])/\∀base:Heap,K.In base->base.Ns mainGlobals mg->kI l.prog w K mg base CX0 12 fa fd ["_law_script"] (Rn K):=by
 have e:=u.symm.trans T.dR.m;cases e;obtain⟨_,_,_,_,_,_,_,_,_,e,_⟩:=T.dR.F.ex;exact⟨_,λs v=>e▸.of_eq rfl,λbase _ _=>alo T⟩
def walk{l:PySem.W.OpenLaw}{q:Program}{aa:List Str}{XP:(Str->Option Value)->Heap->Prop}{YP:World->Heap->Prop}{d:DefRec}{K:Params->Fg_}(hn:l.most=some 63)(ab:d.params.defaults=[])
  (hY:∀(w:World)(h:Heap),YP w h->(K w.params).In h)
  (F:∀(w:World)(mg:Str->Option Value)(fa:Addr)(h:Heap),(K w.params).In h->h.Ns mainGlobals mg->mg d.name=some (.ref fa)->
   ∃fd:FuncData,(∀(s:Shared)(u:Value),BindsTo s fd ⟨[u],[]⟩ [("_law_script",u)])/\∀base:Heap,(K w.params).In base->base.Ns mainGlobals mg->kI l.prog w (K w.params) mg base CX0 12 fa fd ["_law_script"] (Rn (K w.params))):
  PySem.W.WalkO q aa XP YP l.row.toRowW d [] (λf vs=>PySem.call f vs):=
 L2.walk_of (n:=63) (k:=12) (x:= "_law_script") (CX:=λ_=>CX0) (sp:=λw=>Rn (K w.params)) hn (by decide) ab ⟨rfl,by decide,by decide⟩ hY F (λ_ _ a ns hl _ hS=>⟨a,ns,rfl,hS,hl,λ_=>rfl⟩) λ_ _ _ _ _ z=>z
end My
structure PySem.W.Fast:Prop where(tw4925526659320561270 tw1214948232983442786 tw4678671978229666604 tw16238119877010246704 tw5020947474276862175 tw18225765542219212012 tw5697929641761203669 tw13587138173890084611 tw1616713148706370267 tw18440069573148323626 tw17170190639297284683 tw12751264830508487473 tw3150397978710497915 tw17197571734699793040 tw14039374589251043529 tw4060057057033317873 tw2925923246045766895 tw17185031022975071891 tw1104365771111470691 tw11562606415151263780 tw17685067385499093036 tw14096065136593327129 tw7209181493067562530 tw11365176111358069994 tw12229986049213896226 tw8437583146922385389 tw14781477607615833686 tw1577781864745956469 tw3733832939651764586 tw7780306576048634709 tw2192320011432498074 tw6990576012044944868 tw15226060948287852591 tw4550633356729726393 tw11597400402217211932 tw14341011559846443783 tw9137858894251068304 tw6092839867289955442 tw1672417097825901051 tw17491827855059142386 tw3240396932120019694 tw2761132215306976694 tw17646928782096031970 tw4479425501915666554 tw4946535082660940135 tw1019367042514168118 tw11559140202190847928 tw18004341493730776187 tw11386365350156039273 tw11762551302077278646 tw10568292962959529320 tw8529897908259536480 tw6267073225604967051 tw6828438220505108874 tw11788094649151005615 tw11515114523515097074 tw8266616244647926605 tw7783066346456853535 tw17341769701749871656 tw3869790891146486511 tw1121015929442703659 tw8551473038065722426 tw15743000735318381101 tw11033036587378635815 tw9978703539415741053 tw3393153847317390055 tw1458908091615651506 tw7362187085179911503 tw8731944940844951710 tw4852491541021472946 tw16414997124181070300 tw3030520634718164821 tw13671881221403077880 tw3324064914123358379 tw13127676835773901196 tw14379702926260694174 tw11003487215165386072 tw1992343367335488897 tw5434888708217284259 tw6560383359656177743 tw8004123169032287020 tw2900160681801045420 tw1860603339316282376 tw15353430365161683341 tw13621445777808321930 tw2898835456415601663 tw8997145573270029380 tw13218322410017087390 tw17316124875442775473 tw4689184124576163437 tw13396436896313115077 tw11514150790536393588 tw4379707058114657740 tw1415938377695566345 tw11719887280933740967 tw6951932220205572499 tw18156825881343899209 tw18012062024431720025 tw18238198668060534505 tw18310767521173038218 tw8314844627882572612 tw17514472725708083467 tw12809604141987474674 tw6646329560865057367 tw18098087395924655897 tw1674403772874960135 tw14675082346401651535 tw16148242728286113470 tw132317919770467550 tw5702957408808844781 tw11138160319163052959 tw13327496195853968714 tw14249848070226831917 tw2590192336523144543 tw12680306057410514203 tw4538997330295023381 tw7778465417131274785 tw7999125740263634439 tw16838165589744238084 tw2775914897248680400 tw4025098447471993756 tw2651916320094481167 tw17133443700835070866 tw1319869127434174780 tw9328218948211001737 tw6800342171557790721 tw12824393973810110252 tw6555023600038370738 tw3741844080488419351 tw10488724678984315061 tw5321516653715891388 tw10410948946361854411 tw3184964361721103789 tw12499590864023877700 tw9132220432240678005 tw15918983150350897919 tw10497883895210588517 tw12825336133852509054 tw5515774274918302817 tw7066035879680607432 tw9192062684101016691 tw18074231968440300200 tw6578546836458332900 tw3540398725218623883 tw2565044446462644827 tw14307212149908049084 tw17143289581958253268 tw5338536383285792488 tw10024397288585417735 tw3764731124306297776 tw7428953311939242006 tw1778182499435073333 tw16244110665550246057 tw17998823928786524278 tw12812795293500408866 tw3436740522764186211 tw16244266474258446730 tw3389682325287054409 tw8314122266256398955 tw10157333882999300633 tw14665333196584028663 tw2299439129842727393 tw10098103170943661113 tw16706745369704507434 tw6961008300521224341 tw4543808987954779004 tw4976956626623544943 tw5953755260353309449 tw11398525133955003177 tw3946291350598547891 tw3075374866113018417 tw16764797950195853509 tw428588791584525623 tw14467210920919512059 tw9461320590256802862 tw13034053166398886388 tw1119516228903601379 tw5187872299475987162 tw1167880658135850371 tw18170237256735777721 tw4612098881965769254 tw5689806217089490886 tw13706890706796296123 tw9045027238362439443 tw5136897278711507025 tw14117781172908874631 tw3575346246693144727 tw16642613721149406215 tw9028204192526264629 tw15582208313036529985 tw17719306330967394536 tw11400779167722040678 tw4755876805323743656 tw6401381778627800284 tw17591244734535335030 tw6889717923530213308 tw17231237929930502701 tw1165519330267827206 tw17293794934178674092 tw6857110565868466161 tw16642683151290956416 tw6679261817239598150 tw7444854132213758175 tw13369186197728356705 tw6721294938967354750 tw8592311985715537473 tw12045845610663680014 tw17829015275365868595 tw5410770639620964547 tw537295004433590247 tw14458777386990909294 tw7867192804061933427 tw7297668780032054198 tw14865607536082781431 tw15394692780855790023 tw4919517131819747319 tw6461031494834933862 tw11917106272540762370 tw2818044723752593147 tw13918662687455696659 tw725180421318161549 tw710467012876294070 tw5354912286303481946 tw4873347257775024487 tw10855535845909434330 tw6011240043535510938 tw7674206155514955986 tw2755149819985723888 tw8483369632418970367 tw1307616396303370754 tw4034592074374418778 tw12375748071529277778 tw16952795189454201160 tw7544538279521358615 tw15998957447531364659 tw7867949289695829482 tw2724056158214070039 tw10385257999376168555 tw18416791480514196690 tw164823869276883041 tw5048298324291185817 tw18061160627398513368 tw14453753744599086463 tw12945742628206281824 tw9634207815104771310 tw14343001341699562450 tw14263608076850642447 tw9272581859170272426 tw579908226285378519 tw10242492897531443586 tw7399453002348570830 tw11350613386856376074 tw8847466454625535245 tw15495258996632405049 tw17373917338856854234 tw969113674377539832 tw13714610267631809429 tw13570859771987078047 tw914907893160146753 tw2749156456527626609 tw11351355226482209297 tw13418910152916334161 tw15781673836444473432 tw16267486621398939932 tw18358762634954632791 tw223165654184934848 tw1195965569098480552 tw15307630741253355838 tw11653410345180960914 tw16073009392550848005 tw12225911871314380657 tw8949613363493672401 tw1790374864135152422 tw6163021911917006918 tw4049921265956496321 tw7531204252893424757 tw1489595384271259116 tw4027747594639989095 tw16176420335231949221 tw4364649618999336407 tw2364168971787098005 tw6627677448727755994 tw11024222785959461463 tw508099589980543819 tw8977715207949377479 tw4066759732287795592 tw2275680373516677464 tw14514883925399211431 tw5994139726437073707 tw12592281616938750893 tw13416928971922661791 tw12701690123397860525 tw6219433787197640365 tw7130268206719197760 tw632242531618738615 tw7246139513080631085 tw8128858901794306838 tw384325585253818608 tw14968481412424044219 tw2083788738133205111 tw7234662038427673388 tw13188933897013477818 tw4479057872902158281 tw1972619819960272635 tw10946009951165236801 tw1886441085220266657 tw13530565288639612796 tw17386401716532748101 tw16160924339818693080 tw1584788826088273867 tw5023667609767298227 tw10195605537837635335 tw1871871324389453964 tw10183113783433823389 tw3532171759747050714 tw12524484624281232572 tw3856964849139361939 tw7030119084372451037 tw6368398501679347708 tw2864003130487308461 tw3893730857551250926 tw3324827955837772569 tw7901494653746522475 tw9717547695698885832 tw4746743286097708908 tw15403512222456458141 tw17811231369360242289 tw7203685678017308896 tw16940396685498776644 tw9000066113365429435 tw7204200681237183609 tw13511597628559216601 tw15658600854389303471 tw14696670018575004286 tw8812085093780905641 tw17866845732350488294 tw11670828719578015561 tw15493962545829736023 tw13110727765990486219 tw1288180783277797758 tw14797706718340245066 tw15126528604424045620 tw10608394901181039638 tw8907877121791106486 tw10825033268909731439 tw2256472501026327454 tw8232768359059537465 tw9293978742590098440 tw15623190825360949976 tw14612627218857989965 tw6366704858469939338 tw5534249827987186224 tw18191751355439337141 tw9530293215617971537 tw13361230567306887940 tw5005039667728186503 tw10018465949507561079 tw7220184171434473803 tw14249053683896505799 tw6112411717140196134 tw2661380630726992868 tw8619974762888019501 tw11995999554300415429 tw8324779971330504210 tw17257645555653047793 tw11943220563811558594 tw4301945418215900566 tw8873320224898536436 tw11496204138009056008 tw2086138679366932335 tw13395936300448743191 tw1621738426243247420 tw3264582836427582779 tw4470008252117173130 tw16847618166395145623 tw408335313158655716 tw2379553486520536624 tw3257970948710034295 tw861902713723289826 tw16277025935166798478 tw5192335020745085199 tw17230303651961941533 tw7698305068967949211 tw10792272057712276686 tw10302035695719719372 tw6885005787675146232 tw10355794684228842129 tw15331601313675018603 tw813244653793807156 tw3317169096869709898 tw2399852938989134863 tw11415254118702498230 tw10671211524821171855 tw3315417445443354795 tw11561219277379863472 tw13084437288535540818 tw10812796529553004583 tw9732403032463860207 tw10945384137451211754 tw8976054746453603479 tw14795178160478863049 tw13687550268907710412 tw9968542881195121432 tw135568753548645944 tw15220163055269665402 tw3065757103142692082 tw15881180410517855529 tw6813897486087448028 tw17546119070070409288 tw11022071422300678360 tw6099126872573473783 tw13854363108821348377 tw1335090539737620991 tw13330063104006907704 tw462069008994314492 tw17689758112298963532 tw11322823319814851700 tw1995311088547578904 tw3515638597252565662 tw291585698303307757 tw15747132836572305843 tw13830168656626137222 tw18085952942065667250 tw13275292386222041478 tw13577072446713918216 tw3264102370519906662 tw15588227688224639340 tw6603832125719855065 tw14646840511397083195 tw2612264495585374401 tw5126791590255343564 tw12475009586711798720 tw11739106625689070143 tw2451396320781788907 tw10126800050354719754 tw17788038641792538517 tw7802069598150302910 tw6855286748449856126 tw2079962612309472995 tw15969444846212463339 tw9402027250428193192 tw1758064548189356796 tw17481273585219618880 tw12125234835045960310 tw12415890166768652928 tw16788916210030485875 tw13730642792539501958 tw4604873067395950944 tw10312400317786505305 tw12661990531442774420 tw5722560973561910095 tw15296436043475709013 tw1039841916159364060 tw7878635042281034334 tw5196392683922298501 tw9704254685888860857 tw11238326800115418457 tw18054117372333474127 tw15962402154988672065 tw8075236563813233887 tw11388600888907955393 tw14707212370048382958 tw15868219049702135251 tw5992702914858762413 tw8014186841148115965 tw10966089144742892766 tw12339400162565629079 tw15151956423652243094 tw11906062019811933377 tw5925074388485507258 tw6935979908448382882 tw17755579315811592955 tw2718397783029132515 tw5582458753310742321 tw12861765737396073443 tw12442104058796252849 tw4224621975132582894 tw2912491260268981569 tw2788019151973166850 tw8584308024286334590 tw5292064899287384704 tw12717480616292873684 tw2080560894317497751 tw355336625289533613 tw11892703787387741519 tw486579925164907973 tw2175315554544051075 tw1375510804282071000 tw16603791947996938319 tw5400073261736202230 tw14640603361403299776 tw14380716782004012168 tw1301169229343021603 tw17124300711282457608 tw9702293873853071977 tw4139848455162457023 tw4495719155638241636 tw12731197171895434443 tw12521302160477458165 tw5736256305917779 tw18016363601583652703 tw2194324660222175041 tw10507952146845440851 tw7165609888558451299 tw7464836104411592510 tw4291558377514191748 tw7551847455666896059 tw10578919176141108787 tw13782909754831573354 tw16232603348692631765 tw12799348637627215079 tw9188548478493425247 tw14880747727194147597 tw12350936599180091559 tw12118712951971990081 tw16632950091740629324 tw18116931746559591746 tw12605122175123845258 tw6493375980021651017 tw13422529094212147072 tw168283766398225796 tw6080495225916698365 tw12545803088997383523 tw15199707474888000680 tw17481955386172641559 tw16689268183117861149 tw15030383692091134992 tw409667061504633537 tw4084238441839118280 tw4990011054303650335 tw13299737092472906969 tw15733803536076981516 tw2786566291450356647 tw4599169538780624328 tw17489238626410625094 tw11067610498069123327 tw8090474630795698363 tw2781188120560917110 tw1100887773881893908 tw11367347229141074891 tw16616317913058030431 tw18041467016236910899 tw12147227738179636810 tw6706956306405771461 tw15924890361480607043 tw11411913016535581130 tw14064981633285704518 tw13962526563028489038 tw8682782333530246157 tw14920417335915476950 tw12059146423044911072 tw7259246113689146828 tw11378857146954980110 tw3220564589354415522 tw6843625265907472797 tw9831508520377017467 tw17896289931750930416 tw12976255024524141968 tw5191180699716636573 tw15784324033030129219 tw1774430674898590359 tw8042728898576180627 tw7845290552771948197 tw7779347883628041017 tw11867685586417999684 tw8752845881067515833 tw658346720372078573 tw4256178629737600297 tw9039906231053213893 tw14306470368034824804 tw2807059270108011609 tw2999273871253198775 tw17760850420938329559 tw5606019565801560583 tw18164760814888190754 tw8171839600861520459 tw3931164601585872557 tw9722282986373451413 tw7580514680238110018 tw971933725094469930 tw16727279489987528508 tw14724144241361324301 tw3109381263308095097 tw16174783371425868503 tw14724300852887098285 tw1453181400480169755 tw4919122484460184312 tw10860343638957827130 tw1512120343882504785 tw14069638159874889324 tw4123129085482159322 tw2544157931312107740 tw3841341033967380992 tw5786439437131679799 tw9261131130074006688 tw3985493742624857343 tw10590395869141465004 tw498059351280033340 tw6120293296280258975 tw8501997091104610284 tw2392223742275073807 tw11141649581914683584 tw9065005950863917409 tw5031179401780706078 tw8987927057781672776 tw10462186764546166925 tw40812028842173262 tw110779603760159302 tw6538696549696560974 tw7296102187736847668:True)
open PySem PySem.W PyProof.Rows
set_option maxRecDepth 100000 in
set_option maxHeartbeats 0 in
theorem PySem.Challenge.cw_lotledger_k90_whole_sums_holds : PySem.Challenge.rw_lotledger_k90_whole_sums.Holds := by
 w_on;o_law;k_head;(case hw=>w_witness2)
 k_fill
 refine My.walk (l:=PySem.Challenge.rw_lotledger_k90_whole_sums) rfl rfl (λw h Y=>PySem.W.kIn_of Y) ?F
 case F=>
  intro w mg fa h KX G hmg;refine' My.all_mk (A:=⟨_,_,_,_,_,_,_,_,_,_,_,_,_,_,_,_,_,_,_,_,_,_,_,_,_,_,_,_,_,_,_,_,_,_,_,_,_,_,_,_,_,_,_,_,_,_,_,_,_,_,_,_,_,_,_,_,_,_,_,_,_,_,_,_,_,_,_,_,_,_,_,_,_,_,_,_,_,_,_,_,_,_,_,_,_,_,_,_,_,_,_,_,_,_,_,_,_,_,_,_,_,_,_,_,_,_,_,_,_,_,_,_,_,_,_,_,_,_,_,_,_,_,_,_,_,_,_⟩) (D:=⟨_,_,_,_,_,_,_,_,_,_,_,_,_,_,_,_,_,_,_,_,_,_,_,_,_,_,_,_,_,_,_,_,_,_,_,_,_,_,_,_,_,_,_,_,_,_,_,_,_,_,_,_,_,_,_,_,_,_,_,_,_,_,_,_,_,_,_,_,_,_,_,_,_,_,_,_,_,_,_,_,_,_,_,_,_,_,_,_,_,_,_,_,_,_,_,_,_,_,_,_,_⟩) hmg ?T
  case T=>
   constructor
   all_goals try dsimp only
   all_goals try (refine' ((mg_of KX G ?a).trans ?b);(case a=>k_is);(case b=>rfl))
   all_goals try (refine' mg_none_of KX G ?a;(case a=>k_is))
   all_goals try (refine' L2.FG.mk (mg_of KX G ?a) ?b (L2.ZS ?c ?d ?e);(case a=>k_is);(case b=>k_is);(case c=>k_is);(case d=>k_is);(case e=>k_is))
   all_goals try (show PySem.W.findIn _ _ _=_;first|k_is|(refine' Eq.trans ?a ?b;(case a=>k_is);(case b=>rfl)))
   all_goals try (refine⟨?_,?_,?_,?_,?_⟩<;>kit_is)
   all_goals try (constructor<;>first|k_is|(refine' Eq.trans ?a ?b;(case a=>k_is);(case b=>rfl))|(constructor<;>first|k_is|(refine' Eq.trans ?a ?b;(case a=>k_is);(case b=>rfl))))
   (case cI=>refine' L2.Tf (its:=[.none]) ?a ?b ?c ?d ?e (.cons rfl .nil);(case a=>k_is);(case b=>k_is);(case c=>k_is);(case d=>k_is);(case e=>rfl))
   (case cK=>refine' L2.Tf (its:=[.int 0 ?t0]) ?a ?b ?c ?d ?e (.cons ⟨_,rfl⟩ .nil);(case a=>k_is);(case b=>k_is);(case c=>k_is);(case d=>k_is);(case e=>rfl))
   (case cO=>refine' L2.Tf (its:=[.int 0 ?t1,.none]) ?a ?b ?c ?d ?e (.cons ⟨_,rfl⟩ (.cons rfl .nil));(case a=>k_is);(case b=>k_is);(case c=>k_is);(case d=>k_is);(case e=>rfl))
   all_goals (refine' L2.ZS ?c ?d ?e;(case c=>k_is);(case d=>k_is);(case e=>k_is))
  all_goals exact (0:Nat)
