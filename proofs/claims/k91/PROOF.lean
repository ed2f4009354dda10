import PyProof.Rows.All
import Wide.FinOn
import OpenK.KSplit
import KE.KSortTup
import KE.KDictOf
import KE.RegKIsAll
import KE.KEqDict
import KE.KRevIter
import KE.KNestM
import KE.KDictSum
import KE.KIntText
import KE.KFromBytes
import KE.KLam
import KE.KDictList
import PySem.Challenge.RW_lotledger_k91_whole_dearest_beside_other
set_option Elab.async false
set_option linter.all false
set_option compiler.extract_closed false
set_option maxRecDepth 100000
set_option maxHeartbeats 4000000
local macro_rules | `(tactic| walk_at "o") => `(tactic| first | exact Or.inl rfl | exact Or.inr (Or.inl rfl) | exact Or.inr (Or.inr rfl))
local macro_rules | `(tactic| walk_at "p") => `(tactic| first | exact .inl rfl | exact .inr rfl | assumption)
noncomputable section
abbrev Fg_:=PySem.W.Frag
def z0:= @List.length_map
def z3:= @List.mem_map
def z4:= @if_neg
def z5:= @PySem.wpAny_bind
def z6:= @List.map_cons
def z7:= @PySem.Heap.get?_push_of_some
def z8:= @if_pos
def z9:= @List.mem_singleton
def zza:= @List.map_append
def zzb:= @List.mem_cons
def zzc:= @Nat.le_refl
def zzd:= @List.not_mem_nil
def zze:= @List.mem_cons_self
def zzf:= @List.size_toArray
def zzg:= @List.getElem?_eq_getElem
def zzh:= @List.mem_cons_of_mem
def zzi:= @PySem.wpAny_pure
def zzj:= @List.map_map
def zzk:= @PySem.sizeLine_eq
def zzl:= @List.getElem?_map
def zzm:= @List.getElem?_eq_some_iff
def zzn:= @PySem.Heap.lt_size
def zzo:= @PySem.Heap.get?_push_size
def zzp:= @List.mem_of_getElem?
def zzq:= @Option.some.inj
def zzr:= @List.sum_cons
def zzs:= @List.mem_append
def zzt:= @List.length_append
def zzu:= @List.length_cons
def zzv:= @Nat.ne_of_lt
def zzw:= @List.nodup_cons
def zzx:= @decide_eq_true
def zzy:= @List.map_congr_left
def zzz:= @Array.length_toList
def zzA:= @List.filter_cons_of_neg
def zzB:= @Nat.zero_le
def zzC:= @Nat.lt_of_lt_of_le
def zzD:= @List.mem_append_right
def zzE:= @List.filter_cons_of_pos
def zzF:= @PySem.F.plainAttrs_list
def zzG:= @Bool.false_ne_true
def zzH:= @decide_eq_false
def zzI:= @PySem.F.slot_list_append
def zzJ:= @PySem.F.type_list_append
def zzK:= @Nat.le_trans
def zzL:= @List.getElem_of_mem
def zzM:= @PySem.PassesOwn.never
def zzN:= @List.take_append_drop
def zzO:= @List.take_add_one
def zzP:= @List.lookup_cons
def zzQ:= @Int.mul_le_mul_of_nonneg_right
def zzR:= @List.length_take
def zzS:= @List.nodup_append
def zzT:= @Int.emod_lt_of_pos
def zzU:= @List.mem_range
def zzV:= @PySem.Paired.length
def zzW:= @of_decide_eq_true
def zzX:= @Array.getElem?_toList
def zzY:= @List.mem_filter
def zzZ:= @List.any_eq_true
def zz0:= @Int.emod_nonneg
def zz1:= @List.filter_append
def zz2:= @PySem.wpAny_Call_Name_kw
def zz3:= @Int.le_refl
def zz4:= @List.append_nil
def zz5:= @List.sum_append
def zz6:= @List.mem_append_left
def zz7:= @Array.getElem?_eq_getElem
def zz8:= @List.take_of_length_le
def zz9:= @Int.mul_right_comm
def yya:= @List.getElem_mem
def yyb:= @List.take_length
def yyc:= @List.getElem?_eq_none
def yyd:= @PySem.F.plainAttrs_dict
def yye:= @List.getElem?_append_right
def yyf:= @List.pairwise_append
def yyg:= @PySem.wpAny_mono
def yyh:= @PySem.W.kia_one
def yyi:= @List.foldl_cons
def yyj:= @List.getElem?_append_left
def yyk:= @List.pairwise_map
def yyl:= @PySem.wpAny_truthy_bool
def yym:= @List.length_filter_le
def yyn:= @Nat.lt_irrefl
def yyo:= @Int.add_zero
def yyp:= @PySem.wpAny_holding
def yyq:= @Int.le_of_mul_le_mul_right
def yyr:= @Int.mul_ediv_cancel
def yys:= @List.filter_eq_self
def yyt:= @List.pairwise_iff_getElem
def yyu:= @List.drop_eq_getElem_cons
def yyv:= @PySem.F.slot_dict_get
def yyw:= @List.length_drop
def yyx:= @Bool.false_eq_true
def yyy:= @Nat.ne_of_gt
def yyz:= @List.mem_of_mem_take
def yyA:= @Int.toNat_natCast
def yyB:= @Nat.le_of_lt_succ
def yyC:= @List.length_pos_iff
def yyD:= @PySem.Heap.get?_update_other
def yyE:= @Nat.le_succ
def yyF:= @List.getElem_map
def yyG:= @PySem.wpAny_call_entry
def yyH:= @List.mem_filterMap
def yyI:= @List.length_singleton
def yyJ:= @List.length_nil
def yyK:= @PySem.wpAny_passesOwn
def yyL:= @Sum.inr.inj
def yyM:= @Nat.lt_trans
def yyN:= @PySem.wpAny_pyIter_list
def yyO:= @Option.isSome_iff_exists
def yyP:= @List.length_erase_of_mem
def yyQ:= @List.cons.inj
def yyR:= @PySem.mem_of_lookup
def yyS:= @PySem.Heap.get?_update_ne
def yyT:= @PySem.Heap.SameBut.update
def yyU:= @List.ext_getElem
def yyV:= @List.length_eq_zero_iff
def yyW:= @List.take_append_of_le_length
def yyX:= @PySem.F.entry_dict_get
def yyY:= @List.pairwise_cons
def yyZ:= @List.length_pos_of_mem
def yy0:= @Int.zero_add
def yy1:= @PySem.call_meetsIn
def yy2:= @Bool.eq_iff_iff
def yy3:= @List.find?_cons
def yy4:= @PySem.F.slot_dict_pop
def yy5:= @PySem.Heap.get?_update_self
def yy6:= @List.append_assoc
def yy7:= @PySem.wpAny_pyIter_slot
def yy8:= @Array.toArray_toList
def yy9:= @List.mem_erase_of_ne
def Za:= @Array.getElem?_eq_some_iff
def Zb:= @PySem.wpAny_tryCatch
def Zc:= @Nat.le_of_lt
def Zd:= @List.map_nil
def Ze:= @Nat.succ_pos
def Zf:= @PySem.wpAny_askSetting
def Zg:= @Int.toNat_of_nonneg
def Zh:= @List.nil_append
def Zi:= @List.filter_map
def Zj:= @PySem.wpAny_execs_nil
def Zk:= @PySem.W.callWith_K
def Zl:= @Nat.lt_of_le_of_lt
def Zm:= @Sum.inl.inj
def Zn:= @PySem.F.slot_dict_items
def Zo:= @List.getElem?_cons_succ
def Zp:= @List.getElem?_set_self
def Zq:= @PySem.Heap.size_push
def Zr:= @Bool.and_false
def Zs:= @Option.map_eq_some_iff
def Zt:= @List.ext_getElem?
def Zu:= @List.drop_of_length_le
def Zv:= @Int.sub_zero
def Zw:= @PySem.wpAny_newObj_type
def Zx:= @PySem.wpAny_Call_method
def Zy:= @PySem.wpAny_setState_of
def Zz:= @PySem.W.methodCall_KW
def ZA:= @Nat.lt_succ_self
def ZB:= @List.all_eq_true
def ZC:= @List.getElem?_set_ne
def ZD:= @List.mem_of_mem_drop
def ZE:= @Nat.pow_le_pow_right
def ZF:= @List.map_id
def ZG:= @Option.map_some
def ZH:= @List.filter_nil
def ZI:= @PySem.wpAny_specialOf
def ZJ:= @List.filterMap_cons
def ZK:= @PySem.W.plainGet_of
def ZL:= @Array.perm_iff_toList_perm
def ZM:= @List.zip_cons_cons
def ZN:= @Nat.mod_lt
def ZO:= @List.perm_append_singleton
def ZP:= @List.getElem?_drop
def ZQ:= @List.exists_cons_of_ne_nil
def ZR:= @PySem.wpAny_call
def ZS:= @PySem.wpAny_seqItems
def ZT:= @List.getElem?_inj
def ZU:= @List.foldl_append
def ZV:= @List.length_range
def ZW:= @Array.toList_push
def ZX:= @Nat.lt_succ_of_lt
def ZY:= @Int.mul_add
def ZZ:= @List.filter_congr
def Ya0:= @PySem.wpAny_letGo
def Ya1:= @List.map_drop
def Ya2:= @PySem.wpAny_newList
def Ya3:= @PySem.W.makes_of
def Ya4:= @Bool.and_eq_true
def Ya5:= @List.filter_cons
def Ya6:= @List.map_reverse
def Ya7:= @PySem.wpAny_isInstance
def Ya8:= @Nat.le_of_eq
def Ya9:= @Int.lt_trans
def Yb0:= @Int.mul_zero
def Yb1:= @Int.le_of_lt
def Yb2:= @PySem.wpAny_typeOf
def Yb3:= @List.of_mem_zip
def Yb4:= @Array.size_push
def Yb5:= @List.range_succ
def Yb6:= @PySem.wpAny_updateSeq
def Yb7:= @Int.mul_sub
namespace L2
open PySem PySem.Spec PyProof.Rows
abbrev Key:=Sum Int Str
noncomputable def Uy:Key->Value->Bool
 |.inl k,v=>Value.isInt k v
 |.inr x,v=>Value.isStrOf x v
noncomputable def agE(w:World):Key->Int
 |.inl k=>hashInt k
 |.inr x=>hashStr w x
def ir:∀{k:Key}{v:Value},Uy k v=true->(∃i t,k=Sum.inl i/\v=Value.int i t)\/(∃x t,k=Sum.inr x/\v=Value.str x t)
 |.inl i,v,h=>by
  obtain⟨t,e⟩:=Value.isInt_shape (k:=i) (v:=v) h;exact .inl ⟨i,t,rfl,e⟩
 |.inr x,v,h=>by
  obtain⟨t,e⟩:=Value.isStrOf_shape (x:=x) (v:=v) h;exact .inr ⟨x,t,rfl,e⟩
def UW(i:Int)(t:Tok):Uy (.inl i) (.int i t)=true:=by simp[Uy,Value.isInt]
def Vi(x:Str)(t:Tok):Uy (.inr x) (.str x t)=true:=by simp[Uy,Value.isStrOf]
def aez(a b:Int):decide ((Sum.inl a:Key)=Sum.inl b)=(a==b):=by
 by_cases e:a=b
 ·subst e;simp
 ·have h:¬(Sum.inl a:Key)=Sum.inl b:=λq=>e (Zm q)
  rw[zzH h];exact(beq_eq_false_iff_ne.mpr e).symm
def adR(a b:Str):decide ((Sum.inr a:Key)=Sum.inr b)=decide (a=b):=by
 by_cases e:a=b
 ·subst e;simp
 ·have h:¬(Sum.inr a:Key)=Sum.inr b:=λq=>e (yyL q)
  rw[zzH h,zzH e]
def aeE(a:Int)(b:Str):decide ((Sum.inl a:Key)=Sum.inr b)=false:=zzH (λq=>nomatch q)
def aew(a:Str)(b:Int):decide ((Sum.inr a:Key)=Sum.inl b)=false:=zzH (λq=>nomatch q)
noncomputable def gb(prog:Program)(w:World):PySem.KeyKind prog w Key where
 is:=Uy
 hash:=agE w
 inj:=λv a b ha hb=>by
  rcases ir ha with⟨i,t,rfl,rfl⟩|⟨x,t,rfl,rfl⟩
  ·rcases ir hb with⟨j,u,rfl,e⟩|⟨y,u,rfl,e⟩
   ·injection e with e1 _;rw[e1]
   ·exact nomatch e
  ·rcases ir hb with⟨j,u,rfl,e⟩|⟨y,u,rfl,e⟩
   ·exact nomatch e
   ·injection e with e1 _;rw[e1]
 byValue:=λk v h=>by
  rcases ir h with⟨i,t,rfl,rfl⟩|⟨x,t,rfl,rfl⟩<;>rfl
 pyHash:=λhv h=>by
  rcases ir hv with⟨i,t,rfl,rfl⟩|⟨x,t,rfl,rfl⟩
  ·exact wpAny_pyHash_int h
  ·exact wpAny_pyHash_str h
 eqBool:=λhu hv h=>by
  rcases ir hu with⟨i,t,rfl,rfl⟩|⟨x,t,rfl,rfl⟩
  ·rcases ir hv with⟨j,u,rfl,rfl⟩|⟨y,u,rfl,rfl⟩
   ·rw[aez]at h;exact wpAny_eqBool_int h
   ·rw[aeE]at h;exact SeqAt.EqAt.int_str i t y u _ _ _ _ h
  ·rcases ir hv with⟨j,u,rfl,rfl⟩|⟨y,u,rfl,rfl⟩
   ·rw[aew]at h;exact SeqAt.EqAt.str_int x t j u _ _ _ _ h
   ·rw[adR]at h;exact wpAny_eqBool_str h
 «strs»:=λk x t v h=>by
  rcases ir h with⟨i,u,rfl,e⟩|⟨y,u,rfl,e⟩
  ·exact nomatch e
  ·injection e with e1 _
   subst e1;cases v<;>rfl
def Oo(prog:Program)(w:World)(i:Int)(t:Tok):(gb prog w).is (.inl i) (.int i t)=true:=UW i t
def Oa(prog:Program)(w:World)(x:Str)(t:Tok):(gb prog w).is (.inr x) (.str x t)=true:=Vi x t
end L2
namespace L2
open PySem PySem.Spec PyProof.Rows
inductive V where
 |non|bl (b:Bool)|int (i:Int)|str (x:Str)|byt (b:Array UInt8)|flt (b:UInt64)|ref (a:Addr)|ty (n:String)
 deriving DecidableEq
noncomputable def RelV:V->Value->Prop
 |.non,u=>u=Value.none
 |.bl b,u=>u=Value.bool b
 |.int i,u=>∃t,u=Value.int i t
 |.str x,u=>∃t,u=Value.str x t
 |.byt b,u=>∃t,u=Value.bytes b t
 |.flt b,u=>∃t,u=Value.float b t
 |.ref a,u=>u=Value.ref a
 |.ty n,u=>u=Value.type n
abbrev Vals:List V->List Value->Prop:=Paired RelV
theorem Vals.length{xs:List V}{us:List Value}(r:Vals xs us):xs.length=us.length:=zzV r
theorem Vals.get:∀{xs:List V}{us:List Value}{i:Nat}{x:V},Vals xs us->xs[i]? =some x->∃u,us[i]? =some u/\RelV x u
 |_,_,_,_,.nil,e=>by simp at e
 |_,_,0,_,.cons r _,e=>by simp at e;subst e;exact⟨_,rfl,r⟩
 |_,_,i+1,x,.cons _ t,e=>by
  obtain⟨u,h1,h2⟩:=Vals.get (i:=i) (x:=x) t (by simpa using e);exact⟨u,by simpa using h1,h2⟩
theorem Vals.set{x:V}{u:Value}(r:RelV x u):∀{xs:List V}{us:List Value}(i:Nat),Vals xs us->Vals (xs.set i x) (us.set i u)
 |_,_,_,.nil=> .nil
 |_,_,0,.cons _ t=> .cons r t
 |_,_,i+1,.cons q t=> .cons q (Vals.set r i t)
theorem Vals.append:∀{xs ys:List V}{us ws:List Value},Vals xs us->Vals ys ws->Vals (xs++ys) (us++ws)
 |_,_,_,_,.nil,s=>s
 |_,_,_,_,.cons r t,s=> .cons r (Vals.append t s)
theorem Vals.take:∀{xs:List V}{us:List Value}(n:Nat),Vals xs us->Vals (xs.take n) (us.take n)
 |_,_,0,_=> .nil
 |_,_,_+1,.nil=> .nil
 |_,_,n+1,.cons r t=> .cons r (Vals.take n t)
theorem Vals.drop:∀{xs:List V}{us:List Value}(n:Nat),Vals xs us->Vals (xs.drop n) (us.drop n)
 |_,_,0,r=>r
 |_,_,_+1,.nil=> .nil
 |_,_,n+1,.cons _ t=>Vals.drop n t
noncomputable def Gj:Option V->Option Value->Prop
 |some v,some u=>RelV v u
 |none,none=>True
 |_,_=>False
noncomputable def KV{κ:Type}:List (κ×V)->List (κ×Value)->Prop:=Paired fun(p:κ×V)(q:κ×Value)=>p.1=q.1/\RelV p.2 q.2
noncomputable def kV:Key->V
 |.inl i=> .int i
 |.inr x=> .str x
inductive HO where
 |lst (xs:List V)
 |tup (xs:List V)
 |dK (kvs:List (Key×V))|dT (kvs:List (List Key×V))
 |set (S:Int->Bool) (n:Nat)
 |ins (C dx:Addr) (fs:List (Str×V))
 |own (x:Addr)
 |xd (fs:List (Str×V))
 |met (f x:Addr)
 |rng (lo hi:Int)
 |frz (o:Obj) (u:HO)
 |tbl (ps:Array Value)
 |ext (φ:Heap->Prop)
abbrev Hp:=Addr->Option HO
noncomputable def upd(H:Hp)(a:Addr)(o:HO):Hp:=λb=>if b=a then some o else H b
def eX{H:Hp}{a:Addr}{o:HO}:upd H a o a=some o:=by unfold upd;rw[z8 rfl]
def fC{H:Hp}{a b:Addr}{o:HO}(h:b≠a):upd H a o b=H b:=by unfold upd;rw[z4 h]
def afS{H:Hp}{a b:Addr}{o u:HO}(h:H a=some o)(h':H b=some u)(d:o≠u):a≠b:=by
 intro e;subst e;rw[h]at h';exact d (zzq h')
def fU{H:Hp}{a b:Addr}{o:HO}(h:H a=some o)(h':H b=none):a≠b:=by
 intro e;subst e;rw[h]at h';cases h'
section
variable(P:Program)(w:World)
noncomputable def iJ(H:Hp)(h:Heap)(a:Addr):HO->Prop
 |.lst xs=>xs.length<=sizeLine/\∃(its:List Value)(n:Nat),Vals xs its/\h.get? a=some {cls:=.type "list",data:=.seq its.toArray n}
 |.tup xs=>xs.length<=sizeLine/\∃its:List Value,Vals xs its/\IsTup h a its.toArray
 |.dK kvs=>kvs.length<=sizeLine/\(a==sysModules)=false/\∃vs,KV kvs vs/\h.DictOf (gb P w) a vs
 | .dT kvs=>kvs.length<=sizeLine/\(a==sysModules)=false/\∃xs:List (List Key×Addr×Value),
   Paired (fun(p:List Key×V)(q:List Key×Addr×Value)=>p.1=q.1/\H q.2.1=some (.tup (p.1.map kV))/\RelV p.2 q.2.2) kvs xs/\
   ∃o es ep,h.get? a=some o/\o.ExactDict/\o.data=.dict es ep/\es.toList=xs.map (entryOfKey (tupleKind (gb P w)))/\(xs.map (·.1)).Nodup
 |.set S n=>h.SetOf (intKind P w) a S n
 | .ins C dx fs=>H dx=some (.own a)/\fs.length<=1000/\dx≠a/\h.get? a=some (PySem.W.instObj C dx)/\
   ∃mA,h.Ns1 dx mA/\(∀f,Gj (fs.lookup f) (mA f))/\PySem.Within mA (fs.map (·.1))
 |.own _=>∃o,h.get? a=some o
 |.xd fs=>∃mA,h.Ns1 a mA/\∀f,Gj (fs.lookup f) (mA f)
 |.rng lo hi=>∃t u v,h.get? a=some {cls:=.type "range",data:=.fields #[.int lo t,.int hi u,.int 1 v]}
 |.frz o u=>h.get? a=some o/\iJ H h a u
 |.tbl ps=>h.get? a=some {cls:=.none,data:=.fields ps}
 |.met f x=>h.get? a=some (PySem.W.methodObj (.ref f) (.ref x))
 |.ext φ=>φ h/\(∃o,h.get? a=some o)/\∀h1 h2:Heap,φ h1->(∀o,h1.get? a=some o->h2.get? a=some o)->φ h2
noncomputable def HOk(H:Hp)(h:Heap):Prop:=∀a o,H a=some o->iJ P w H h a o
end
section
variable{P:Program}{w:World}{H H':Hp}{h h':Heap}{a:Addr}{o:HO}
theorem iJ.lt(x:iJ P w H h a o):a<h.objs.size:=by
 cases o with
 |lst xs=>obtain⟨_,_,_,_,e⟩:=x;exact zzn e
 |tup xs=>obtain⟨_,_,_,p⟩:=x;exact p.lt
 |dK kvs=>obtain⟨_,_,_,_,o,_,_,e,_⟩:=x;exact zzn e
 |dT kvs=>obtain⟨_,_,_,_,o,_,_,e,_⟩:=x;exact zzn e
 |set S n=>obtain⟨o,_,_,_,e,_⟩:=x;exact zzn e
 |ins C dx fs=>obtain⟨_,_,_,e,_⟩:=x;exact zzn e
 |own y=>obtain⟨_,e⟩:=x;exact zzn e
 |xd fs=>obtain⟨_,⟨_,_,_,e,_⟩,_⟩:=x;exact zzn e
 |rng lo hi=>obtain⟨_,_,_,e⟩:=x;exact zzn e
 |frz ob u=>obtain⟨e,_⟩:=x;exact zzn e
 |tbl ps=>exact zzn (show h.get? a=some _ from x)
 |met f y=>exact zzn (show h.get? a=some _ from x)
 |ext φ=>obtain⟨_,⟨_,e⟩,_⟩:=x;exact zzn e
theorem Paired.mapP{α β:Type}{F G:α->β->Prop}:∀{l₁:List α}{l₂:List β},Paired F l₁ l₂->(∀a b,F a b->G a b)->Paired G l₁ l₂
 |_,_,.nil,_=> .nil
 |_,_,.cons r t,f=> .cons (f _ _ r) (Paired.mapP t f)
def iJ.stay(x:iJ P w H h a o)(k:∀b u,(b=a\/H b=some (.own a))->h.get? b=some u->h'.get? b=some u)
  (ho:∀b,H b=some (.own a)->H' b=some (.own a)) (ht:∀b xs,H b=some (.tup xs)->H' b=some (.tup xs)):iJ P w H' h' a o:=by
 induction o with
 |lst xs=>obtain⟨z,its,n,r,e⟩:=x;exact⟨z,its,n,r,k _ _ (.inl rfl) e⟩
 |tup xs=>obtain⟨z,its,r,ob,e,c⟩:=x;exact⟨z,its,r,ob,k _ _ (.inl rfl) e,c⟩
 |dK kvs=>obtain⟨z,y,vs,r,ob,es,ep,e,c⟩:=x;exact⟨z,y,vs,r,ob,es,ep,k _ _ (.inl rfl) e,c⟩
 |dT kvs=>
  obtain⟨z,y,xs,r,ob,es,ep,e,c⟩:=x;exact⟨z,y,xs,Paired.mapP r λp q z=>⟨z.1,ht _ _ z.2.1,z.2.2⟩,ob,es,ep,k _ _ (.inl rfl) e,c⟩
 |set S n=>obtain⟨ob,es,ep,t,e,c⟩:=x;exact⟨ob,es,ep,t,k _ _ (.inl rfl) e,c⟩
 |ins C dx fs=>
  obtain⟨d,z,ne,e,mA,⟨od,es,ep,e2,c⟩,r⟩:=x;exact⟨ho _ d,z,ne,k _ _ (.inl rfl) e,mA,⟨od,es,ep,k _ _ (.inr d) e2,c⟩,r⟩
 |own y=>obtain⟨ob,e⟩:=x;exact⟨ob,k _ _ (.inl rfl) e⟩
 |xd fs=>obtain⟨mA,⟨od,es,ep,e,c⟩,r⟩:=x;exact⟨mA,⟨od,es,ep,k _ _ (.inl rfl) e,c⟩,r⟩
 |rng lo hi=>obtain⟨t,u,v,e⟩:=x;exact⟨t,u,v,k _ _ (.inl rfl) e⟩
 |frz ob u ih=>obtain⟨e,q⟩:=x;exact⟨k _ _ (.inl rfl) e,ih q⟩
 |tbl ps=>
  have e:h.get? a=some {cls:=.none,data:=.fields ps}:=x;show h'.get? a=some {cls:=.none,data:=.fields ps};exact k a _ (.inl rfl) e
 |met f y=>
  have e:h.get? a=some (PySem.W.methodObj (.ref f) (.ref y)):=x;show h'.get? a=some (PySem.W.methodObj (.ref f) (.ref y));exact k a _ (.inl rfl) e
 |ext φ=>obtain⟨p,⟨o,e⟩,st⟩:=x;exact⟨st _ _ p λo q=>k _ _ (.inl rfl) q,⟨o,k _ _ (.inl rfl) e⟩,st⟩
theorem HOk.lt(x:HOk P w H h)(e:H a=some o):a<h.objs.size:=(x a o e).lt
def HOk.fresh(x:HOk P w H h)(e:h.objs.size<=a):H a=none:=by
 cases q:H a with
 |none=>rfl
 |some u=>exact absurd (zzC (x.lt q) e) (yyn _)
def HOk.kept(x:HOk P w H h)(k:∀b u,h.get? b=some u->h'.get? b=some u):HOk P w H h':=λa o e=>
 (x a o e).stay (λb u _ q=>k b u q) (λ_ q=>q) λ_ _ q=>q
def HOk.laid(x:HOk P w H h)(k:∀b u,h.get? b=some u->h'.get? b=some u)(hp:h.objs.size<=a)(z:iJ P w (upd H a o) h' a o):HOk P w (upd H a o) h':=λb u e=>by
 have hn:=x.fresh hp;by_cases hb:b=a
 ·subst hb;rw[eX]at e;cases e;exact z
 ·rw[fC hb]at e
  exact(x b u e).stay (λc v _ q=>k c v q) (λc q=>by rw[fC (fU q hn)];exact q) λc xs q=>by rw[fC (fU q hn)];exact q
end
noncomputable def Rd(H:Hp)(a:Addr)(u:HO):Prop:=H a=some u\/∃o,H a=some (.frz o u)
def Rd.of{H:Hp}{a:Addr}{u:HO}(h:H a=some u):Rd H a u:=.inl h
def Rd.ok{P:Program}{w:World}{H:Hp}{h:Heap}{a:Addr}{u:HO}(r:Rd H a u)(x:HOk P w H h):iJ P w H h a u:=by
 rcases r with r|⟨o,r⟩
 ·exact x a u r
 ·obtain⟨_,q⟩:=x a _ r
  exact q
noncomputable def Mut:Option HO->Prop
 |some (.lst _)=>True
 |some (.dK _)=>True
 |some (.dT _)=>True
 |some (.set _ _)=>True
 |some (.ins _ _ _)=>True
 |some (.ext _)=>True
 |_=>False
section
variable{P:Program}{w:World}{H:Hp}{h h':Heap}{x e:Addr}{o':HO}
def HOk.write(ok:HOk P w H h)(mu:Mut (H x))(he:e=x\/H e=some (.own x))(k:∀b u,b≠e->h.get? b=some u->h'.get? b=some u)(ad:∃u,h'.get? e=some u)
  (ae:iJ P w (upd H x o') h' x o'):HOk P w (upd H x o') h':=λb u q=>by
 have ab:∀c y,H c=some (.own y)->c≠x:=λc y r z=>by subst z;rw[r]at mu;exact mu
 have ac:∀c xs,H c=some (.tup xs)->c≠x:=λc xs r z=>by subst z;rw[r]at mu;exact mu
 by_cases hb:b=x
 ·subst hb;rw[eX]at q;cases q;exact ae
 ·rw[fC hb]at q
  by_cases aa:b=e
  ·have q':H b=some (.own x):=by
    rcases he with z|z
    ·exact absurd (aa.trans z) hb
    ·rw[aa];exact z
   rw[q]at q';cases q';obtain⟨v,hv⟩:=ad;exact⟨v,by rw[aa];exact hv⟩
  ·refine(ok b u q).stay (λc v hc r=>k c v ?_ r) (λc r=>by rw[fC (ab c b r)];exact r) λc xs r=>by rw[fC (ac c xs r)];exact r
   rcases hc with rfl|hc
   ·exact aa
   ·rintro rfl
    rcases he with z|z
    ·exact ab c b hc z
    ·rw[hc]at z;cases z;exact hb rfl
end
structure Un(fs ex:List Addr)(H H':Hp)(h h':Heap):Prop where
 keep:∀b o,h.get? b=some o->H b=none->b∉fs->b∉ex->h'.get? b=some o
 slot:∀b o,h.get? b=some o->H b=none->b∈fs->b∉ex->∃sl,h'.get? b=some {o with slots:=sl}
 free:∀b o,h.get? b=some o->H b=none->b∉ex->H' b=none
 there:∀b o,h.get? b=some o->b∉ex->∃o',h'.get? b=some o'
 tups:∀b xs,H b=some (.tup xs)->H' b=some (.tup xs)
 frzs:∀b o u,H b=some (.frz o u)->H' b=some (.frz o u)
 tbls:∀b ps,H b=some (.tbl ps)->∃more,H' b=some (.tbl (ps++more))
section
variable{fs fs' ex ex':List Addr}{H H1 H2:Hp}{h h1 h2 h':Heap}{a x e:Addr}{o:HO}
def Un.any(u:Un fs ex H H1 h h1){b:Addr}{z:Obj}(q:h.get? b=some z)(n:H b=none)(hx:b∉ex):∃sl,h1.get? b=some {z with slots:=sl}:=by
 by_cases hb:b∈fs
 ·exact u.slot b z q n hb hx
 ·exact⟨z.slots,u.keep b z q n hb hx⟩
def Un.trans(a:Un fs ex H H1 h h1)(b:Un fs ex H1 H2 h1 h2):Un fs ex H H2 h h2 where
 keep:=λc z q n hc hx=>b.keep c z (a.keep c z q n hc hx) (a.free c z q n hx) hc hx
 slot:=λc z q n hc hx=>by
  obtain⟨sl,e1⟩:=a.slot c z q n hc hx;obtain⟨aa,e2⟩:=b.slot c _ e1 (a.free c z q n hx) hc hx;exact⟨aa,e2⟩
 free:=λc z q n hx=>by
  obtain⟨o',e1⟩:=a.there c z q hx;exact b.free c o' e1 (a.free c z q n hx) hx
 there:=λc z q hx=>by
  obtain⟨o',e1⟩:=a.there c z q hx;exact b.there c o' e1 hx
 tups:=λc xs q=>b.tups c xs (a.tups c xs q)
 frzs:=λc z xs q=>b.frzs c z xs (a.frzs c z xs q)
 tbls:=λc ps q=>by
  obtain⟨m1,e1⟩:=a.tbls c ps q;obtain⟨m2,e2⟩:=b.tbls c _ e1;exact⟨m1++m2,by rw[e2,Array.append_assoc]⟩
def Un.kept(k:∀b u,h.get? b=some u->h'.get? b=some u):Un fs ex H H h h':=
 ⟨λb z q _ _ _=>k b z q,λb z q _ _ _=>⟨z.slots,k b z q⟩,λ_ _ _ n _=>n,λb z q _=>⟨z,k b z q⟩,λ_ _ q=>q,λ_ _ _ q=>q,λ_ ps q=>⟨#[],by rw[q];simp⟩⟩
def Un.refl:Un fs ex H H h h:=Un.kept λ_ _ q=>q
def Un.laid(k:∀b u,h.get? b=some u->h'.get? b=some u)(z:h.objs.size<=a)(hn:H a=none):Un fs ex H (upd H a o) h h' where
 keep:=λb u q _ _ _=>k b u q
 slot:=λb u q _ _ _=>⟨u.slots,k b u q⟩
 free:=λb u q n _=>by rw[fC (zzv (zzC (zzn q) z))];exact n
 there:=λb u q _=>⟨u,k b u q⟩
 tups:=λb xs q=>by rw[fC (fU q hn)];exact q
 frzs:=λb u xs q=>by rw[fC (fU q hn)];exact q
 tbls:=λb ps q=>⟨#[],by rw[fC (fU q hn),q];simp⟩
def Un.write(mu:Mut (H x))(he:e=x\/H e=some (.own x))(k:∀b u,b≠e->h.get? b=some u->h'.get? b=some u)(ab:∃u,h'.get? e=some u):Un fs ex H (upd H x o) h h':=by
 have hx:∀b,H b=none->b≠x:=λb n z=>by subst z;rw[n]at mu;exact mu
 have hb:∀b,H b=none->b≠e:=λb n z=>by
  subst z;rcases he with r|r
  ·exact hx b n r
  ·rw[n]at r;cases r
 have hm:∀b u,H b=some u->¬Mut (some u)->b≠x:=λb u q nm z=>by subst z;rw[q]at mu;exact nm mu
 refine ⟨λb u q n _ _=>k b u (hb b n) q,λb u q n _ _=>⟨u.slots,k b u (hb b n) q⟩,λb u q n _=>by rw[fC (hx b n)];exact n,λb u q _=>?_,
  λb xs q=>by rw[fC (hm b _ q λz=>z)];exact q,λb u xs q=>by rw[fC (hm b _ q λz=>z)];exact q,λb ps q=>⟨#[],by rw[fC (hm b _ q λz=>z),q];simp⟩⟩
 by_cases aa:b=e
 ·subst aa;exact ab
 ·exact⟨u,k b u aa q⟩
end
noncomputable def trk(h:Heap)(H:Hp):List Addr:=(List.range h.objs.size).filter λa=>(H a).isSome
noncomputable def aav(h:Heap)(H:Hp):Heap:=PySem.W.hideAll h (trk h H)
def Xo(h:Heap)(H:Hp):(aav h H).objs.size=h.objs.size:=PySem.W.hideAll_size _ _
def aaQ{h:Heap}{H:Hp}{b:Addr}{o:Obj}(e:h.get? b=some o)(n:H b=none):(aav h H).get? b=some o:=
 PySem.W.hideAll_get _ e λhm=>by
  have q:(H b).isSome=true:=(zzY.mp hm).2;rw[n]at q;simp at q
def ady{h:Heap}{H:Hp}{b:Addr}{o:Obj}(e:(aav h H).get? b=some o):h.get? b=some o/\H b=none:=by
 have e':h.get? b=some o:=PySem.W.of_hideAll (trk h H) e;refine⟨e',?_⟩
 cases q:H b with
 |none=>rfl
 |some x=>
  have hm:b∈trk h H:=zzY.mpr ⟨zzU.mpr (zzn e'),by simp[q]⟩;have z:(aav h H).get? b=none:=PySem.W.hideAll_none (trk h H) hm;rw[z]at e;cases e
noncomputable def acq(g h:Heap)(L:Addr):List (Addr×Obj):=(List.range h.objs.size).filterMap λa=>if a=L\/(g.get? a).isSome=true then none else(h.get? a).map λo=>(a,o)
noncomputable def rest(g h:Heap)(L d:Addr):List (Addr×Obj):=(acq g h L).filter λp=>decide (p.1≠d)
end L2
namespace L2
open PySem PySem.Spec PyProof.Rows
structure Mod(K:Fg_)(mg:Str->Option Value)(base:Heap):Prop where
 kin:K.In base
 glob:base.Ns mainGlobals mg
 blt:∃mb,base.Ns builtinsNs mb/\∀x:Str,x≠ "__name__" ->mb x=bootBuiltins x
 nolimit:base.NoLimit
structure Cx where
 prog:Program
 w:World
 K:Fg_
 mg:Str->Option Value
 base:Heap
 A:Around
 N:List Str
 s₀:Shared
 H₀:Hp
 env:Env
 outer:List Env
 stack:List Env
 ex:List Addr
 fn:Str->Bool
 calm:Bool
 pn:List (Addr×Obj)
 xe:Value->Shared->Prop
noncomputable def frs(l:List Env):List Addr:=l.filterMap (·.frame)
abbrev Cx.fs(X:Cx):List Addr:=frs X.outer
noncomputable def Vis(sc:Scope)(x:Str):Prop:=sc.names.lookup x=some .local\/sc.names.lookup x=some .cell\/sc.names.lookup x=some .free
noncomputable def Loc(sc:Scope)(x:Str):Prop:=sc.names.lookup x=some .local\/sc.names.lookup x=some .cell
noncomputable def Look(env:Env)(h:Heap)(m:Str->Option Value)(x:Str)(u:Value):Prop:=
 (env.kindOf x=some .local/\m x=some u)\/((env.kindOf x=some .cell\/env.kindOf x=some .free)/\∃c,env.cells.lookup x=some c/\h.IsCell c (some u))
structure Cx.Ok(X:Cx):Prop where
 mod:Mod X.K X.mg X.base
 kind:X.env.scope.kind=.function
 glob:X.env.globals=mainGlobals
 blt:X.env.builtins=builtinsNs
 above:X.s₀.heap.objs.size<=X.env.locals
 inj:∀x y c,X.env.cells.lookup x=some c->X.env.cells.lookup y=some c->x=y
 has:∀x,(X.env.kindOf x=some .cell\/X.env.kindOf x=some .free)->∃c,X.env.cells.lookup x=some c
 cab:∀x c,X.fn x=true->X.env.cells.lookup x=some c->X.s₀.heap.objs.size<=c
 hd:X.calm=true->X.A.handled=none
 frames:X.A.frames=some X.stack
 stk:X.stack=X.outer\/(X.stack=X.env::X.outer/\X.env.frame=some X.env.locals)
 exf:∀b∈X.ex,b≠X.env.locals/\∀x c,X.env.cells.lookup x=some c->c≠b
 bs:∀b o,X.base.get? b=some o->X.s₀.heap.get? b=some o/\X.H₀ b=none
 bsz:X.base.objs.size<=X.s₀.heap.objs.size
 noex:∀b o,X.base.get? b=some o->b∉X.ex
 exfs:∀b∈X.ex,b∉X.fs
 funs:X.s₀.heap.FunFrames X.base X.outer
 frf:∀b∈X.fs,X.H₀ b=none
structure Inv(X:Cx)(pins:List (Addr×Obj))(σ:List (Option V))(H:Hp)(s:Shared):Prop where
 ok:X.Ok
 os:s.os=X.s₀.os
 bare:AllBare s.gens
 base:Un X.fs X.ex X.H₀ H X.s₀.heap s.heap
 loc:∃m,s.heap.Ns X.env.locals m/\∀(i:Nat)(x:Str)(v:V),X.N[i]? =some x->σ[i]? =some (some v)->Vis X.env.scope x->∃u,RelV v u/\Look X.env s.heap m x u
 cell:∀x c,X.env.cells.lookup x=some c->∃v,s.heap.IsCell c v
 free:H X.env.locals=none
 freeC:∀x c,X.env.cells.lookup x=some c->H c=none
 pin:∀p∈X.pn++pins,s.heap.get? p.1=some p.2/\H p.1=none/\p.1≠X.env.locals/\p.1∉X.fs/\∀v,p.2.data≠.cell v
 hok:HOk X.prog X.w H s.heap
 len:σ.length=X.N.length
section
variable{X:Cx}{pins:List (Addr×Obj)}{σ:List (Option V)}{H H':Hp}{s:Shared}{h':Heap}
def Cx.Ok.nofr(ok:X.Ok){b:Addr}{o:Obj}(e:X.base.get? b=some o):b∉X.fs:=λq=>by
 have:=(ok.funs.mem q).1;rw[e]at this;cases this
theorem Inv.bs(I:Inv X pins σ H s):∀b o,X.base.get? b=some o->s.heap.get? b=some o/\H b=none:=λb o e=>
 ⟨I.base.keep b o (I.ok.bs b o e).1 (I.ok.bs b o e).2 (I.ok.nofr e) (I.ok.noex b o e),I.base.free b o (I.ok.bs b o e).1 (I.ok.bs b o e).2 (I.ok.noex b o e)⟩
def Inv.bk(I:Inv X pins σ H s):∀b o,X.base.get? b=some o->s.heap.get? b=some o:=λb o e=>(I.bs b o e).1
theorem Inv.mod(I:Inv X pins σ H s):Mod X.K X.mg X.base:=I.ok.mod
def Inv.kIn(I:Inv X pins σ H s):X.K.In s.heap:=I.ok.mod.kin.keeps I.bk
theorem Inv.lt(I:Inv X pins σ H s):X.env.locals<s.heap.objs.size:=let⟨_,hn,_⟩:=I.loc;hn.lt
def Inv.sz(I:Inv X pins σ H s):X.s₀.heap.objs.size<=s.heap.objs.size:=zzK I.ok.above (Zc I.lt)
def Inv.nofs(I:Inv X pins σ H s){a:Addr}(h:s.heap.objs.size<=a):a∉X.fs:=λq=>by
 obtain⟨_,o,z,_⟩:=I.ok.funs.mem q;exact absurd (zzC (zzn z) (zzK I.sz h)) (yyn _)
def Inv.cne(I:Inv X pins σ H s):∀x c,X.env.cells.lookup x=some c->c≠X.env.locals:=λx c e z=>by
 obtain⟨v,o,ho,hd⟩:=I.cell x c e;obtain⟨m,⟨o',es,ep,aa,q,_⟩,_⟩:=I.loc;rw[z,aa]at ho;cases ho;rw[q]at hd;cases hd
theorem Inv.funs(I:Inv X pins σ H s):s.heap.FunFrames X.base X.outer:=by
 have aa:∀(l:List Env),(∀b∈frs l,b∈X.fs)->X.s₀.heap.FunFrames X.base l->s.heap.FunFrames X.base l:=by
  intro l
  induction l with
  |nil=>intro _ _;trivial
  |cons env r ih=>
   intro hs hl;obtain⟨hk,⟨L,o,q,hn,ho,hd⟩,hr⟩:=hl;have hL:L∈X.fs:=hs L (by unfold frs;rw[ZJ,q];exact zze);obtain⟨sl,e⟩:=I.base.slot L o ho (I.ok.frf L hL) hL λz=>I.ok.exfs L z hL;exact⟨hk,⟨L,_,q,hn,e,hd⟩,ih (λb hb=>hs b (by unfold frs;rw[ZJ,q];exact zzh _ hb)) hr⟩
 exact aa X.outer (λ_ hb=>hb) I.ok.funs
theorem Inv.stack(I:Inv X pins σ H s):s.heap.FunFrames X.base X.stack:=by
 rcases I.ok.stk with e|⟨e,q⟩
 ·rw[e];exact I.funs
 ·rw[e]
  obtain⟨m,hn,_⟩:=I.loc;refine .cons (by rw[I.ok.kind];decide) q hn ?_ I.funs;exact Heap.get?_none_of_le (zzK I.ok.bsz I.ok.above)
def Inv.stkSub(I:Inv X pins σ H s):∀b∈frs X.stack,b∈X.env.locals::X.fs:=λb q=>by
 rcases I.ok.stk with e|⟨e,z⟩
 ·rw[e]at q;exact zzh _ q
 ·rw[e]at q
  unfold frs at q;rw[ZJ,z]at q;exact q
def Inv.stkFree(I:Inv X pins σ H s):∀b∈frs X.stack,H b=none:=λb q=>by
 rcases zzb.mp (I.stkSub b q)with e|q
 ·rw[e];exact I.free
 ·obtain⟨_,o,ho,_⟩:=I.ok.funs.mem q
  exact I.base.free b o ho (I.ok.frf b q) λz=>I.ok.exfs b z q
def Inv.step{g':Array GenState}{t':Nat}{d':Drawn}{ch:List Addr}(I:Inv X pins σ H s)
  (ac:∀b∈ch,(b∈X.ex\/X.s₀.heap.objs.size<=b)/\b≠X.env.locals/\(∀x c,X.env.cells.lookup x=some c->c≠b)/\∀p∈X.pn++pins,p.1≠b)
  (keep:∀b o,b≠X.env.locals->b∉X.fs->b∉ch->s.heap.get? b=some o->H b=none->h'.get? b=some o)
  (slot:∀b o,b≠X.env.locals->b∈X.fs->b∉ch->s.heap.get? b=some o->H b=none->∃sl,h'.get? b=some {o with slots:=sl}) (free:∀b o,b∉ch->s.heap.get? b=some o->H b=none->H' b=none)
  (there:∀b o,b∉ch->s.heap.get? b=some o->∃o',h'.get? b=some o')
  (tups:∀b xs,H b=some (.tup xs)->H' b=some (.tup xs)) (frzs:∀b o u,H b=some (.frz o u)->H' b=some (.frz o u)) (tbls:∀b ps,H b=some (.tbl ps)->∃more,H' b=some (.tbl (ps++more)))
  (ns:∀m,s.heap.Ns X.env.locals m->h'.Ns X.env.locals m) (hok:HOk X.prog X.w H' h') (hg:AllBare g'):
  Inv X pins σ H' {s with heap:=h',gens:=g',drawn:=d',toks:=t'}:=by
 have ae:∀b o,X.s₀.heap.get? b=some o->b≠X.env.locals:=λb o e=>zzv (zzC (zzn e) I.ok.above)
 have ad:∀b o,X.s₀.heap.get? b=some o->b∉X.ex->b∉ch:=λb o e hx hb=>by
  rcases(ac b hb).1 with z|z
  ·exact hx z
  ·exact absurd (zzC (zzn e) z) (yyn _)
 have aa:∀x c,X.env.cells.lookup x=some c->∀v,s.heap.IsCell c v->h'.IsCell c v:=λx c e v ⟨o,ho,hd⟩=>by
  have ab:c∉ch:=λz=>(ac c z).2.2.1 x c e rfl;by_cases hc:c∈X.fs
  ·obtain⟨sl,q⟩:=slot c o (I.cne x c e) hc ab ho (I.freeC x c e)
   exact⟨_,q,hd⟩
  ·exact⟨o,keep c o (I.cne x c e) hc ab ho (I.freeC x c e),hd⟩
 refine⟨I.ok,I.os,hg,⟨λb o e n hb hx=>?_,λb o e n hb hx=>?_,λb o e n hx=>?_,λb o e hx=>?_,λb xs e=>tups b xs (I.base.tups b xs e),λb o xs e=>frzs b o xs (I.base.frzs b o xs e),λb ps e=>?_⟩,?_,λx c e=>?_,?_,λx c e=>?_,λp hp=>?_,hok,I.len⟩
 ·exact keep b o (ae b o e) hb (ad b o e hx) (I.base.keep b o e n hb hx) (I.base.free b o e n hx)
 ·obtain⟨sl,e1⟩:=I.base.slot b o e n hb hx
  obtain⟨af,e2⟩:=slot b _ (ae b o e) hb (ad b o e hx) e1 (I.base.free b o e n hx);exact⟨af,e2⟩
 ·obtain⟨o',e1⟩:=I.base.there b o e hx
  exact free b o' (ad b o e hx) e1 (I.base.free b o e n hx)
 ·obtain⟨o',e1⟩:=I.base.there b o e hx
  exact there b o' (ad b o e hx) e1
 ·obtain⟨m1,e1⟩:=I.base.tbls b ps e
  obtain⟨m2,e2⟩:=tbls b _ e1;exact⟨m1++m2,by rw[e2,Array.append_assoc]⟩
 ·obtain⟨m,hn,hl⟩:=I.loc
  refine⟨m,ns m hn,λi x v e1 e2 e3=>?_⟩;obtain⟨u,r,l⟩:=hl i x v e1 e2 e3;refine⟨u,r,?_⟩;rcases l with l|⟨k,c,e,z⟩
  ·exact .inl l
  ·exact .inr ⟨k,c,e,aa x c e _ z⟩
 ·obtain⟨v,z⟩:=I.cell x c e
  exact⟨v,aa x c e v z⟩
 ·obtain⟨m,⟨o,_,_,ho,_⟩,_⟩:=I.loc
  exact free _ o (λz=>(ac _ z).2.1 rfl) ho I.free
 ·obtain⟨v,o,ho,hd⟩:=I.cell x c e
  exact free c o (λz=>(ac c z).2.2.1 x c e rfl) ho (I.freeC x c e)
 ·obtain⟨e,n,ne,nf,d⟩:=I.pin p hp
  have ab:p.1∉ch:=λz=>(ac p.1 z).2.2.2 p hp rfl;exact⟨keep p.1 p.2 ne nf ab e n,free p.1 p.2 ab e n,ne,nf,d⟩
def Inv.un{t':Nat}(I:Inv X pins σ H s)(u:Un X.fs [] H H' s.heap h')(hok:HOk X.prog X.w H' h'):Inv X pins σ H' {s with heap:=h',toks:=t'}:=by
 obtain⟨m,⟨o,es,ep,ho,r⟩,_⟩:=id I.loc;obtain⟨sl,hL⟩:=u.any ho I.free (by simp)
 exact I.step (g':=s.gens) (d':=s.drawn) (ch:=[]) (λ_ z=>nomatch z) (λb o _ hb _ e n=>u.keep b o e n hb (by simp)) (λb o _ hb _ e n=>u.slot b o e n hb (by simp)) (λb o _ e n=>u.free b o e n (by simp)) (λb o _ e=>u.there b o e (by simp)) u.tups u.frzs u.tbls (λm' hm=>by
  obtain⟨o',aa,ab,q,r'⟩:=hm;rw[ho]at q;cases q;exact⟨_,aa,ab,hL,r'⟩) hok I.bare
def Inv.call{g':Array GenState}{t':Nat}{d':Drawn}{ch:List Addr}(I:Inv X pins σ H s)(u:Un (frs X.stack) ch H H' s.heap h')(hok:HOk X.prog X.w H' h')(hg:AllBare g')
  (ab:∀b∈ch,(b∈X.ex\/X.s₀.heap.objs.size<=b)/\b≠X.env.locals/\(∀x c,X.env.cells.lookup x=some c->c≠b)/\∀p∈X.pn++pins,p.1≠b):
  Inv X pins σ H' {s with heap:=h',gens:=g',drawn:=d',toks:=t'}:=by
 obtain⟨m,⟨o,es,ep,ho,r⟩,_⟩:=id I.loc;obtain⟨sl,hL⟩:=u.any ho I.free λz=>(ab _ z).2.1 rfl
 exact I.step (ch:=ch) ab (λb o hL hb q e n=>u.keep b o e n (λz=>(zzb.mp (I.stkSub b z)).elim hL hb) q) (λb o _ _ q e n=>u.any e n q) (λb o q e n=>u.free b o e n q) (λb o q e=>u.there b o e q) u.tups u.frzs u.tbls (λm' hm=>by
  obtain⟨o',ac,ad,aa,r'⟩:=hm;rw[ho]at aa;cases aa;exact⟨_,ac,ad,hL,r'⟩) hok hg
def Inv.turned{t':Nat}{it:Addr}(I:Inv X pins σ H s)(k:∀b o,b≠it->s.heap.get? b=some o->h'.get? b=some o)(hn:H it=none)(hL:it≠X.env.locals)
  (h1:it∈X.ex\/X.s₀.heap.objs.size<=it) (h2:∀x c,X.env.cells.lookup x=some c->c≠it) (h3:∀p∈X.pn++pins,p.1≠it):Inv X pins σ H {s with heap:=h',toks:=t'}:=by
 have aa:∀b u,H b=some u->b≠it:=λb u e z=>by rw[z,hn]at e;cases e
 refine I.step (g':=s.gens) (d':=s.drawn) (ch:=[it]) (λb hb=>?_) (λb o _ _ hc e _=>k b o (λz=>hc (by simp[z])) e) (λb o _ _ hc e _=>⟨o.slots,k b o (λz=>hc (by simp[z])) e⟩) (λ_ _ _ _ n=>n)
  (λb o hc e=>⟨o,k b o (λz=>hc (by simp[z])) e⟩) (λ_ _ e=>e) (λ_ _ _ e=>e) (λb ps e=>⟨#[],by rw[e];simp⟩) (λm hm=>?_) (λb u e=>?_) I.bare
 ·have e:b=it:=by simpa using hb
  subst e;exact⟨h1,hL,h2,h3⟩
 ·obtain⟨o,es,ep,ho,r⟩:=hm
  exact⟨o,es,ep,k _ o (Ne.symm hL) ho,r⟩
 ·refine(I.hok b u e).stay (λc v hc q=>k c v ?_ q) (λ_ q=>q) λ_ _ q=>q
  rcases hc with z|z
  ·rw[z];exact aa b u e
  ·exact aa c _ z
def Inv.tok(I:Inv X pins σ H s)(t:Nat):Inv X pins σ H {s with toks:=t}:=I.un (h':=s.heap) (t':=t) Un.refl I.hok
theorem Inv.kept{t':Nat}(I:Inv X pins σ H s)(k:∀b u,s.heap.get? b=some u->h'.get? b=some u):Inv X pins σ H {s with heap:=h',toks:=t'}:=I.un (Un.kept k) (I.hok.kept k)
theorem Inv.laid{a:Addr}{o:HO}{t':Nat}(I:Inv X pins σ H s)(k:∀b u,s.heap.get? b=some u->h'.get? b=some u)(z:s.heap.objs.size<=a)(q:iJ X.prog X.w (upd H a o) h' a o):
  Inv X pins σ (upd H a o) {s with heap:=h',toks:=t'}:=I.un (Un.laid k z (I.hok.fresh z)) (I.hok.laid k z q)
theorem Inv.write{x e:Addr}{o:HO}{t':Nat}(I:Inv X pins σ H s)(mu:Mut (H x))(he:e=x\/H e=some (.own x))(k:∀b u,b≠e->s.heap.get? b=some u->h'.get? b=some u)(q:∃u,h'.get? e=some u)
  (z:iJ X.prog X.w (upd H x o) h' x o):Inv X pins σ (upd H x o) {s with heap:=h',toks:=t'}:=I.un (Un.write mu he k q) (I.hok.write mu he k q z)
def Inv.pins_of{q:List (Addr×Obj)}(I:Inv X pins σ H s)(h:∀p∈q,s.heap.get? p.1=some p.2/\H p.1=none/\p.1≠X.env.locals/\p.1∉X.fs/\∀v,p.2.data≠.cell v):Inv X q σ H s:=
 ⟨I.ok,I.os,I.bare,I.base,I.loc,I.cell,I.free,I.freeC,λp hp=>(zzs.mp hp).elim (λz=>I.pin p (zz6 _ z)) (h p),I.hok,I.len⟩
def QH{N:List Str}(hN:N.Nodup){i j:Nat}{x:Str}(a:N[i]? =some x)(b:N[j]? =some x):i=j:=by
 obtain⟨h1,q⟩:=zzm.mp a;obtain⟨h2,z⟩:=zzm.mp b;exact(List.getElem_inj hN).mp (q.trans z.symm)
def Nu{M:Model}{A:Around}{E:Value->Shared->Prop}{i:Nat}{x:Str}{v:V}{u:Value}{Q:Unit->Shared->Prop}(I:Inv X pins σ H s)(hN:X.N.Nodup)(hi:X.N[i]? =some x)(hx:Loc X.env.scope x)(r:RelV v u)
  (h:∀s',Inv X pins (σ.set i (some v)) H s'->(∃a,Heap.SameBut a s.heap s'.heap/\(a=X.env.locals\/X.env.cells.lookup x=some a))->Q () s') (hf:X.fn x=true\/X.env.scope.names.lookup x=some .local:=by walk_at "p"):wpAny M A (storeName X.env x u) Q E s:=by
 obtain⟨m,hn,hl⟩:=id I.loc;have aj:(X.env.scope.kind==.class||(X.env.scope.kind==.module && X.env.locals !=X.env.globals))=false:=by rw[I.ok.kind];rfl
 have ai:i<σ.length:=by rw[I.len];exact(zzm.mp hi).1
 have ad:=I.cne
 have aa:∀{a:Addr}{h':Heap},(∃o,s.heap.get? a=some o/\H a=none)->Heap.SameBut a s.heap h'->HOk X.prog X.w H h':=fun{a h'} ha hs b ob e=>by
  obtain⟨_,_,ab⟩:=ha;refine(I.hok b ob e).stay (λc w' hc q=>(hs.2 c ?_).trans q) (λ_ q=>q) λ_ _ q=>q;rintro rfl;rcases hc with rfl|hc
  ·rw[ab]at e;cases e
  ·rw[ab]at hc;cases hc
 rcases hx with hk|hk
 ·refine wpAny_storeName_local hk hn (λh' al hs=>?_) aj
  obtain⟨oL,_,_,ak,_⟩:=id hn;refine h _ ⟨I.ok,I.os,I.bare,⟨λb o e n hb hx=>?_,λb o e n hb hx=>?_,I.base.free,λb o e hx=>?_,I.base.tups,I.base.frzs,I.base.tbls⟩,⟨_,al,λj y v' e1 e2 e3=>?_⟩,λy c e=>?_,I.free,I.freeC,λp hp=>?_,aa ⟨oL,ak,I.free⟩ hs,by simpa using I.len⟩ ⟨_,hs,.inl rfl⟩
  ·exact(hs.2 b (zzv (zzC (zzn e) I.ok.above))).trans (I.base.keep b o e n hb hx)
  ·obtain⟨sl,e1⟩:=I.base.slot b o e n hb hx
   exact⟨sl,(hs.2 b (zzv (zzC (zzn e) I.ok.above))).trans e1⟩
  ·obtain⟨o',e1⟩:=I.base.there b o e hx
   exact⟨o',(hs.2 b (zzv (zzC (zzn e) I.ok.above))).trans e1⟩
  ·by_cases hj:j=i
   ·subst hj
    rw[hi]at e1;cases e1;rw[Zp ai]at e2;cases e2;exact⟨u,r,.inl ⟨hk,by simp⟩⟩
   ·rw[ZC (Ne.symm hj)]at e2
    obtain⟨u',r',q⟩:=hl j y v' e1 e2 e3;refine⟨u',r',?_⟩;rcases q with⟨k,e⟩|⟨k,c,e,z⟩
    ·refine .inl ⟨k,?_⟩
     have:y≠x:=λe=>hj (QH hN e1 (e▸hi));simp[this,e]
    ·exact .inr ⟨k,c,e,z.sameBut hs (ad y c e)⟩
  ·obtain⟨w',z⟩:=I.cell y c e
   exact⟨w',z.sameBut hs (ad y c e)⟩
  ·obtain⟨e,n,ne,nf,d⟩:=I.pin p hp
   exact⟨(hs.2 p.1 ne).trans e,n,ne,nf,d⟩
 ·have ac:X.fn x=true:=by
   rcases hf with z|z
   ·exact z
   ·rw[z]at hk;cases hk
  obtain⟨c,hc⟩:=I.ok.has x (.inl hk);obtain⟨w',z⟩:=I.cell x c hc;refine wpAny_storeName_cell I.ok.kind hk hc z (λh' ag hs=>?_);obtain⟨oc,af,ah⟩:=id z;refine h {s with heap:=h'} ⟨I.ok,I.os,I.bare,⟨λb o e n hb hx=>?_,λb o e n hb hx=>?_,I.base.free,λb o e hx=>?_,I.base.tups,I.base.frzs,I.base.tbls⟩,⟨m,hn.sameBut hs (Ne.symm (ad x c hc)),λj y v' e1 e2 e3=>?_⟩,λy c' e=>?_,I.free,I.freeC,λp hp=>?_,aa ⟨oc,af,I.freeC x c hc⟩ hs,by simpa using I.len⟩ ⟨c,hs,.inr hc⟩
  ·exact(hs.2 b (zzv (zzC (zzn e) (I.ok.cab x c ac hc)))).trans (I.base.keep b o e n hb hx)
  ·obtain⟨sl,e1⟩:=I.base.slot b o e n hb hx
   exact⟨sl,(hs.2 b (zzv (zzC (zzn e) (I.ok.cab x c ac hc)))).trans e1⟩
  ·obtain⟨o',e1⟩:=I.base.there b o e hx
   exact⟨o',(hs.2 b (zzv (zzC (zzn e) (I.ok.cab x c ac hc)))).trans e1⟩
  ·by_cases hj:j=i
   ·subst hj
    rw[hi]at e1;cases e1;rw[Zp ai]at e2;cases e2;exact⟨u,r,.inr ⟨.inl hk,c,hc,ag⟩⟩
   ·rw[ZC (Ne.symm hj)]at e2
    obtain⟨u',r',q⟩:=hl j y v' e1 e2 e3;refine⟨u',r',?_⟩;rcases q with q|⟨k,c',e,z'⟩
    ·exact .inl q
    ·refine .inr ⟨k,c',e,z'.sameBut hs ?_⟩
     rintro rfl;exact hj (QH hN e1 (I.ok.inj _ _ _ e hc▸hi))
  ·by_cases ae:c'=c
   ·subst ae;exact⟨_,ag⟩
   ·obtain⟨w2,z2⟩:=I.cell y c' e
    exact⟨w2,z2.sameBut hs ae⟩
  ·obtain⟨e,n,ne,nf,d⟩:=I.pin p hp
   refine⟨(hs.2 p.1 ?_).trans e,n,ne,nf,d⟩;intro q;rw[q,af]at e;have q':oc=p.2:=zzq e;exact d w' (by rw[<-q'];exact ah)
def Rb{M:Model}{A:Around}{E:Value->Shared->Prop}{i:Nat}{x:Str}{v:V}{u:Value}{Q:Unit->Shared->Prop}(I:Inv X pins σ H s)(hN:X.N.Nodup)(hi:X.N[i]? =some x)(q:Loc X.env.scope x)(r:RelV v u)
  (h:∀s',Inv X pins (σ.set i (some v)) H s'->Q () s') (z:X.fn x=true\/X.env.scope.names.lookup x=some .local:=by walk_at "p"):wpAny M A (storeName X.env x u) Q E s:=
 Nu I hN hi q r (λs' I' _=>h s' I') z
def Inv.call'{s':Shared}{ch:List Addr}(I:Inv X pins σ H s)(ho:s'.os=s.os)(u:Un (frs X.stack) ch H H' s.heap s'.heap)(hok:HOk X.prog X.w H' s'.heap)(z:AllBare s'.gens)
  (q:∀b∈ch,(b∈X.ex\/X.s₀.heap.objs.size<=b)/\b≠X.env.locals/\(∀x c,X.env.cells.lookup x=some c->c≠b)/\∀p∈X.pn++pins,p.1≠b):Inv X pins σ H' s':=by
 obtain⟨h',g',d',t',o'⟩:=s';have e:o'=s.os:=ho;subst e;exact I.call (g':=g') (t':=t') (d':=d') u hok z q
end
abbrev XK:=Value->Option Addr->Hp->Prop
abbrev St:=List (Option V)
abbrev VK:=V->Hp->Prop
abbrev TE:=St->Hp->VK->Prop
abbrev TT:=St->Hp->(Bool->Hp->Prop)->Prop
abbrev TA:=St->Hp->(List V->Hp->Prop)->Prop
structure Ends where
 nx:St->Hp->Prop
 rt:VK
 bk:St->Hp->Prop:=λ_ _=>False
 ct:St->Hp->Prop:=λ_ _=>False
abbrev TS:=Ends->St->Hp->Prop
noncomputable def EP(X:Cx)(pins:List (Addr×Obj))(σ:St)(Q:VK)(u:Value)(s':Shared):Prop:=∃v H',Inv X pins σ H' s'/\RelV v u/\Q v H'
noncomputable def TP(X:Cx)(pins:List (Addr×Obj))(σ:St)(Q:Bool->Hp->Prop)(b:Bool)(s':Shared):Prop:=∃H',Inv X pins σ H' s'/\Q b H'
noncomputable def AP(X:Cx)(pins:List (Addr×Obj))(σ:St)(Q:List V->Hp->Prop)(us:List Value)(s':Shared):Prop:=∃vs H',Inv X pins σ H' s'/\Vals vs us/\Q vs H'
noncomputable def SP(X:Cx)(pins:List (Addr×Obj))(D:Ends)(f:Flow)(s':Shared):Prop:=
 match f with
 |.next=>∃σ' H',Inv X pins σ' H' s'/\D.nx σ' H'
 |.brk=>∃σ' H',Inv X pins σ' H' s'/\D.bk σ' H'
 |.cont=>∃σ' H',Inv X pins σ' H' s'/\D.ct σ' H'
 |.ret u=>∃v σ' H',Inv X pins σ' H' s'/\RelV v u/\D.rt v H'
noncomputable def PE(X:Cx)(e:Expr)(t:TE):Prop:=
 ∀(pins:List (Addr×Obj))(s:Shared)(σ:St)(H:Hp)(Q:VK),Inv X pins σ H s->t σ H Q->wpAny (model X.prog X.w) X.A (eval e X.env) (EP X pins σ Q) X.xe s
noncomputable def PT(X:Cx)(e:Expr)(t:TT):Prop:=
 ∀(pins:List (Addr×Obj))(s:Shared)(σ:St)(H:Hp)(Q:Bool->Hp->Prop),Inv X pins σ H s->t σ H Q->wpAny (model X.prog X.w) X.A (isTrue e X.env (eval e X.env)) (TP X pins σ Q) X.xe s
noncomputable def PW(X:Cx)(e:Expr)(t:TT):Prop:=
 ∀(whole:Sem Value)(pins:List (Addr×Obj))(s:Shared)(σ:St)(H:Hp)(Q:Bool->Hp->Prop),Inv X pins σ H s->t σ H Q->wpAny (model X.prog X.w) X.A (isTrue e X.env whole) (TP X pins σ Q) X.xe s
def PW.pt{X:Cx}{e:Expr}{t:TT}(h:PW X e t):PT X e t:=h _
noncomputable def PA(X:Cx)(es:List Expr)(t:TA):Prop:=
 ∀(pos:Pos)(pins:List (Addr×Obj))(s:Shared)(σ:St)(H:Hp)(Q:List V->Hp->Prop),Inv X pins σ H s->t σ H Q->wpAny (model X.prog X.w) X.A (spliced (backTo pos (starEach es X.env))) (AP X pins σ Q) X.xe s
noncomputable def PS(X:Cx)(st:Stmt)(t:TS):Prop:=
 ∀(pins:List (Addr×Obj))(s:Shared)(σ:St)(H:Hp)(D:Ends),Inv X pins σ H s->t D σ H->wpAny (model X.prog X.w) X.A (exec st X.env) (SP X pins D) X.xe s
noncomputable def PSs(X:Cx)(st:List Stmt)(t:TS):Prop:=
 ∀(pins:List (Addr×Obj))(s:Shared)(σ:St)(H:Hp)(D:Ends),Inv X pins σ H s->t D σ H->wpAny (model X.prog X.w) X.A (execs st X.env) (SP X pins D) X.xe s
def thn{α:Type}{t:Sem α}{Q Q':α->Shared->Prop}{M:Model}{A:Around}{E:Value->Shared->Prop}{s:Shared}(h:wpAny M A t Q E s)(q:∀a s,Q a s->Q' a s):wpAny M A t Q' E s:=yyg h q λ_ _ x=>x
end L2
namespace L2
open PySem PySem.Spec PyProof.Rows
section
variable{X:Cx}
noncomputable def Ly(i:Nat):TE:=λσ H Q=>∃v,σ[i]? =some (some v)/\Q v H
noncomputable def tC(v:V):TE:=λ_ H Q=>Q v H
def afo{i:Nat}{x:Str}{pos:Pos}(hN:X.N[i]? =some x)(hv:Vis X.env.scope x)(hd:(x==("__debug__" :Str))=false:=by decide) (hcd:(x==("__classdict__" :Str))=false:=by decide):PE X (.Name x pos) (Ly i):=by
 intro pins s σ H Q I h;obtain⟨v,e,h⟩:=h;obtain⟨m,hn,hl⟩:=I.loc;obtain⟨u,r,l⟩:=hl i x v hN e hv;have z:EP X pins σ Q u s:=⟨v,H,I,r,h⟩;rcases l with⟨hk,hm⟩|⟨hk,c,hc,q⟩
 ·exact wpAny_Name (wpAny_loadName_local I.ok.kind hk hn hm z) hd
 ·rcases hk with hk|hk
  ·exact wpAny_Name (wpAny_loadName_cell I.ok.kind hk hc q z) hd
  ·exact wpAny_Name (wpAny_loadName_free I.ok.kind hk hc q z hcd) hd
def fB{i j pos}:PE X (.Constant (.int i) j pos) (tC (.int i)):=λ_ _ _ H _ I h=>wpAny_Constant_int ⟨.int i,H,I.tok _,⟨_,rfl⟩,h⟩
def Kg{b j pos}:PE X (.Constant (.bool b) j pos) (tC (.bl b)):=λ_ _ _ H _ I h=>Constant_bool ⟨.bl b,H,I,rfl,h⟩
def jx{j pos}:PE X (.Constant .none j pos) (tC .non):=λ_ _ _ H _ I h=>Constant_none ⟨.non,H,I,rfl,h⟩
def gP{x j pos}:PE X (.Constant (.str x) j pos) (tC (.str x)):=λ_ _ _ H _ I h=>Calls.Constant_str ⟨.str x,H,I.tok _,⟨_,rfl⟩,h⟩
noncomputable def Gl(X:Cx)(x:Str):Prop:=X.env.kindOf x=some .globalImplicit
def Ej{E:Value->Shared->Prop}{pins:List (Addr×Obj)}{s:Shared}{σ:St}{H:Hp}{x:Str}{u:Value}{pos:Pos}{Q:Value->Shared->Prop}(I:Inv X pins σ H s)(q:Gl X x)(hm:X.mg x=some u)(h:Q u s)
  (hd:(x==("__debug__" :Str))=false:=by decide):wpAny (model X.prog X.w) X.A (eval (.Name x pos) X.env) Q E s:=
 Calls.Name_function_global I.ok.kind q (Calls.loadGlobal_global (by rw[I.ok.glob];exact I.mod.glob.keeps I.bk) hm h) hd
def oX{E:Value->Shared->Prop}{pins:List (Addr×Obj)}{s:Shared}{σ:St}{H:Hp}{x:Str}{u:Value}{pos:Pos}{Q:Value->Shared->Prop}(I:Inv X pins σ H s)(z:Gl X x)(hm:X.mg x=none)(q:bootBuiltins x=some u)(h:Q u s)
  (hn:x≠ "__name__" :=by decide) (hd:(x==("__debug__" :Str))=false:=by decide):wpAny (model X.prog X.w) X.A (eval (.Name x pos) X.env) Q E s:=by
 obtain⟨mb,h1,h2⟩:=I.mod.blt;exact Calls.Name_function_global I.ok.kind z (Calls.loadGlobal_builtin (by rw[I.ok.glob];exact I.mod.glob.keeps I.bk) hm (by rw[I.ok.blt];exact h1.keeps I.bk) ((h2 x hn).trans q) h) hd
def jB{x:Str}{v:V}{u:Value}{pos:Pos}(q:Gl X x)(hm:X.mg x=some u)(r:RelV v u)(hd:(x==("__debug__" :Str))=false:=by decide):PE X (.Name x pos) (tC v):=
 λ_ _ _ H _ I h=>Ej I q hm ⟨v,H,I,r,h⟩ hd
def ado{x:Str}{v:V}{u:Value}{pos:Pos}(z:Gl X x)(hm:X.mg x=none)(q:bootBuiltins x=some u)(r:RelV v u)(hn:x≠ "__name__" :=by decide) (hd:(x==("__debug__" :Str))=false:=by decide):PE X (.Name x pos) (tC v):=
 λ_ _ _ H _ I h=>oX I z hm q ⟨v,H,I,r,h⟩ hn hd
variable{a b:Expr}{ta tb:TE}{pos:Pos}
noncomputable def tB(t:TE):TT:=λσ H Q=>t σ H λx H1=>∃c,x=.bl c/\Q c H1
def lU{e:Expr}{t:TE}(h:PE X e t)(he:∀z,isTrue e X.env z=(do let v<-z;standAt e.pos;holding [v] (truthy v)):=by intro _;rfl):PT X e (tB t):=by
 intro pins s σ H Q I hw;refine isTrue_plain (thn (h pins s σ H _ I hw) λv s1 ⟨x,H1,I1,r1,q1⟩=>?_) (he _);obtain⟨d,rfl,q⟩:=q1;cases r1;exact yyl ⟨H1,I1,q⟩
variable{tA tB':TT}{rest:List Expr}
noncomputable def agg(t u:TT):TT:=λσ H Q=>t σ H λc H1=>if c=true then u σ H1 Q else Q false H1
noncomputable def tOr(t u:TT):TT:=λσ H Q=>t σ H λc H1=>if c=true then Q true H1 else u σ H1 Q
noncomputable def agA(t:TT):TT:=λσ H Q=>t σ H λc H1=>Q (!c) H1
def DG(ha:PT X a tA):PW X (.BoolOp .And [a] pos) tA:=by
 intro q pins s σ H Q I h;refine isTrue_and (thn (ha pins s σ H Q I h) λc z e=>?_)
 cases c with
 |true=>exact isTrue_and_nil e
 |false=>exact e
def MP(ha:PT X a tA):PW X (.BoolOp .Or [a] pos) tA:=by
 intro q pins s σ H Q I h;refine isTrue_or (thn (ha pins s σ H Q I h) λc z e=>?_)
 cases c with
 |false=>exact isTrue_or_nil e
 |true=>exact e
def Lx(ha:PT X a tA)(hb:PW X (.BoolOp .And (b::rest) pos) tB'):PW X (.BoolOp .And (a::b::rest) pos) (agg tA tB'):=by
 intro wh pins s σ H Q I h;refine isTrue_and (thn (ha pins s σ H _ I h) λc s1 ⟨H1,z,q⟩=>?_)
 cases c with
 |true=>exact hb wh pins s1 σ H1 Q z q
 |false=>exact⟨H1,z,q⟩
def Kv(ha:PT X a tA)(hb:PW X (.BoolOp .Or (b::rest) pos) tB'):PW X (.BoolOp .Or (a::b::rest) pos) (tOr tA tB'):=by
 intro wh pins s σ H Q I h;refine isTrue_or (thn (ha pins s σ H _ I h) λc s1 ⟨H1,z,q⟩=>?_)
 cases c with
 |true=>exact⟨H1,z,q⟩
 |false=>exact hb wh pins s1 σ H1 Q z q
def Mw(ha:PT X a tA):PT X (.UnaryOp .Not a pos) (agA tA):=by
 intro pins s σ H Q I h;exact isTrue_not (ha pins s σ H (λc H1=>Q (!c) H1) I h)
noncomputable def aeX(ta tb:TE):TE:=λσ H Q=>ta σ H λx H1=>∃c,x=.bl c/\if c=true then tb σ H1 Q else Q (.bl false) H1
noncomputable def afp(ta:TE):TE:=λσ H Q=>ta σ H λx H1=>∃c,x=.bl c/\Q (.bl (!c)) H1
def abS{op}{t:TE}(h:PE X a t):PE X (.BoolOp op [a] pos) t:=λpins s σ H Q I q=>BoolOp_one (h pins s σ H Q I q)
def abL(ha:PE X a ta)(hb:PE X (.BoolOp .And (b::rest) pos) tb):PE X (.BoolOp .And (a::b::rest) pos) (aeX ta tb):=by
 intro pins s σ H Q I h;refine BoolOp_and (thn (ha pins s σ H _ I h) λv s1 ⟨x,H1,z,r1,q⟩=>?_);obtain⟨c,rfl,q⟩:=q;cases r1;refine yyl ?_
 cases c with
 |true=>exact hb pins s1 σ H1 Q z q
 |false=>exact⟨.bl false,H1,z,rfl,q⟩
def abR(ha:PE X a ta):PE X (.UnaryOp .Not a pos) (afp ta):=by
 intro pins s σ H Q I h;refine UnaryOp_ (thn (ha pins s σ H _ I h) λv s1 ⟨x,H1,z,r1,q⟩=>?_);obtain⟨c,rfl,q⟩:=q;cases r1;exact not_of (yyl ⟨.bl (!c),H1,z,rfl,q⟩)
noncomputable def tIf(t:TT)(ta tb:TE):TE:=λσ H Q=>t σ H λc H1=>if c=true then ta σ H1 Q else tb σ H1 Q
def sS{c:Expr}(hc:PT X c tA)(ha:PE X a ta)(hb:PE X b tb):PE X (.IfExp c a b pos) (tIf tA ta tb):=by
 intro pins s σ H Q I h;refine wpAny_IfExp (thn (hc pins s σ H _ I h) λd s1 ⟨H1,z,q⟩=>?_)
 cases d with
 |true=>exact ha pins s1 σ H1 Q z q
 |false=>exact hb pins s1 σ H1 Q z q
end
end L2
namespace L2
open PySem PySem.Spec PyProof.Rows
noncomputable def SqL(K:Fg_)(H:Hp)(a:Addr)(xs:List V):Prop:=
 Rd H a (.lst xs)\/
  ∃(o:Obj)(its:Array Value)(n:Nat),K.lookup a=some o/\o.cls=.type "list" /\o.dict=none/\o.data=.seq its n/\its.size<=sizeLine/\Vals xs its.toList
noncomputable def SqT(K:Fg_)(H:Hp)(a:Addr)(xs:List V):Prop:=
 Rd H a (.tup xs)\/
  ∃(o:Obj)(its:Array Value)(n:Nat),K.lookup a=some o/\o.cls=.type "tuple" /\o.data=.seq its n/\its.size<=sizeLine/\Vals xs its.toList
noncomputable def agF:Value->Option V
 |.none=>some .non
 |.bool b=>some (.bl b)
 |.int i _=>some (.int i)
 |.str x _=>some (.str x)
 |.bytes b _=>some (.byt b)
 |.float b _=>some (.flt b)
 |.ref a=>some (.ref a)
 |.type n=>some (.ty n)
 |_=>none
def RelV.abs{x:V}{u:Value}(r:RelV x u):agF u=some x:=by
 cases x with
 |non=>cases r;rfl
 |bl _=>cases r;rfl
 |int _=>obtain⟨t,rfl⟩:=r;rfl
 |str _=>obtain⟨t,rfl⟩:=r;rfl
 |byt _=>obtain⟨t,rfl⟩:=r;rfl
 |flt _=>obtain⟨t,rfl⟩:=r;rfl
 |ref _=>cases r;rfl
 |ty _=>cases r;rfl
def RelV.inj{x y:V}{u:Value}(r:RelV x u)(q:RelV y u):x=y:=zzq (r.abs.symm.trans q.abs)
theorem Vals.inj:∀{xs ys:List V}{us:List Value},Vals xs us->Vals ys us->xs=ys
 |_,_,_,.nil,.nil=>rfl
 |_,_,_,.cons r t,.cons r' t'=>by rw[r.inj r',Vals.inj t t']
section
variable{X:Cx}{pins:List (Addr×Obj)}{σ:St}{H:Hp}{s:Shared}{a:Addr}{xs ys:List V}
def fj{K:Fg_}(h:H a=some (.lst xs)):SqL K H a xs:=.inl (.inl h)
def gM{K:Fg_}(h:H a=some (.tup xs)):SqT K H a xs:=.inl (.inl h)
def Inv.list(I:Inv X pins σ H s)(h:SqL X.K H a xs):∃its:List Value,Vals xs its/\PlainL s.heap a its.toArray/\xs.length<=sizeLine:=by
 rcases h with h|⟨o,its,n,hk,hc,hd,q,hz,r⟩
 ·obtain⟨z,its,n,r,e⟩:=h.ok I.hok
  exact⟨its,r,⟨_,n,e,rfl,rfl,rfl⟩,z⟩
 ·refine⟨its.toList,r,⟨o,n,I.kIn a o hk,hc,hd,by simpa using q⟩,?_⟩
  have e:=r.length;simp only[zzz]at e;omega
def Inv.tuple(I:Inv X pins σ H s)(h:SqT X.K H a xs):∃its:List Value,Vals xs its/\IsTup s.heap a its.toArray/\xs.length<=sizeLine:=by
 rcases h with h|⟨o,its,n,hk,hc,q,hz,r⟩
 ·obtain⟨z,its,r,p⟩:=h.ok I.hok
  exact⟨its,r,p,z⟩
 ·refine⟨its.toList,r,⟨o,I.kIn a o hk,hc,n,by simpa using q⟩,?_⟩
  have e:=r.length;simp only[zzz]at e;omega
def Inv.list_inj(I:Inv X pins σ H s)(h:SqL X.K H a xs)(h':SqL X.K H a ys):xs=ys:=by
 obtain⟨its,r,⟨o,n,e,_,_,d⟩,_⟩:=I.list h;obtain⟨its',z,⟨o',n',q,_,_,d'⟩,_⟩:=I.list h';rw[e]at q;cases q;rw[d]at d';injection d' with d1 _
 have:its=its':=by simpa using congrArg Array.toList d1
 subst this;exact r.inj z
def Inv.tuple_inj(I:Inv X pins σ H s)(h:SqT X.K H a xs)(h':SqT X.K H a ys):xs=ys:=by
 obtain⟨its,r,⟨o,e,_,n,d⟩,_⟩:=I.tuple h;obtain⟨its',z,⟨o',q,_,n',d'⟩,_⟩:=I.tuple h';rw[e]at q;cases q;rw[d]at d';injection d' with d1 _
 have:its=its':=by simpa using congrArg Array.toList d1
 subst this;exact r.inj z
end
abbrev Cx.wish(X:Cx)(E:Value->Shared->Prop):Cx:={X with xe:=E}
abbrev Cx.nox(X:Cx):Cx:=X.wish λ_ _=>False
theorem Cx.Ok.wish{X:Cx}(ok:X.Ok)(E:Value->Shared->Prop):(X.wish E).Ok:=
 ⟨ok.mod,ok.kind,ok.glob,ok.blt,ok.above,ok.inj,ok.has,ok.cab,ok.hd,ok.frames,ok.stk,ok.exf,ok.bs,ok.bsz,ok.noex,ok.exfs,ok.funs,ok.frf⟩
def Cx.Ok.unwish{X:Cx}{E:Value->Shared->Prop}(ok:(X.wish E).Ok):X.Ok:=
 ⟨ok.mod,ok.kind,ok.glob,ok.blt,ok.above,ok.inj,ok.has,ok.cab,ok.hd,ok.frames,ok.stk,ok.exf,ok.bs,ok.bsz,ok.noex,ok.exfs,ok.funs,ok.frf⟩
section
variable{X:Cx}{pins:List (Addr×Obj)}{σ:St}{H:Hp}{s:Shared}{E:Value->Shared->Prop}
theorem Inv.wish(I:Inv X pins σ H s)(E:Value->Shared->Prop):Inv (X.wish E) pins σ H s:=⟨I.ok.wish E,I.os,I.bare,I.base,I.loc,I.cell,I.free,I.freeC,I.pin,I.hok,I.len⟩
theorem Inv.unwish(I:Inv (X.wish E) pins σ H s):Inv X pins σ H s:=⟨I.ok.unwish,I.os,I.bare,I.base,I.loc,I.cell,I.free,I.freeC,I.pin,I.hok,I.len⟩
theorem SP.unwish{D:Ends}{f:Flow}{s':Shared}(h:SP (X.wish E) pins D f s'):SP X pins D f s':=by
 cases f with
 |next=>obtain⟨z,H',I,q⟩:=h;exact⟨z,H',I.unwish,q⟩
 |brk=>obtain⟨z,H',I,q⟩:=h;exact⟨z,H',I.unwish,q⟩
 |cont=>obtain⟨z,H',I,q⟩:=h;exact⟨z,H',I.unwish,q⟩
 |ret u=>obtain⟨v,z,H',I,r,q⟩:=h;exact⟨v,z,H',I.unwish,r,q⟩
theorem PSs.nox{st:List Stmt}{t:TS}(h:PSs X.nox st t):PSs X st t:=λpins s σ H D I hw=>
 yyg (h pins s σ H D (I.wish _) hw) (λ_ _ q=>q.unwish) λ_ _ z=>False.elim z
end
section
variable{X:Cx}{st:Stmt}{rest:List Stmt}{t u:TS}{e:Expr}{te:TE}{pos:Pos}
noncomputable def aee:TS:=λD σ H=>D.nx σ H
noncomputable def aeN(t u:TS):TS:=λD σ H=>t {D with nx:=u D} σ H
def gn:PSs X [] aee:=λ_ _ σ H _ I h=>Zj ⟨σ,H,I,h⟩
def eU(h1:PS X st t)(h2:PSs X rest u):PSs X (st::rest) (aeN t u):=by
 intro pins s σ H D I h;refine wpAny_execs_cons (thn (h1 pins s σ H {D with nx:=u D} I h) λf z q=>?_)
 cases f with
 |next=>
  obtain⟨σ',H',I',q⟩:=q;exact h2 pins z σ' H' D I' q
 |ret v=>exact q
 |brk=>exact q
 |cont=>exact q
def eY(h1:PS X st t):PSs X [st] t:=by
 intro pins s σ H D I h;refine wpAny_execs_cons (thn (h1 pins s σ H D I h) λf z q=>?_)
 cases f with
 |next=>exact Zj q
 |ret v=>exact q
 |brk=>exact q
 |cont=>exact q
noncomputable def abr:TS:=λD σ H=>D.bk σ H
def Ym:PS X (.Break pos) abr:=λ_ _ σ H _ I h=>wpAny_Break ⟨σ,H,I,h⟩
def Inv.quiet{pins:List (Addr×Obj)}{σ:St}{H:Hp}{s:Shared}(I:Inv X pins σ H s):interactive X.env=false:=by simp[interactive,I.ok.kind]
noncomputable def aeb(te:TE):TS:=λD σ H=>te σ H λ_ H1=>D.nx σ H1
def gj(z:PE X e te)(hs:swapsWith e none pos.line X.env=pure false:=by rfl):PS X (.Expr e pos) (aeb te):=by
 intro pins s σ H D I h;exact wpAny_Expr_any (thn (z pins s σ H _ I h) λv s1 ⟨x,H1,I1,r1,q⟩=>⟨σ,H1,I1,q⟩) I.quiet hs
noncomputable def agf(te:TE):TS:=λD σ H=>te σ H D.rt
def fJ(he:PE X e te):PS X (.Return (some e) pos) (agf te):=by
 intro pins s σ H D I h;exact wpAny_Return_some (thn (he pins s σ H _ I h) λv s1 ⟨x,H1,I1,q,z⟩=>⟨x,σ,H1,I1,q,z⟩)
noncomputable def aek:TS:=λD _ H=>D.rt .non H
def acf:PS X (.Return none pos) aek:=λ_ _ σ H _ I h=>wpAny_Return_none ⟨.non,σ,H,I,rfl,h⟩
noncomputable def abB(c:TT)(t u:TS):TS:=λD σ H=>c σ H λb H1=>if b=true then t D σ H1 else u D σ H1
def iC{c:Expr}{a b:List Stmt}{tc:TT}(hc:PT X c tc)(ha:PSs X a t)(hb:PSs X b u):PS X (.If c a b pos) (abB tc t u):=by
 intro pins s σ H D I h;refine wpAny_If (thn (hc pins s σ H _ I h) λd s1 ⟨H1,z,q⟩=>?_)
 cases d with
 |true=>exact ha pins s1 σ H1 D z q
 |false=>exact hb pins s1 σ H1 D z q
noncomputable def aft:TS:=λ_ _ _=>False
def iB:PS X st aft:=λ_ _ _ _ _ _ h=>h.elim
end
abbrev TG:=V->St->Hp->(St->Hp->Prop)->Prop
abbrev TGs:=List V->St->Hp->(St->Hp->Prop)->Prop
noncomputable def PG(X:Cx)(target:Expr)(t:TG):Prop:=
 ∀(pins:List (Addr×Obj)) (s:Shared) (σ:St) (H:Hp) (v:V) (u:Value) (Q:St->Hp->Prop),Inv X pins σ H s->RelV v u->t v σ H Q->
  wpAny (model X.prog X.w) X.A (assign target X.env u) (λ_ s'=>∃σ' H',Inv X pins σ' H' s'/\Q σ' H') X.xe s
noncomputable def PGs(X:Cx)(ts:List Expr)(t:TGs):Prop:=
 ∀(pins:List (Addr×Obj)) (s:Shared) (σ:St) (H:Hp) (vs:List V) (us:List Value) (Q:St->Hp->Prop),Inv X pins σ H s->Vals vs us->t vs σ H Q->
  wpAny (model X.prog X.w) X.A (assignInOrder ((assignEach ts X.env).map (·.2)) us) (λ_ s'=>∃σ' H',Inv X pins σ' H' s'/\Q σ' H') X.xe s
section
variable{X:Cx}{pos:Pos}
noncomputable def TF(i:Nat):TG:=λv σ H Q=>Q (σ.set i (some v)) H
def fG{i:Nat}{x:Str}(hN:X.N.Nodup)(hi:X.N[i]? =some x)(q:Loc X.env.scope x)(z:X.fn x=true\/X.env.scope.names.lookup x=some .local:=by walk_at "p"):PG X (.Name x pos) (TF i):=by
 intro pins s σ H v u Q I r h;exact wpAny_assign_Name (Rb I hN hi q r (λs' I'=>⟨_,H,I',h⟩) z)
noncomputable def agl:TGs:=λvs σ H Q=>vs=[]/\Q σ H
noncomputable def afs(t:TG)(u:TGs):TGs:=λvs σ H Q=>∃v r,vs=v::r/\t v σ H λσ' H'=>u r σ' H' Q
def jU:PGs X [] agl:=by
 intro pins s σ H vs us Q I r h;obtain⟨e,h⟩:=h;subst e;cases r;exact assignInOrder_nil ⟨σ,H,I,h⟩
def fZ{e:Expr}{es:List Expr}{t:TG}{u:TGs}(h1:PG X e t)(h2:PGs X es u)
  (hs:(assignEach (e::es) X.env).map (·.2)=assign e X.env::(assignEach es X.env).map (·.2):=by rfl):PGs X (e::es) (afs t u):=by
 intro pins s σ H vs us Q I r h;obtain⟨v,vr,q,h⟩:=h;subst q
 cases r with
 |cons r rr=>
  rw[hs];refine assignInOrder_cons (thn (h1 pins s σ H _ _ _ I r h) λ_ s1 ⟨σ1,H1,I1,z⟩=>?_);exact h2 pins s1 σ1 H1 _ _ Q I1 rr z
noncomputable def afJ(K:Fg_)(n:Nat)(t:TGs):TG:=λv σ H Q=>∃a xs,v=.ref a/\SqT K H a xs/\xs.length=n/\t xs σ H Q
def aei{es:List Expr}{k:Nat}{t:TGs}{n:Nat}(hc:X.calm=true)(h:PGs X es t)
  (hn:(assignEach es X.env).length=n:=by rfl) (hst:(assignEach es X.env).findIdx? (·.1)=none:=by rfl):PG X (.Tuple es k pos) (afJ X.K n t):=by
 intro pins s σ H v u Q I r q;obtain⟨a,xs,e1,hq,hl,q⟩:=q;subst e1;cases r;obtain⟨its,z,ht,hz⟩:=I.tuple hq;refine assign_Tuple_tuple (I.ok.hd hc) ht (by simp[hn,<-hl,z.length]) hst λh' hx=>?_;have I1:Inv X pins σ H {s with heap:=h'}:=I.kept (t':=s.toks) λb o e=>hx b o (zzv (zzn e)) e;exact h pins _ σ H xs _ Q I1 (by simpa using z) q
noncomputable def afy(te:TE)(g:TG):TS:=λD σ H=>te σ H λx H1=>g x σ H1 D.nx
def aaY{tg e:Expr}{te:TE}{g:TG}(he:PE X e te)(hg:PG X tg g)(hs:swapsWithSole [tg] e pos.line X.env=pure false:=by rfl)(hw:swappedStores [tg] e X.env=pure none:=by rfl)
  (h1:(assignEach [tg] X.env).map (·.2)=[assign tg X.env]:=by rfl):PS X (.Assign [tg] e pos) (afy te g):=by
 intro pins s σ H D I h;refine wpAny_Assign_stores (thn (he pins s σ H _ I h) λv s1 ⟨x,H1,I1,z,q1⟩=>?_) hs hw;rw[h1];exact thn (hg pins s1 σ H1 x v _ I1 z q1) λ_ s2 q=>q
def fL{i:Nat}{x:Str}{e:Expr}{te:TE}{pos':Pos}(hN:X.N.Nodup)(hi:X.N[i]? =some x)(hx:Loc X.env.scope x)(he:PE X e te)(hs:swapsWith e (some (.Name x pos')) pos.line X.env=pure false:=by rfl)(hf:X.fn x=true\/X.env.scope.names.lookup x=some .local:=by walk_at "p"):
  PS X (.Assign [.Name x pos'] e pos) (afy te (TF i)):=by
 intro pins s σ H D I h;refine wpAny_Assign_Name (thn (he pins s σ H _ I h) λv s1 ⟨y,H1,I1,q,z⟩=>?_) hs;exact Rb I1 hN hi hx q (λs2 I2=>⟨_,H1,I2,z⟩) hf
end
section
variable{X:Cx}{pos:Pos}
noncomputable def afe(c:TT)(tb:TS):TS:=λD σ H=>∃W:Nat->St->Hp->Prop,(∃m,W m σ H)/\∀m σ H,W m σ H->
 c σ H λb H1=>if b=true then∃N:St->Hp->Prop,(∀σ' H',N σ' H'->∃m',m'<m/\W m' σ' H')/\tb {D with nx:=N,ct:=N,bk:=D.nx} σ H1 else D.nx σ H1
def Sq{c:Expr}{q:List Stmt}{tc:TT}{tb:TS}(hp:PassesOwn (model X.prog X.w) X.A X.env X.xe)(hc:PT X c tc)(hb:PSs X q tb):PS X (.While c q [] pos) (afe tc tb):=by
 intro pins s σ H D I h;obtain⟨W,⟨m0,w0⟩,aa⟩:=h;refine wpAny_While (codeAny_whileLoop (λn s'=>∃σ' H',Inv X pins σ' H' s'/\W n σ' H') ?_ m0 ⟨σ,H,I,w0⟩);rintro n s1 ⟨σ1,H1,I1,w1⟩;refine yyK hp (thn (hc pins s1 σ1 H1 _ I1 (aa n σ1 H1 w1)) λb s2 ⟨H2,I2,q2⟩=>?_)
 cases b with
 |true=>
  obtain⟨N,hN,q2⟩:=q2;rw[z8 rfl];refine yyK hp (thn (hb pins s2 σ1 H2 _ I2 q2) λf s3 q3=>?_)
  cases f with
  |next=>
   obtain⟨σ3,z,I3,n3⟩:=q3;obtain⟨m',hm,w3⟩:=hN σ3 z n3;exact⟨m',hm,σ3,z,I3,w3⟩
  |cont=>
   obtain⟨σ3,z,I3,n3⟩:=q3;obtain⟨m',hm,w3⟩:=hN σ3 z n3;exact⟨m',hm,σ3,z,I3,w3⟩
  |brk=>exact q3
  |ret v=>exact q3
 |false=>
  rw[z4 zzG];exact Zj ⟨σ1,H2,I2,q2⟩
end
structure It where
 go:Nat->Hp->Prop
 yld:Nat->Hp->V->Hp->Prop
 stop:Nat->Hp->Prop
noncomputable def Qo(X:Cx)(pins:List (Addr×Obj))(H:Hp)(b:Addr):Prop:=
 H b=none/\b≠X.env.locals/\b∉X.fs/\(b∈X.ex\/X.s₀.heap.objs.size<=b)/\(∀x c,X.env.cells.lookup x=some c->c≠b)/\∀p∈X.pn++pins,p.1≠b
def Inv.fpOk{X:Cx}{pins:List (Addr×Obj)}{σ:St}{H H':Hp}{s:Shared}{b:Addr}(I:Inv X pins σ H s)(hb:s.heap.objs.size<=b)(hn:H' b=none):Qo X pins H' b:=by
 refine⟨hn,yyy (zzC I.lt hb),I.nofs hb,.inr (zzK I.sz hb),λx c e z=>?_,λp hp z=>?_⟩
 ·obtain⟨v,q⟩:=I.cell x c e
  exact absurd (zzC q.lt (by rw[z];exact hb)) (yyn _)
 ·exact absurd (zzC (zzn (I.pin p hp).1) (by rw[z];exact hb)) (yyn _)
structure Turn(P:Program)(w:World)(K:Fg_)(tg:Expr)(J:It)(fp:List Addr)(it:Addr)(tn:Nat->Heap->Prop):Prop where
 mem:it∈fp
 obj:∀i h,tn i h->∀b∈fp,∃o,h.get? b=some o/\∀v,o.data≠.cell v
 keep:∀i h h',tn i h->(∀b∈fp,∀o,h.get? b=some o->h'.get? b=some o)->tn i h'
 item:∀(X:Cx),X.prog=P->X.w=w->X.K=K->X.calm=true->∀(i:Nat)(pins:List (Addr×Obj))(s:Shared)(σ:St)(H:Hp)(E:Value->Shared->Prop),Inv X pins σ H s->(∀b∈fp,Qo X pins H b)->tn i s.heap->J.go i H->
  wpAny (model P w) X.A (pyNext (.ref it)) (λr s1=>∃u,r=some u/\
   wpAny (model P w) X.A (letOwnedTupleGo tg (.ref it) u) (λ_ s2=>∃x H',Inv X pins σ H' s2/\RelV x u/\J.yld i H x H'/\tn (i+1) s2.heap/\∀b∈fp,H' b=none) E s1) E s
 done:∀(X:Cx),X.prog=P->X.w=w->X.K=K->X.calm=true->∀(i:Nat)(pins:List (Addr×Obj))(s:Shared)(σ:St)(H:Hp)(E:Value->Shared->Prop),Inv X pins σ H s->(∀b∈fp,Qo X pins H b)->tn i s.heap->J.stop i H->
  wpAny (model P w) X.A (pyNext (.ref it)) (λr s1=>r=none/\Inv X pins σ H s1) E s
 self:∀(A:Around)(i:Nat)(s:Shared)(Q:Value->Shared->Prop)(E:Value->Shared->Prop),tn i s.heap->Q (.ref it) s->wpAny (model P w) A (pyIter (.ref it)) Q E s
abbrev TI:=St->Hp->(It->Hp->Prop)->Prop
noncomputable def PIE(X:Cx)(pins:List (Addr×Obj))(σ:St)(tg:Expr)(R:It->Hp->Prop)(itv:Value)(s2:Shared):Prop:=
 ∃(it:Addr)(fp:List Addr)(tn:Nat->Heap->Prop)(J:It)(H':Hp),itv=.ref it/\Inv X pins σ H' s2/\Turn X.prog X.w X.K tg J fp it tn/\tn 0 s2.heap/\(∀b∈fp,Qo X pins H' b)/\R J H'
noncomputable def PI(X:Cx)(tg iter:Expr)(wi:TI):Prop:=
 ∀(pins:List (Addr×Obj)) (s:Shared) (σ:St) (H:Hp) (R:It->Hp->Prop),Inv X pins σ H s->wi σ H R->
  wpAny (model X.prog X.w) X.A (eval iter X.env) (λv s1=>wpAny (model X.prog X.w) X.A (pyIter v) (PIE X pins σ tg R) X.xe s1) X.xe s
def Ub{M:Model}{A:Around}{E:Value->Shared->Prop}{s:Shared}{tg:Expr}{it:Addr}{u:Value}{o:Obj}{n:String}{vs:Array Value}{Q:Unit->Shared->Prop}(ho:s.heap.get? it=some o)(z:o.cls=.type n)(hd:o.data=.fields vs)
  (hn:["enumerate", "zip", "dict_itemiterator", "dict_reverseitemiterator", "odict_iterator", "itertools.zip_longest", "itertools.pairwise"].contains n=false) (q:Q () s):wpAny M A (letOwnedTupleGo tg (.ref it) u) Q E s:=by
 unfold letOwnedTupleGo
 cases tg<;>first
  |exact zzi q
  | (cases u<;>first
    |exact zzi q
    | (refine z5 (wpAny_load ho ?_)
       rw[z,hd];show wpAny M A (if(["enumerate", "zip", "dict_itemiterator", "dict_reverseitemiterator", "odict_iterator", "itertools.zip_longest", "itertools.pairwise"].contains n && vs[0]? ==some (rawInt _))=true then _ else _) Q E s;rw[z4 (by intro h;rw[hn,Bool.false_and]at h;cases h)];exact zzi q))
noncomputable def Itl(K:Fg_)(a:Addr):It:=
 ⟨λi H=>∃xs x,SqL K H a xs/\xs[i]? =some x,λi H x H'=>H'=H/\∀xs,SqL K H a xs->xs[i]? =some x,λi H=>∃xs,SqL K H a xs/\xs.length<=i⟩
noncomputable def Itr(lo:Int)(n:Nat):It:=⟨λi _=>i<n,λi H x H'=>H'=H/\x=.int (lo+i),λi _=>n<=i⟩
def Vr{P:Program}{w:World}{K:Fg_}{tg:Expr}(a it:Addr):Turn P w K tg (Itl K a) [it] it (λi h=>h.IsListIter it a i) where
 mem:=by simp
 obj:=λi h st b q=>by
  have e:b=it:=by simpa using q
  subst e;obtain⟨o,e,c,d⟩:=st;exact⟨o,e,λv z=>by rw[d]at z;cases z⟩
 keep:=λi h h' st k=>st.at λo e=>k it (by simp) o e
 item:=by
  intro X hP hw hK hc i pins s σ H E I hf st hg;subst hP hw hK;obtain⟨xs,x,hq,hx⟩:=hg;obtain⟨its,rv,p,hz⟩:=I.list hq;obtain⟨u,hu,ru⟩:=rv.get hx;obtain⟨f0,f1,f2,f3,f4,f5⟩:=hf it (by simp);refine wpAny_pyNext_list_item st p.isList (x:=u) (by simpa using hu) λh' aa sb=>?_;have I1:Inv X pins σ H {s with heap:=h'}:=I.turned (t':=s.toks) (λb o q e=>(sb.2 b q).trans e) f0 f1 f3 f4 f5;obtain⟨o,e,c,d⟩:=id aa;exact⟨u,rfl,Ub (s:={s with heap:=h'}) e c d (by decide) ⟨x,H,I1,ru,⟨rfl,λys hy=>by rw[I.list_inj hy hq];exact hx⟩,aa,λb q=>(hf b q).1⟩⟩
 done:=by
  intro X hP hw hK hc i pins s σ H E I hf st hg;subst hP hw hK;obtain⟨xs,hq,hx⟩:=hg;obtain⟨its,rv,p,hz⟩:=I.list hq;obtain⟨f0,f1,f2,f3,f4,f5⟩:=hf it (by simp);have hl:=rv.length;exact wpAny_pyNext_list_end (I.ok.hd hc) st p.isList (by simp;omega) λh' eb=>⟨rfl,I.turned (t':=s.toks) (λb o q e=>eb b o q e) f0 f1 f3 f4 f5⟩
 self:=λ_ _ _ _ _ st h=>wpAny_pyIter_listiter st h
def Ur{P:Program}{w:World}{K:Fg_}{tg:Expr}(it:Addr)(lo:Int)(n:Nat):Turn P w K tg (Itr lo n) [it] it (λi h=>IsRangeIter h it (lo+(i:Nat)*1) ((n:Int) - (i:Nat)) 1) where
 mem:=by simp
 obj:=λi h st b q=>by
  have e:b=it:=by simpa using q
  subst e
  exact ⟨_,st,λv z=>by
   have z':Data.fields _=Data.cell v:=z;cases z'⟩
 keep:=λi h h' st k=>k it (by simp) _ st
 item:=by
  intro X hP hw hK hc i pins s σ H E I hf st hg;subst hP hw hK;obtain⟨f0,f1,f2,f3,f4,f5⟩:=hf it (by simp);have W:=Walks.range (prog:=X.prog) (w:=X.w) (I.ok.hd hc) it lo 1 n;refine W.item i s _ _ hg st λv h' tk hv aa kk=>?_;obtain⟨t,rfl⟩:=hv;have I1:Inv X pins σ H {s with heap:=h',toks:=tk}:=I.turned (λb o q e=>kk b o (by simpa using q) e) f0 f1 f3 f4 f5;refine⟨_,rfl,Ub (s:={s with heap:=h',toks:=tk}) (n:= "range_iterator") aa rfl rfl (by decide) ⟨.int (lo+i),H,I1,⟨t,?_⟩,⟨rfl,rfl⟩,aa,λb q=>(hf b q).1⟩⟩;rw[Int.mul_one]
 done:=by
  intro X hP hw hK hc i pins s σ H E I hf st hg;subst hP hw hK;obtain⟨f0,f1,f2,f3,f4,f5⟩:=hf it (by simp);exact wpAny_pyNext_range_end (I.ok.hd hc) st (by have:n<=i:=hg;omega) λh' eb=>⟨rfl,I.turned (t':=s.toks) (λb o q e=>eb b o q e) f0 f1 f3 f4 f5⟩
 self:=λ_ _ _ _ _ st h=>wpAny_pyIter_rangeiter st h
end L2
namespace L2
open PySem PySem.Spec PyProof.Rows
section
variable{X:Cx}{tg:Expr}
noncomputable def Xe(K:Fg_)(tl:TE):TI:=λσ H R=>tl σ H λx H1=>∃a,x=.ref a/\(∃xs,SqL K H1 a xs)/\R (Itl K a) H1
def acl{l:Expr}{tl:TE}(hl:PE X l tl):PI X tg l (Xe X.K tl):=by
 intro pins s σ H R I h;refine thn (hl pins s σ H _ I h) λv z ⟨x,H1,I1,r1,q1⟩=>?_;obtain⟨a,e,⟨xs,hq⟩,q⟩:=q1;subst e;cases r1;obtain⟨its,rv,p,hz⟩:=I1.list hq;refine yyN p.isList ?_;refine⟨z.heap.objs.size,[z.heap.objs.size],_,_,H1,rfl,I1.kept (t':=z.toks) λb o e=>z7 _ e,Vr a _,⟨_,zzo _ rfl,rfl,rfl⟩,λb hb=>?_,q⟩;have e:b=z.heap.objs.size:=by simpa using hb
 subst e;exact I1.fpOk (zzc _) (I1.hok.fresh (zzc _))
def aac{pins:List (Addr×Obj)}{σ:St}{H:Hp}{s:Shared}{R:It->Hp->Prop}{E:Value->Shared->Prop}{lo hi:Int}{t u v:Tok}{tk:Nat}(I:Inv X pins σ H s)(h1: -(2^62)<=lo)(h2:lo<2^62)(h3: -(2^62)<=hi)(h4:hi<2^62)
  (q:R (Itr lo (hi - lo).toNat) H):wpAny (model X.prog X.w) X.A (pyIter (.ref s.heap.objs.size)) (PIE X pins σ tg R) E {s with heap:=s.heap.push {cls:=.type "range",data:=.fields #[.int lo t,.int hi u,.int 1 v]},toks:=tk}:=by
 refine wpAny_pyIter_range (IsRange.new ..) (small_one h1 h2 h3 h4) ?_;have z:Inv X pins σ H {s with heap:=s.heap.push {cls:=.type "range",data:=.fields #[.int lo t,.int hi u,.int 1 v]},toks:=tk}:=I.kept λb o e=>z7 _ e
 refine ⟨(s.heap.push {cls:=.type "range",data:=.fields #[.int lo t,.int hi u,.int 1 v]}).objs.size,[(s.heap.push {cls:=.type "range",data:=.fields #[.int lo t,.int hi u,.int 1 v]}).objs.size],_,_,H,rfl,
  z.kept (t':=tk) λb o e=>z7 _ e,Ur _ lo (hi - lo).toNat,?_,λb hb=>?_,q⟩
 ·have e1:lo+((0:Nat):Int)*1=lo:=by simp
  have e2:(((hi - lo).toNat:Nat):Int) - ((0:Nat):Int)=Builtin.Range.rangeSize lo hi 1:=by rw[rangeSize_one];split<;>omega
  show IsRangeIter _ _ (lo+((0:Nat):Int)*1) ((((hi - lo).toNat:Nat):Int) - ((0:Nat):Int)) 1;rw[e1,e2];exact zzo _ rfl
 ·have e:b=(s.heap.push {cls:=.type "range",data:=.fields #[.int lo t,.int hi u,.int 1 v]}).objs.size:=by simpa using hb
  subst e;exact z.fpOk (zzc _) (z.hok.fresh (zzc _))
noncomputable def aeW(ta:TA):TI:=λσ H R=>ta σ H λvs H1=>∃j:Int,vs=[.int j]/\ -(2^62)<=j/\j<2^62/\R (Itr 0 j.toNat) H1
def sU{a:Expr}{ta:TA}{p pos:Pos}(hg:Gl X "range") (hm:X.mg "range" =none) (ha:PA X [a] ta) (hs:starEach [a] X.env=[(false,eval a X.env)]:=by rfl):PI X tg (.Call (.Name "range" p) [a] [] pos) (aeW ta):=by
 intro pins s σ H R I h;refine Call_ (oX I hg hm boot_range (PyProof.Rows.callWith_type1 (thn (ha pos pins s σ H _ I h) λus s1 ⟨vs,H1,I1,r1,z⟩=>?_) hs rfl));obtain⟨j,e,z,q2,q⟩:=z;subst e
 cases r1 with
 |cons r rr=>
  cases rr;obtain⟨t,rfl⟩:=r;exact call_range_1 (aac I1 (by omega) (by omega) z q2 (by simpa using q))
noncomputable def afw(wi:TI)(g:TG)(tb:TS):TS:=λD σ H=>wi σ H λJ H1=>∃W:Nat->Nat->St->Hp->Prop,(∃m,W 0 m σ H1)/\∀i m σ H,W i m σ H->
 (J.stop i H/\D.nx σ H)\/(J.go i H/\∃N:St->Hp->Prop,(∀σ' H',N σ' H'->∃m',m'<m/\W (i+1) m' σ' H')/\∀x H',J.yld i H x H'->g x σ H' λσ2 H2=>tb {D with nx:=N,ct:=N,bk:=D.nx} σ2 H2)
noncomputable def JZ(fp:List Addr)(h:Heap):List (Addr×Obj):=fp.filterMap λb=>(h.get? b).map λo=>(b,o)
def qg{fp:List Addr}{h:Heap}{b:Addr}{o:Obj}(q:b∈fp)(e:h.get? b=some o):(b,o)∈JZ fp h:=yyH.mpr ⟨b,q,by rw[e];rfl⟩
def Wk{fp:List Addr}{h:Heap}{p:Addr×Obj}(hp:p∈JZ fp h):p.1∈fp/\h.get? p.1=some p.2:=by
 obtain⟨b,z,e⟩:=yyH.mp hp
 cases q:h.get? b with
 |none=>rw[q]at e;cases e
 |some o=>
  rw[q]at e;have e':(b,o)=p:=zzq e;subst e';exact⟨z,q⟩
def Inv.pinned{pins:List (Addr×Obj)}{σ:St}{H:Hp}{s:Shared}{fp:List Addr}(I:Inv X pins σ H s)(hf:∀b∈fp,Qo X pins H b)(ho:∀b∈fp,∃o,s.heap.get? b=some o/\∀v,o.data≠.cell v):Inv X (pins++JZ fp s.heap) σ H s:=
 I.pins_of λp hp=>(zzs.mp hp).elim (λz=>I.pin p (zzD _ z)) λz=>by
  obtain⟨hb,e⟩:=Wk z;obtain⟨f0,f1,f2,_⟩:=hf p.1 hb;obtain⟨o,q,d⟩:=ho p.1 hb;rw[e]at q;cases q;exact⟨e,f0,f1,f2,d⟩
def Inv.unpinned{pins pl:List (Addr×Obj)}{σ:St}{H:Hp}{s:Shared}(I:Inv X (pins++pl) σ H s):Inv X pins σ H s:=I.pins_of λp q=>I.pin p (zzD _ (zz6 _ q))
def kE{iter:Expr}{ab:List Stmt}{wi:TI}{g:TG}{tb:TS}{pos:Pos}(hp:PassesOwn (model X.prog X.w) X.A X.env X.xe)(hc:X.calm=true)(hi:PI X tg iter wi)(hg:PG X tg g)(hb:PSs X ab tb)
  (hs:∀x,foldedSetIterable iter X.env x=pure x:=by intro _;rfl):PS X (.For tg iter ab [] pos) (afw wi g tb):=by
 intro pins s σ H D I h;refine wpAny_For (thn (hi pins s σ H _ I h) λv s1 h1=>thn h1 λaj s2 h2=>?_) hs;obtain⟨it,fp,tn,J,H2,e,I2,T,ah,f2,W,⟨m0,w0⟩,ag⟩:=h2;subst e;have q:∀{H':Hp},(∀b∈fp,H' b=none)->∀b∈fp,Qo X pins H' b:=λhn b hb=>⟨hn b hb,(f2 b hb).2⟩;refine codeAny_forLoop_any (λn s'=>∃i σ' H',Inv X pins σ' H' s'/\tn i s'.heap/\(∀b∈fp,H' b=none)/\W i n σ' H') ?_ m0 ⟨0,σ,H2,I2,ah,λb hb=>(f2 b hb).1,w0⟩;rintro n s3 ⟨i,σ3,H3,I3,ae,ad,w3⟩;rcases ag i n σ3 H3 w3 with⟨stop,qn⟩|⟨go,N,hN,af⟩
 ·refine yyK hp (thn (T.done X rfl rfl rfl hc i pins s3 σ3 H3 X.xe I3 (q ad) ae stop) λr s4 ⟨hr,I4⟩=>?_)
  subst hr;exact Zj ⟨σ3,H3,I4,qn⟩
 ·refine yyK hp (thn (T.item X rfl rfl rfl hc i pins s3 σ3 H3 X.xe I3 (q ad) ae go) λr s4 ⟨u,hr,h4⟩=>?_)
  subst hr;refine yyK hp (thn h4 λ_ s5 ⟨x,H5,I5,r5,y5,ac,ai⟩=>?_);have I5':=I5.pinned (q ai) (T.obj _ _ ac);refine yyK hp (thn (hg _ s5 σ3 H5 x u _ I5' r5 (af x H5 y5)) λ_ s6 ⟨σ6,H6,I6,q6⟩=>?_);refine yyK hp (thn (hb _ s6 σ6 H6 _ I6 q6) λf s7 q7=>?_)
  have aa:∀{σ7:St}{H7:Hp},Inv X (pins++JZ fp s5.heap) σ7 H7 s7->N σ7 H7->∃m,m<n/\∃i σ' H',Inv X pins σ' H' s7/\tn i s7.heap/\(∀b∈fp,H' b=none)/\W i m σ' H':=fun{σ7 H7} z n7=>by
   obtain⟨m',hm,w7⟩:=hN σ7 H7 n7;refine⟨m',hm,i+1,σ7,H7,z.unpinned,T.keep _ _ _ ac λb hb o e=>(z.pin (b,o) (zzD _ (zzD _ (qg hb e)))).1,λb hb=>?_,w7⟩;obtain⟨o,e,d⟩:=T.obj _ _ ac b hb;exact(z.pin (b,o) (zzD _ (zzD _ (qg hb e)))).2.1
  cases f with
  |next=>obtain⟨σ7,H7,z,n7⟩:=q7;exact aa z n7
  |cont=>obtain⟨σ7,H7,z,n7⟩:=q7;exact aa z n7
  |brk=>obtain⟨σ7,H7,z,q7⟩:=q7;exact⟨σ7,H7,z.unpinned,q7⟩
  |ret v=>obtain⟨x7,σ7,H7,z,r7,q7⟩:=q7;exact⟨x7,σ7,H7,z.unpinned,r7,q7⟩
end
def aai{K:Fg_}{a:Addr}{xs:List V}{g:TG}{tb:TS}{D:Ends}{σ:St}{H:Hp}(z:Nat->St->Hp->Prop)(h0:z 0 σ H)(hl:∀i σ H,i<=xs.length->z i σ H->SqL K H a xs)
  (hs:∀i x σ H,xs[i]? =some x->z i σ H->g x σ H λσ2 H2=>tb {D with nx:=z (i+1),ct:=z (i+1),bk:=D.nx} σ2 H2) (hd:∀σ H,z xs.length σ H->D.nx σ H):
  ∃W:Nat->Nat->St->Hp->Prop,(∃m,W 0 m σ H)/\∀i m σ H,W i m σ H->
   ((Itl K a).stop i H/\D.nx σ H)\/((Itl K a).go i H/\∃N:St->Hp->Prop,(∀σ' H',N σ' H'->∃m',m'<m/\W (i+1) m' σ' H')/\∀x H',(Itl K a).yld i H x H'->g x σ H' λσ2 H2=>tb {D with nx:=N,ct:=N,bk:=D.nx} σ2 H2):=by
 refine⟨λi m σ H=>m=xs.length - i/\i<=xs.length/\z i σ H,⟨xs.length,by simp,zzB _,h0⟩,?_⟩;rintro i m σ H ⟨rfl,hi,p⟩;have q:=hl i σ H hi p;by_cases aa:i<xs.length
 ·refine .inr ⟨⟨xs,xs[i],q,by simp[aa]⟩,z (i+1),λσ' H' p'=>⟨xs.length - (i+1),by omega,rfl,aa,p'⟩,λx H' y=>?_⟩
  obtain⟨e,y⟩:=y;subst e;exact hs i x σ _ (y xs q) p
 ·have e:i=xs.length:=by omega
  subst e;exact .inl ⟨⟨xs,q,zzc _⟩,hd σ H p⟩
def Vj{lo:Int}{n:Nat}{g:TG}{tb:TS}{D:Ends}{σ:St}{H:Hp}(z:Nat->St->Hp->Prop)(h0:z 0 σ H)
  (hs:∀i σ H,i<n->z i σ H->g (.int (lo+i)) σ H λσ2 H2=>tb {D with nx:=z (i+1),ct:=z (i+1),bk:=D.nx} σ2 H2) (hd:∀σ H,z n σ H->D.nx σ H):
  ∃W:Nat->Nat->St->Hp->Prop,(∃m,W 0 m σ H)/\∀i m σ H,W i m σ H->
   ((Itr lo n).stop i H/\D.nx σ H)\/((Itr lo n).go i H/\∃N:St->Hp->Prop,(∀σ' H',N σ' H'->∃m',m'<m/\W (i+1) m' σ' H')/\∀x H',(Itr lo n).yld i H x H'->g x σ H' λσ2 H2=>tb {D with nx:=N,ct:=N,bk:=D.nx} σ2 H2):=by
 refine⟨λi m σ H=>m=n - i/\i<=n/\z i σ H,⟨n,by simp,zzB _,h0⟩,?_⟩;rintro i m σ H ⟨rfl,hi,p⟩;by_cases q:i<n
 ·refine .inr ⟨q,z (i+1),λσ' H' p'=>⟨n - (i+1),by omega,rfl,q,p'⟩,λx H' y=>?_⟩
  obtain⟨e,y⟩:=y;subst e y;exact hs i σ _ q p
 ·have e:i=n:=by omega
  subst e;exact .inl ⟨zzc _,hd σ H p⟩
end L2
namespace L2
open PySem PySem.Spec PyProof.Rows
abbrev R2:=V->V->Hp->VK->Prop
noncomputable def OpR(X:Cx)(f:Value->Value->Sem Value)(r:R2):Prop:=
 ∀(pins:List (Addr×Obj)) (s:Shared) (σ:St) (H:Hp) (x y:V) (v u:Value) (Q:VK),Inv X pins σ H s->RelV x v->RelV y u->r x y H Q->
  wpAny (model X.prog X.w) X.A (f v u) (EP X pins σ Q) X.xe s
noncomputable def UnR(X:Cx)(f:Value->Sem Value)(r:V->Hp->VK->Prop):Prop:=
 ∀(pins:List (Addr×Obj)) (s:Shared) (σ:St) (H:Hp) (x:V) (v:Value) (Q:VK),Inv X pins σ H s->RelV x v->r x H Q->
  wpAny (model X.prog X.w) X.A (f v) (EP X pins σ Q) X.xe s
noncomputable def jz(X:Cx)(f:Value)(r:List V->Hp->VK->Prop):Prop:=
 ∀(pins:List (Addr×Obj)) (s:Shared) (σ:St) (H:Hp) (xs:List V) (us:List Value) (Q:VK),Inv X pins σ H s->Vals xs us->r xs H Q->
  wpAny (model X.prog X.w) X.A (call f us) (EP X pins σ Q) X.xe s
noncomputable def agI(X:Cx)(r:V->Hp->(Bool->Hp->Prop)->Prop):Prop:=
 ∀(pins:List (Addr×Obj)) (s:Shared) (σ:St) (H:Hp) (x:V) (v:Value) (Q:Bool->Hp->Prop),Inv X pins σ H s->RelV x v->r x H Q->
  wpAny (model X.prog X.w) X.A (truthy v) (TP X pins σ Q) X.xe s
noncomputable def tOp(r:R2)(ta tb:TE):TE:=λσ H Q=>ta σ H λx H1=>tb σ H1 λy H2=>r x y H2 Q
noncomputable def tUn(r:V->Hp->VK->Prop)(ta:TE):TE:=λσ H Q=>ta σ H λx H1=>r x H1 Q
noncomputable def rI(C:Int->Int->Prop)(g:Int->Int->V):R2:=λx y H Q=>∃i j,x=.int i/\y=.int j/\C i j/\Q (g i j) H
noncomputable def rI0(g:Int->Int->V):R2:=λx y H Q=>∃i j,x=.int i/\y=.int j/\Q (g i j) H
noncomputable def rU(g:Int->V):V->Hp->VK->Prop:=λx H Q=>∃i,x=.int i/\Q (g i) H
section
variable{X:Cx}{a b c:Expr}{ta tb tc:TE}{pos:Pos}
def afT(ha:PE X a ta)(hb:PE X b tb){pins:List (Addr×Obj)}{s:Shared}{σ:St}{H:Hp}{R:V->V->Hp->Prop}(I:Inv X pins σ H s)
  (h:ta σ H λx H1=>tb σ H1 λy H2=>R x y H2) {Q:Value->Shared->Prop} {f:Value->Value->Sem Value}
  (z:∀v u q x y H2,Inv X pins σ H2 q->RelV x v->RelV y u->R x y H2->wpAny (model X.prog X.w) X.A (f v u) Q X.xe q):
  wpAny (model X.prog X.w) X.A (eval a X.env) (λv s₁=>wpAny (model X.prog X.w) X.A (eval b X.env) (λu s₂=>wpAny (model X.prog X.w) X.A (f v u) Q X.xe s₂) X.xe s₁) X.xe s:=by
 refine thn (ha pins s σ H _ I h) λv s1 ⟨x,H1,I1,r1,q1⟩=>?_;refine thn (hb pins s1 σ H1 _ I1 q1) λu q ⟨y,H2,I2,r2,q2⟩=>?_;exact z v u q x y H2 I2 r1 r2 q2
def fQ{op:Operator}{r:R2}(ho:OpR X (binaryOp op) r)(ha:PE X a ta)(hb:PE X b tb):PE X (.BinOp a op b pos) (tOp r ta tb):=by
 intro pins s σ H Q I h;exact wpAny_BinOp (afT ha hb I h λv u s2 x y H2 I2 z ry q=>ho pins s2 σ H2 x y v u Q I2 z ry q)
def Yr{op:UnaryOp}{r:V->Hp->VK->Prop}(q:UnR X (unaryOp op) r)(ha:PE X a ta):PE X (.UnaryOp op a pos) (tUn r ta):=by
 intro pins s σ H Q I h;exact UnaryOp_ (thn (ha pins s σ H _ I h) λv s1 ⟨x,H1,I1,z,q1⟩=>q pins s1 σ H1 x v Q I1 z q1)
def opI{f:Value->Value->Sem Value}{C:Int->Int->Prop}{g:Int->Int->Int}
  (z:∀(i j:Int)(t u:Tok)(s:Shared)(Q:Value->Shared->Prop)(E:Value->Shared->Prop),C i j->Q (.int (g i j) s.toks) {s with toks:=s.toks+1}->wpAny (model X.prog X.w) X.A (f (.int i t) (.int j u)) Q E s):
  OpR X f (rI C λi j=> .int (g i j)):=by
 intro pins s σ H x y v u Q I rx ry h;obtain⟨i,j,rfl,rfl,hc,q⟩:=h;obtain⟨t,rfl⟩:=rx;obtain⟨t',rfl⟩:=ry;exact z i j t t' s _ _ hc ⟨.int (g i j),H,I.tok _,⟨_,rfl⟩,q⟩
def agv{f:Value->Value->Sem Value}{g:Int->Int->Int}
  (z:∀(i j:Int)(t u:Tok)(s:Shared)(Q:Value->Shared->Prop)(E:Value->Shared->Prop),Q (.int (g i j) s.toks) {s with toks:=s.toks+1}->wpAny (model X.prog X.w) X.A (f (.int i t) (.int j u)) Q E s):
  OpR X f (rI0 λi j=> .int (g i j)):=by
 intro pins s σ H x y v u Q I rx ry h;obtain⟨i,j,rfl,rfl,q⟩:=h;obtain⟨t,rfl⟩:=rx;obtain⟨t',rfl⟩:=ry;exact z i j t t' s _ _ ⟨.int (g i j),H,I.tok _,⟨_,rfl⟩,q⟩
def afH{f:Value->Value->Sem Value}{g:Int->Int->Bool}
  (z:∀(i j:Int)(t u:Tok)(s:Shared)(Q:Value->Shared->Prop)(E:Value->Shared->Prop),Q (.bool (g i j)) s->wpAny (model X.prog X.w) X.A (f (.int i t) (.int j u)) Q E s):
  OpR X f (rI0 λi j=> .bl (g i j)):=by
 intro pins s σ H x y v u Q I rx ry h;obtain⟨i,j,rfl,rfl,q⟩:=h;obtain⟨t,rfl⟩:=rx;obtain⟨t',rfl⟩:=ry;exact z i j t t' s _ _ ⟨.bl (g i j),H,I,rfl,q⟩
noncomputable def agp(i j:Int):Prop:=0<=j/\j<=1000000/\i.natAbs<2^64
noncomputable def afU(i j:Int):Prop:=(-(2^64)<i/\i<2^64)\/(-(2^64)<j/\j<2^64)
def afU.ok{i j:Int}(h:afU i j):IntMulOk i j:=by
 rcases h with⟨h1,h2⟩|⟨h1,h2⟩
 ·exact .of_left (intBits_le_64 h1 h2)
 ·exact .of_right (intBits_le_64 h1 h2)
def iY:OpR X (binaryOp .Add) (rI0 λi j=> .int (i+j)):=agv λ_ _ _ _ _ _ _ q=>add_int q
def nO:OpR X (binaryOp .Sub) (rI0 λi j=> .int (i - j)):=agv λ_ _ _ _ _ _ _ q=>sub_int q
def je:OpR X (binaryOp .Mod) (rI (λ_ j=>0<j) λi j=> .int (i%j)):=opI λi j _ _ _ _ _ z q=>by
 have h1:(0:Int)<j:=z;exact mod_int' (by omega) (by rw[Int.fmod_eq_emod_of_nonneg i (by omega)];exact q)
def Ld:OpR X (binaryOp .Pow) (rI agp λi j=> .int (i^j.toNat)):=opI λ_ _ _ _ _ _ _ z q=>pow_int_small z.1 z.2.1 z.2.2 q
def unI{f:Value->Sem Value}{g:Int->Int}
  (z:∀(i:Int)(t:Tok)(s:Shared)(Q:Value->Shared->Prop)(E:Value->Shared->Prop),Q (.int (g i) s.toks) {s with toks:=s.toks+1}->wpAny (model X.prog X.w) X.A (f (.int i t)) Q E s):
  UnR X f (rU λi=> .int (g i)):=by
 intro pins s σ H x v Q I rx h;obtain⟨i,rfl,q⟩:=h;obtain⟨t,rfl⟩:=rx;exact z i t s _ _ ⟨.int (g i),H,I.tok _,⟨_,rfl⟩,q⟩
def RM:UnR X (unaryOp .USub) (rU λi=> .int (-i)):=unI λ_ _ _ _ _ q=>neg_int q
end
noncomputable def Yv:V->V->Bool
 |.non,.non=>true|.non,.int _=>true|.int _,.non=>true|.non,.bl _=>true|.bl _,.non=>true|.non,.str _=>true|.str _,.non=>true
 |.int _,.int _=>true|.bl _,.bl _=>true|.str _,.str _=>true|.byt _,.byt _=>true
 |.int _,.str _=>true|.str _,.int _=>true|.bl _,.str _=>true|.str _,.bl _=>true
 |_,_=>false
noncomputable def rEq:R2:=λx y H Q=>Yv x y=true/\Q (.bl (decide (x=y))) H
noncomputable def rNe:R2:=λx y H Q=>Yv x y=true/\Q (.bl (!decide (x=y))) H
def VN{i j:Int}:decide (V.int i=V.int j)=(i==j):=by
 rw[yy2];simp
def abI{i j:Bool}:decide (V.bl i=V.bl j)=(i==j):=by
 rw[yy2];simp
def Xw{i j:Str}:decide (V.str i=V.str j)=(i==j):=by
 rw[yy2];simp
def Wo{i j:Array UInt8}:decide (V.byt i=V.byt j)=(i.toList==j.toList):=by
 rw[yy2];cases i;cases j;simp
section
variable{X:Cx}{a b c:Expr}{ta tb tc:TE}{pos:Pos}
def gO{pins:List (Addr×Obj)}{σ:St}{H:Hp}{s:Shared}{Q:VK}{k z:Bool}(I:Inv X pins σ H s)(q:Q (.bl k) H)(e:k=z):EP X pins σ Q (.bool z) s:=by
 subst e;exact⟨.bl k,H,I,rfl,q⟩
def qX:OpR X (compareOp .Eq) rEq:=by
 intro pins s σ H x y v u Q I rx z h;obtain⟨hs,q⟩:=h
 cases x with
 |non=>
  cases rx
  cases y with
  |non=>cases z;exact PySem.EqNone.eq_none_none (gO I q (by simp))
  |bl j=>cases z;exact PySem.EqNone.eq_none_bool (gO I q (by simp))
  |int j=>obtain⟨t',rfl⟩:=z;exact PySem.EqNone.eq_none_int (gO I q (by simp))
  |str j=>obtain⟨t',rfl⟩:=z;exact PySem.EqNone.eq_none_str (gO I q (by simp))
  |_=>exact absurd (show false=true from hs) zzG
 |bl i=>
  cases rx
  cases y with
  |non=>cases z;exact PySem.EqNone.eq_bool_none (gO I q (by simp))
  |bl j=>cases z;exact eq_bool (gO I q abI)
  |str j=>obtain⟨t',rfl⟩:=z;exact PySem.EqMixed.eq_bool_str (gO I q (by simp))
  |_=>exact absurd (show false=true from hs) zzG
 |int i=>
  obtain⟨t,rfl⟩:=rx
  cases y with
  |non=>cases z;exact PySem.EqNone.eq_int_none (gO I q (by simp))
  |int j=>obtain⟨t',rfl⟩:=z;exact eq_int (gO I q VN)
  |str j=>obtain⟨t',rfl⟩:=z;exact PySem.EqMixed.eq_int_str (gO I q (by simp))
  |_=>exact absurd (show false=true from hs) zzG
 |str i=>
  obtain⟨t,rfl⟩:=rx
  cases y with
  |non=>cases z;exact PySem.EqNone.eq_str_none (gO I q (by simp))
  |bl j=>cases z;exact PySem.EqMixed.eq_str_bool (gO I q (by simp))
  |int j=>obtain⟨t',rfl⟩:=z;exact PySem.EqMixed.eq_str_int (gO I q (by simp))
  |str j=>obtain⟨t',rfl⟩:=z;exact eq_str (gO I q Xw)
  |_=>exact absurd (show false=true from hs) zzG
 |byt i=>
  obtain⟨t,rfl⟩:=rx
  cases y with
  |byt j=>obtain⟨t',rfl⟩:=z;exact PySem.W.eq_bytes (gO I q Wo)
  |_=>exact absurd (show false=true from hs) zzG
 |_=>cases y<;>exact absurd (show false=true from hs) zzG
def acA:OpR X (compareOp .NotEq) rNe:=by
 intro pins s σ H x y v u Q I rx z h;obtain⟨hs,q⟩:=h
 cases x with
 |non=>
  cases rx
  cases y with
  |non=>cases z;exact PySem.EqNone.ne_none_none (gO I q (by simp))
  |bl j=>cases z;exact PySem.EqNone.ne_none_bool (gO I q (by simp))
  |int j=>obtain⟨t',rfl⟩:=z;exact PySem.EqNone.ne_none_int (gO I q (by simp))
  |str j=>obtain⟨t',rfl⟩:=z;exact PySem.EqNone.ne_none_str (gO I q (by simp))
  |_=>exact absurd (show false=true from hs) zzG
 |bl i=>
  cases rx
  cases y with
  |non=>cases z;exact PySem.EqNone.ne_bool_none (gO I q (by simp))
  |bl j=>cases z;exact ne_bool (gO I q (congrArg not abI))
  |str j=>obtain⟨t',rfl⟩:=z;exact PySem.EqMixed.ne_bool_str (gO I q (by simp))
  |_=>exact absurd (show false=true from hs) zzG
 |int i=>
  obtain⟨t,rfl⟩:=rx
  cases y with
  |non=>cases z;exact PySem.EqNone.ne_int_none (gO I q (by simp))
  |int j=>obtain⟨t',rfl⟩:=z;exact ne_int (gO I q (congrArg not VN))
  |str j=>obtain⟨t',rfl⟩:=z;exact PySem.EqMixed.ne_int_str (gO I q (by simp))
  |_=>exact absurd (show false=true from hs) zzG
 |str i=>
  obtain⟨t,rfl⟩:=rx
  cases y with
  |non=>cases z;exact PySem.EqNone.ne_str_none (gO I q (by simp))
  |bl j=>cases z;exact PySem.EqMixed.ne_str_bool (gO I q (by simp))
  |int j=>obtain⟨t',rfl⟩:=z;exact PySem.EqMixed.ne_str_int (gO I q (by simp))
  |str j=>obtain⟨t',rfl⟩:=z;exact ne_str (gO I q (congrArg not Xw))
  |_=>exact absurd (show false=true from hs) zzG
 |byt i=>
  obtain⟨t,rfl⟩:=rx
  cases y with
  |byt j=>obtain⟨t',rfl⟩:=z;exact PySem.W.ne_bytes (gO I q (congrArg not Wo))
  |_=>exact absurd (show false=true from hs) zzG
 |_=>cases y<;>exact absurd (show false=true from hs) zzG
def Lf:OpR X (compareOp .Lt) (rI0 λi j=> .bl (decide (i<j))):=afH λ_ _ _ _ _ _ _ q=>lt_int q
def adB:OpR X (compareOp .LtE) (rI0 λi j=> .bl (decide (i<=j))):=afH λ_ _ _ _ _ _ _ q=>le_int q
def Jf:OpR X (compareOp .Gt) (rI0 λi j=> .bl (decide (j<i))):=afH λ_ _ _ _ _ _ _ q=>gt_int q
def sI:OpR X (compareOp .Is) (λx y H Q=>y=.non/\Q (.bl (decide (x=.non))) H):=by
 intro pins s σ H x y v u Q I z ry h;obtain⟨rfl,q⟩:=h;cases ry;refine is_none_gen (gO I q ?_)
 cases x<;>first
  |(cases z;rfl)
  |(obtain⟨t,rfl⟩:=z;rfl)
def XS:OpR X (compareOp .IsNot) (λx y H Q=>y=.non/\Q (.bl (!decide (x=.non))) H):=by
 intro pins s σ H x y v u Q I z ry h;obtain⟨rfl,q⟩:=h;cases ry;refine isnot_none_gen (gO I q ?_)
 cases x<;>first
  |(cases z;rfl)
  |(obtain⟨t,rfl⟩:=z;rfl)
def fX(b:Expr){op:CmpOp}(h:op≠.In:=by decide)(h2:op≠.NotIn:=by decide):behindInMarks op b=false:=by
 have q:(op==CmpOp.In)=false:=by cases op<;>first|rfl|exact absurd rfl h
 have z:(op==CmpOp.NotIn)=false:=by cases op<;>first|rfl|exact absurd rfl h2
 cases b<;>simp[behindInMarks,q,z]
def Iw{op:CmpOp}{r:R2}(ho:OpR X (compareOp op) r)(ha:PE X a ta)(hb:PE X b tb)(hm:behindInMarks op b=false):PE X (.Compare a [op] [b] pos) (tOp r ta tb):=by
 intro pins s σ H Q I h;exact wpAny_Compare1 (afT ha hb I h λv u s2 x y H2 I2 z ry q=>ho pins s2 σ H2 x y v u Q I2 z ry q) hm
noncomputable def aeO(t:TE):TT:=λσ H Q=>t σ H λx H'=>∃k,x=.bl k/\Q k H'
def fK{op:CmpOp}{r:R2}(ho:OpR X (compareOp op) r)(ha:PE X a ta)(hb:PE X b tb)(hm:behindInMarks op b=false):PT X (.Compare a [op] [b] pos) (aeO (tOp r ta tb)):=by
 intro pins s σ H Q I h
 refine wpAny_isTrue_Compare1 (thn (ha pins s σ H _ I h) λv s1 ⟨x,H1,I1,r1,q1⟩=>thn (hb pins s1 σ H1 _ I1 q1) λu s2 ⟨y,H2,I2,r2,q2⟩=>
  thn (ho pins s2 σ H2 x y v u _ I2 r1 r2 q2) λc s3 ⟨z,H3,I3,r3,k,e,q⟩=>?_) hm
 subst e;cases r3;exact yyl ⟨H3,I3,q⟩
noncomputable def abw(r r':R2)(ta tb tc:TE):TE:=λσ H Q=>ta σ H λx H1=>tb σ H1 λy H2=>r x y H2 λz H3=>∃k,z=.bl k/\
 (if k=true then tc σ H3 λw' H4=>r' y w' H4 Q else Q (.bl false) H3)
def Yt{op q:CmpOp}{r r':R2}(ho:OpR X (compareOp op) r)(aa:OpR X (compareOp q) r')(ha:PE X a ta)(hb:PE X b tb)(hc:PE X c tc)
  (hm:lastMarks [op,q] [b,c]=false:=by with_unfolding_all rfl):PE X (.Compare a [op,q] [b,c] pos) (abw r r' ta tb tc):=by
 intro pins s σ H Q I h
 refine Compare_chain (thn (ha pins s σ H _ I h) λv s1 ⟨x,H1,I1,r1,q1⟩=>chain_link (thn (hb pins s1 σ H1 _ I1 q1) λu s2 ⟨y,H2,I2,r2,q2⟩=>
  thn (ho pins s2 σ H2 x y v u _ I2 r1 r2 q2) λd s3 ⟨z,H3,I3,r3,k,e,q3⟩=>?_)) hm
 subst e;cases r3;refine yyl ?_
 cases k with
 |false=>exact ite_ff ⟨.bl false,H3,I3,rfl,q3⟩
 |true=>exact ite_tt (chain_last (thn (hc pins s3 σ H3 _ I3 q3) λw' s4 ⟨z',H4,I4,r4,q4⟩=>aa pins s4 σ H4 y z' u w' Q I4 r2 r4 q4))
noncomputable def agk(K:Fg_)(x:V)(H:Hp)(k:Bool):Prop:=
 match x with
 |.non=>k=false
 |.bl b=>k=b
 |.int i=>k=(i !=0)
 |.str y=>y.length<=sizeLine/\k=((y.length:Int) !=0)
 |.byt y=>y.size<=sizeLine/\k=((y.size:Int) !=0)
 |.ref p=>(∃xs,SqL K H p xs/\k=!xs.isEmpty)\/(∃xs,SqT K H p xs/\k=!xs.isEmpty)\/∃kvs,H p=some (.dK kvs)/\k=!kvs.isEmpty
 |_=>False
def Tu{κ:Type}{kvs:List (κ×V)}{vs:List (κ×Value)}(r:KV kvs vs):(!vs.isEmpty)=!kvs.isEmpty:=by
 cases r<;>rfl
def Hu{xs:List V}{its:List Value}(r:Vals xs its):(!its.toArray.isEmpty)=!xs.isEmpty:=by
 cases r<;>simp
def HW:(sizeLine:Nat)<2^63:=by rw[zzk];decide
def afd:agI X (λx H Q=>∃k,agk X.K x H k/\Q k H):=by
 intro pins s σ H x v Q I rx h;obtain⟨k,e,q⟩:=h;have hl:=HW;have hs:sizeLine=16777216:=zzk
 cases x with
 |non=>
  cases rx;have z:k=false:=e;subst z;exact truthy_none ⟨H,I,q⟩
 |bl b=>
  cases rx;have z:k=b:=e;subst z;exact yyl ⟨H,I,q⟩
 |int i=>
  obtain⟨t,rfl⟩:=rx;have z:k=(i !=0):=e;subst z;exact PySem.P.truthy_int ⟨H,I,q⟩
 |str y=>
  obtain⟨t,rfl⟩:=rx;obtain⟨hy,z⟩:y.length<=sizeLine/\k=((y.length:Int) !=0):=e;subst z;exact PySem.P.truthy_str (by omega) ⟨H,I.tok _,q⟩
 |byt y=>
  obtain⟨t,rfl⟩:=rx;obtain⟨hy,z⟩:y.size<=sizeLine/\k=((y.size:Int) !=0):=e;subst z;exact PySem.W.truthy_bytes (by omega) ⟨H,I.tok _,q⟩
 |ref p=>
  cases rx;have z:(∃xs,SqL X.K H p xs/\k=!xs.isEmpty)\/(∃xs,SqT X.K H p xs/\k=!xs.isEmpty)\/∃kvs,H p=some (.dK kvs)/\k=!kvs.isEmpty:=e;rcases z with⟨xs,hx,z⟩|⟨xs,hx,z⟩|⟨kvs,hx,z⟩
  ·subst z
   obtain⟨its,r,pl,hz⟩:=I.list hx;have aa:=r.length;exact wpAny_truthy_list pl.isList (by simp only[zzf];omega) ⟨H,I.tok _,by rw[Hu r];exact q⟩
  ·subst z
   obtain⟨its,r,pl,hz⟩:=I.tuple hx;have aa:=r.length;exact truthy_tuple pl (by simp only[zzf];omega) ⟨H,I.tok _,by rw[Hu r];exact q⟩
  ·subst z
   obtain⟨hz,hS,vs,r,m⟩:kvs.length<=sizeLine/\(p==sysModules)=false/\∃vs,KV kvs vs/\s.heap.DictOf (gb X.prog X.w) p vs:=I.hok p _ hx;have aa:kvs.length=vs.length:=zzV r;exact wpAny_truthy_dict hS m (by omega) ⟨H,I.tok _,by rw[Tu r];exact q⟩
 |_=>exact(show False from e).elim
def aaj(ha:PE X a ta)(he:∀q,isTrue a X.env q=(do let v<-q;standAt a.pos;holding [v] (truthy v))):
  PT X a (λσ H Q=>ta σ H λx H'=>∃k,agk X.K x H' k/\Q k H'):=by
 intro pins s σ H Q I h;exact isTrue_plain (thn (ha pins s σ H _ I h) λv s1 ⟨x,H1,I1,z,q1⟩=>afd pins s1 σ H1 x v Q I1 z q1) (he _)
def Ue:OpR X (binaryOp .Add) (λx y H Q=>∃i j,x=.str i/\y=.str j/\i.length+j.length<=sizeLine/\Q (.str (i++j)) H):=by
 intro pins s σ H x y v u Q I rx ry h;obtain⟨i,j,rfl,rfl,z,q⟩:=h;obtain⟨t,rfl⟩:=rx;obtain⟨t',rfl⟩:=ry;exact add_str (λt' tk=>⟨.str (i++j),H,I.tok _,⟨_,rfl⟩,q⟩) z
def vals1{x:V}{us:List Value}(r:Vals [x] us):∃u,us=[u]/\RelV x u:=by
 cases r with
 |cons r1 r2=>cases r2;exact⟨_,rfl,r1⟩
def vals2{x y:V}{us:List Value}(r:Vals [x,y] us):∃u q,us=[u,q]/\RelV x u/\RelV y q:=by
 cases r with
 |cons r1 r2=>
  cases r2 with
  |cons r3 r4=>cases r4;exact⟨_,_,rfl,r1,r3⟩
def Wa(hc:X.calm=true):jz X (.builtin "max") (λxs H Q=>∃i j,xs=[.int i,.int j]/\Q (.int (if j>i then j else i)) H):=by
 intro pins s σ H xs us Q I r h;obtain⟨i,j,rfl,q⟩:=h;obtain⟨u,w',rfl,⟨t,rfl⟩,⟨t',rfl⟩⟩:=vals2 r;refine max_two_ints (I.ok.hd hc) λh' tk k=>⟨_,H,I.kept k,?_,q⟩;by_cases z:j>i
 ·rw[z8 z,z8 z];exact⟨_,rfl⟩
 ·rw[z4 z,z4 z];exact⟨_,rfl⟩
def VB(hc:X.calm=true):jz X (.builtin "min") (λxs H Q=>∃i j,xs=[.int i,.int j]/\Q (.int (if j<i then j else i)) H):=by
 intro pins s σ H xs us Q I r h;obtain⟨i,j,rfl,q⟩:=h;obtain⟨u,w',rfl,⟨t,rfl⟩,⟨t',rfl⟩⟩:=vals2 r;refine min_two_ints (I.ok.hd hc) λh' tk k=>⟨_,H,I.kept k,?_,q⟩;by_cases z:j<i
 ·rw[z8 z,z8 z];exact⟨_,rfl⟩
 ·rw[z4 z,z4 z];exact⟨_,rfl⟩
end
end L2
namespace L2
open PySem PySem.Spec PyProof.Rows
structure adF(h:Heap)(x dx C:Addr)(mA:Str->Option Value):Prop where
 obj:h.get? x=some (PySem.W.instObj C dx)
 ns:h.Ns1 dx mA
 ne:dx≠x
def Wy{h:Heap}{dx:Addr}{mA:Str->Option Value}(n:h.Ns1 dx mA):∃od,h.get? dx=some od/\∀name,PySem.W.lookIn name od=some (mA name):=by
 obtain⟨o,es,ep,ho,hd,hk,_,hm⟩:=n;refine⟨o,ho,λname=>?_⟩;have e:=hm name;unfold nsFind findBy at e;rw[<-Array.find?_toList]at e;unfold PySem.W.lookIn;rw[hd];dsimp only;split
 ·rename_i y q
  rw[q]at e;exact congrArg some e
 ·rename_i q
  rw[q]at e
  have a:es.toList.any (·.refKey)=false:=by
   rw[List.any_eq_false];intro y hy;obtain⟨z,t,aa⟩:=hk y (Array.mem_toList_iff.mp hy);simp[DictEntry.refKey,aa]
  have a':¬es.toList.any (·.refKey)=true:=by rw[a];exact zzG
  rw[z4 a'];exact congrArg some e
def adF.look{h:Heap}{x dx C:Addr}{mA:Str->Option Value}(I:adF h x dx C mA):∃q,PySem.W.InstAt h x (PySem.W.instObj C dx) C (some q)/\∀name,PySem.W.lookIn name q=some (mA name):=
 let⟨q,ho,hl⟩:=Wy I.ns
 ⟨q,⟨I.obj,rfl,rfl,ho⟩,hl⟩
section
variable{prog:Program}{w:World}{A:Around}{E:Value->Shared->Prop}{s:Shared}{K:Fg_}{x dx C f:Addr}{mA:Str->Option Value}{name:Str}{v:Value}
def get_map{q:Bool}{Q:Value->Shared->Prop}(X:K.In s.heap)(I:adF s.heap x dx C mA)(hg:PySem.W.plainGet K C name=true)(hh:PySem.W.hasDictIn K C=true)
  (ha:PySem.W.findIn K (.ref C) name=some none) (hv:mA name=some v) (z:PySem.W.handedIn v=true) (h:Q v {s with toks:=s.toks+1}):
  wpAny (model prog w) A (getAttr (.ref x) name q) Q E s:=by
 obtain⟨od,J,hl⟩:=I.look;exact PySem.W.get_value X J (ZK hg).1 (PySem.W.findObj_own hh ha rfl (by rw[hl,hv])) z h
def aax{pl:Sem Bool}{Q:Value×List Value->Shared->Prop}(X:K.In s.heap)(I:adF s.heap x dx C mA)(q:PySem.W.plainGet K C name=true)
  (hf:PySem.W.findIn K (.ref C) name=some (some (.ref f))) (ht:PySem.W.isFn K (.ref f)=true) (z:mA name=none) (h:Q (.ref f,[.ref x]) s):
  wpAny (model prog w) A (getMethod (.ref x) name pl) Q E s:=by
 obtain⟨od,J,hl⟩:=I.look;exact PySem.W.method_fn X J (ZK q).1 (ZK q).2 hf (beq_iff_eq.mp ht) (by show(PySem.W.lookIn name od).map (·.isSome)=some false;rw[hl,z];rfl) h
def abZ{ns:List Str}{Q:Unit->Shared->Prop}(X:K.In s.heap)(I:adF s.heap x dx C mA)
  (hs:PySem.W.findIn K (.ref C) "__setattr__" =some (some (.builtin "object.__setattr__"))) (hp:PySem.W.plainOver K C=true) (ht:PySem.W.takerIn K C name=some none) (hh:PySem.W.hasDictIn K C=true)
  (hw:PySem.Within mA ns) (hsz:ns.length<=sizeLine)
  (h:∀h',adF h' x dx C (λy=>if y=name then some v else mA y)->Heap.SameBut dx s.heap h'->Q () {s with heap:=h',toks:=s.toks+2}):
  wpAny (model prog w) A (setAttr (.ref x) name v) Q E s:=by
 obtain⟨od,J,hl⟩:=I.look;refine PySem.W.set_plain X J hs (PySem.W.osa_open (s:={s with toks:=s.toks+1}) (r:=none) X J hp ht λb=>?_);obtain⟨cd,hc,ab⟩:=PySem.W.any_some hh;have hx:s.heap.get? x=some ⟨.ref C,some dx,.plain, #[]⟩:=I.obj;refine z5 (zzi (z5 (z5 (wpAny_loadPart hx (z5 (PySem.W.Looks.here (s:={s with toks:=s.toks+1}) (PySem.W.looks_clsIn X hc) ?_))))));rw[ab];refine zzi (a:=some dx) (z5 (zzi (z5 ?_)));refine wpAny_nsSet1 (s:={s with toks:=s.toks+1}) I.ns λh' q z=>?_;obtain⟨oD,ae,af,ac,ad,aa⟩:=q.count (PySem.Within.cons name v hw);refine z5 (wpAny_lookBehind ac (by rw[ad];exact pastItsLine_dict (zzK aa (by rw[zzu];omega))) ?_);exact zzi (h _ ⟨(z.2 _ (Ne.symm I.ne)).trans I.obj,q,I.ne⟩ z)
def YG{R:Result->Shared->Prop}{vs:List Value}{q:List (Str×Value)}(X:K.In s.heap)(hm:PySem.W.makesIn K C=true)
  (hi:PySem.W.findIn K (.ref C) "__init__" =some (some (.ref f))) (z:PySem.W.typeIn K (.ref f)=some (.type "function"))
  (h:codeAny (model prog w) (A.under (.builtin "type.__call__" ⟨.ref C::vs,q⟩)) (.call (.ref f) ⟨.ref (s.heap.objs.size+1)::vs,q⟩) (PySem.W.InitBack (s.heap.objs.size+1) R)
   {s with heap:=(s.heap.push PySem.W.emptyDict).push (PySem.W.instObj C s.heap.objs.size)}):
  codeAny (model prog w) A (.call (.ref C) ⟨vs,q⟩) R s:=by
 obtain⟨hh,g,d,t,os⟩:=s;exact PySem.W.make_core (Ya3 X hm) (PySem.W.looks_findIn X hi) (λself=>PySem.W.bind_fn X self z) (.inl rfl) h
def Xy{R:Result->Shared->Prop}(X:K.In s.heap)(hm:PySem.W.makesIn K C=true)
  (hi:PySem.W.findIn K (.ref C) "__init__" =some (some (.builtin "object.__init__")))
  (q:∀self,PySem.W.Looks (model prog w) s.heap (bindSpecial (.builtin "object.__init__") self) (.builtin "object.__init__",[self]))
  (h:codeAny (model prog w) (A.under (.builtin "type.__call__" ⟨[.ref C],[]⟩)) (.call (.builtin "object.__init__") ⟨[.ref (s.heap.objs.size+1)],[]⟩) (PySem.W.InitBack (s.heap.objs.size+1) R)
   {s with heap:=(s.heap.push PySem.W.emptyDict).push (PySem.W.instObj C s.heap.objs.size)}):
  codeAny (model prog w) A (.call (.ref C) ⟨[],[]⟩) R s:=by
 obtain⟨z,g,d,t,os⟩:=s;exact PySem.W.make_core (Ya3 X hm) (PySem.W.looks_findIn X hi) q (.inr ⟨rfl,rfl⟩) h
end
noncomputable def Az(f:Str)(v:V):List (Str×V)->List (Str×V)
 |[]=>[(f,v)]
 |(g,x)::r=>if g=f then(g,v)::r else(g,x)::Az f v r
theorem Ea(f g:Str)(v:V):∀fs:List (Str×V),(Az f v fs).lookup g=if g=f then some v else fs.lookup g
 |[]=>by
  show List.lookup g [(f,v)]=_;by_cases h:g=f
  ·have q:(g==f)=true:=beq_iff_eq.mpr h
   simp only[List.lookup,q,z8 h]
  ·have q:(g==f)=false:=beq_eq_false_iff_ne.mpr h
   simp only[List.lookup,q,z4 h]
 |(k,x)::r=>by
  have ih:=Ea f g v r;rw[show Az f v ((k,x)::r)=(if k=f then(k,v)::r else(k,x)::Az f v r)from rfl];by_cases z:k=f
  ·rw[z8 z]
   by_cases h:g=k
   ·have q:(g==k)=true:=beq_iff_eq.mpr h
    simp only[List.lookup,q,z8 (h.trans z)]
   ·have q:(g==k)=false:=beq_eq_false_iff_ne.mpr h
    simp only[List.lookup,q,z4 (λe:g=f=>h (e.trans z.symm))]
  ·rw[z4 z]
   by_cases h:g=k
   ·have q:(g==k)=true:=beq_iff_eq.mpr h
    simp only[List.lookup,q,z4 (λe:g=f=>z (h.symm.trans e))]
   ·have q:(g==k)=false:=beq_eq_false_iff_ne.mpr h
    simp only[List.lookup,q];exact ih
theorem DP(f:Str)(v:V):∀fs:List (Str×V),f∈(Az f v fs).map (·.1)/\∀g,g∈fs.map (·.1)->g∈(Az f v fs).map (·.1)
 |[]=>⟨by simp[Az],λg h=>by simp at h⟩
 |(k,x)::r=>by
  obtain⟨z,i2⟩:=DP f v r;rw[show Az f v ((k,x)::r)=(if k=f then(k,v)::r else(k,x)::Az f v r)from rfl];by_cases q:k=f
  ·rw[z8 q]
   subst q;exact⟨by simp,λg h=>by simpa using h⟩
  ·rw[z4 q]
   refine⟨?_,λg h=>?_⟩
   ·rw[z6]
    exact zzh _ z
   ·rw[z6]at h⊢
    rcases zzb.mp h with e|e
    ·exact zzb.mpr (.inl e)
    ·exact zzh _ (i2 g e)
theorem Dr(f:Str)(v:V):∀fs:List (Str×V),(Az f v fs).length<=fs.length+1
 |[]=>by simp[Az]
 |(k,x)::r=>by
  have z:=Dr f v r;rw[show Az f v ((k,x)::r)=(if k=f then(k,v)::r else(k,x)::Az f v r)from rfl];by_cases q:k=f
  ·rw[z8 q,zzu,zzu];omega
  ·rw[z4 q,zzu,zzu];omega
def Gj.some_of{v:V}{o:Option Value}(r:Gj (some v) o):∃u,o=some u/\RelV v u:=by
 cases o with
 |none=>exact(show False from r).elim
 |some u=>exact⟨u,rfl,r⟩
def Gj.none_of{o:Option Value}(r:Gj none o):o=none:=by
 cases o with
 |none=>rfl
 |some u=>exact(show False from r).elim
def Vz{v:V}{u:Value}(r:RelV v u):PySem.W.handedIn u=true:=by
 cases v with
 |non=>cases (show u=Value.none from r);rfl
 |bl b=>cases (show u=Value.bool b from r);rfl
 |int i=>obtain⟨t,e⟩:=(show∃t,u=Value.int i t from r);cases e;rfl
 |str x=>obtain⟨t,e⟩:=(show∃t,u=Value.str x t from r);cases e;rfl
 |byt b=>obtain⟨t,e⟩:=(show∃t,u=Value.bytes b t from r);cases e;rfl
 |flt b=>obtain⟨t,e⟩:=(show∃t,u=Value.float b t from r);cases e;rfl
 |ref a=>cases (show u=Value.ref a from r);rfl
 |ty n=>cases (show u=Value.type n from r);rfl
section
variable{P:Program}{w:World}{H H':Hp}{h h':Heap}{a C dx:Addr}{fs fs':List (Str×V)}
def JN(hok:HOk P w H h)(e:H a=some (.ins C dx fs)):∃mA,adF h a dx C mA/\(∀f,Gj (fs.lookup f) (mA f))/\PySem.Within mA (fs.map (·.1))/\fs.length<=1000/\H dx=some (.own a):=by
 obtain⟨d,z,ne,ob,mA,n,r,q⟩:=(show iJ P w H h a (.ins C dx fs)from hok a _ e);exact⟨mA,⟨ob,n,ne⟩,r,q,z,d⟩
end
structure Cls(K:Fg_)(C:Addr):Prop where
 pg:PySem.W.plainGet K C Str.empty=true
 hd:PySem.W.hasDictIn K C=true
 po:PySem.W.plainOver K C=true
 sa:PySem.W.findIn K (.ref C) "__setattr__" =some (some (.builtin "object.__setattr__"))
def Cls.get{K:Fg_}{C:Addr}(c:Cls K C)(f:Str):PySem.W.plainGet K C f=true:=c.pg
noncomputable def fW(K:Fg_)(C:Addr)(f:Str):Prop:=PySem.W.findIn K (.ref C) f=some none
def fW.taker{K:Fg_}{C:Addr}{f:Str}(n:fW K C f):PySem.W.takerIn K C f=some none:=by
 unfold PySem.W.takerIn;rw[show PySem.W.findIn K (.ref C) f=some none from n];rfl
structure Con(K:Fg_)(C:Addr)(f:Str)(v:V)(u:Value):Prop where
 at_:PySem.W.findIn K (.ref C) f=some (some u)
 rel:RelV v u
 get:PySem.W.specialIn K u "__get__" =some none
 cp:PySem.W.copiedNames.contains f=false
structure Meth(K:Fg_)(C:Addr)(m:Str)(f:Addr):Prop where
 at_:PySem.W.findIn K (.ref C) m=some (some (.ref f))
 fn:PySem.W.isFn K (.ref f)=true
 kp:PySem.W.keepIn K (.ref f)=true
section
variable{X:Cx}{pins:List (Addr×Obj)}{σ:St}{H:Hp}{s:Shared}{a C dx:Addr}{fs:List (Str×V)}{f:Str}{v:V}{A:Around}{E:Value->Shared->Prop}
def Um{b:Bool}{Q:Value->Shared->Prop}(I:Inv X pins σ H s)(e:H a=some (.ins C dx fs))(c:Cls X.K C)(n:fW X.K C f)(l:fs.lookup f=some v)
  (h:∀u s',Inv X pins σ H s'->RelV v u->Q u s'):wpAny (model X.prog X.w) A (getAttr (.ref a) f b) Q E s:=by
 obtain⟨mA,O,r,_,_,_⟩:=JN I.hok e;obtain⟨u,z,q⟩:=Gj.some_of (v:=v) (o:=mA f) (by rw[<-l];exact r f);exact get_map I.kIn O (c.get f) c.hd n z (Vz q) (h u _ (I.tok _) q)
def HY{m:Str}{g:Addr}{pl:Sem Bool}{Q:Value×List Value->Shared->Prop}(I:Inv X pins σ H s)(e:H a=some (.ins C dx fs))(c:Cls X.K C)(k:Meth X.K C m g)(l:fs.lookup m=none)
  (h:Q (.ref g,[.ref a]) s):wpAny (model X.prog X.w) A (getMethod (.ref a) m pl) Q E s:=by
 obtain⟨mA,O,r,_,_,_⟩:=JN I.hok e;have hn:mA m=none:=Gj.none_of (by rw[<-l];exact r m);exact aax I.kIn O (c.get m) k.at_ k.fn hn h
def Sw{y:V}{u:Value}{Q:Unit->Shared->Prop}(I:Inv X pins σ H s)(e:H a=some (.ins C dx fs))(c:Cls X.K C)(n:fW X.K C f)(hl:fs.length<1000)(ry:RelV y u)
  (h:∀s',Inv X pins σ (upd H a (.ins C dx (Az f y fs))) s'->Q () s'):wpAny (model X.prog X.w) A (setAttr (.ref a) f u) Q E s:=by
 obtain⟨mA,O,r,wi,_,ho⟩:=JN I.hok e;have hz:(fs.map (·.1)).length<=sizeLine:=by rw[z0,zzk];omega
 refine abZ I.kIn O c.sa c.po n.taker c.hd wi hz λh' O' sb=>h _ ?_;have hd:∃o,h'.get? dx=some o:=let⟨o,_,_,e',_⟩:=O'.ns;⟨o,e'⟩
 refine I.write (x:=a) (e:=dx) (by rw[e];exact True.intro) (.inr ho) (λb q hb z=>(sb.2 b hb).trans z) hd ?_;refine⟨by rw[fC O.ne];exact ho,?_,O.ne,O'.obj,_,O'.ns,λg=>?_,λg hg=>?_⟩
 ·have:=Dr f y fs;omega
 ·show Gj ((Az f y fs).lookup g) (if g=f then some u else mA g)
  rw[Ea];by_cases q:g=f
  ·rw[z8 q,z8 q];exact ry
  ·rw[z4 q,z4 q];exact r g
 ·by_cases q:g=f
  ·rw[q];exact(DP f y fs).1
  ·refine(DP f y fs).2 g (wi g λz=>hg ?_)
   show(if g=f then some u else mA g)=none;rw[z4 q];exact z
def Inv.made(I:Inv X pins σ H s):Inv X pins σ (upd (upd H s.heap.objs.size (.own (s.heap.objs.size+1))) (s.heap.objs.size+1) (.ins C s.heap.objs.size []))
  {s with heap:=(s.heap.push PySem.W.emptyDict).push (PySem.W.instObj C s.heap.objs.size)}:=by
 have z:(s.heap.push PySem.W.emptyDict).get? s.heap.objs.size=some PySem.W.emptyDict:=zzo s.heap rfl
 have e2:((s.heap.push PySem.W.emptyDict).push (PySem.W.instObj C s.heap.objs.size)).get? (s.heap.objs.size+1)=some (PySem.W.instObj C s.heap.objs.size):=by
  have:=zzo (s.heap.push PySem.W.emptyDict) (o:=PySem.W.instObj C s.heap.objs.size) rfl
  rwa [Zq]at this
 have e3:(s.heap.push PySem.W.emptyDict).Ns s.heap.objs.size (λ_=>none):=⟨PySem.W.emptyDict, #[],_,z,rfl,(λe he=>absurd he (by simp)),λ_=>rfl⟩;have I1:=I.laid (a:=s.heap.objs.size) (o:=.own (s.heap.objs.size+1)) (h':=s.heap.push PySem.W.emptyDict) (t':=s.toks) (λb u q=>z7 _ q) (zzc _) ⟨_,z⟩;refine I1.laid (a:=s.heap.objs.size+1) (o:=.ins C s.heap.objs.size []) (t':=s.toks) (λb u q=>z7 _ q) (Ya8 (Zq _ _)) ?_;have ne:s.heap.objs.size≠s.heap.objs.size+1:=zzv (ZA _);refine⟨by rw[fC ne,eX],zzB _,ne,e2,λ_=>none,(Heap.Ns1.of_empty e3).at λo q=>z7 _ q,λ_=>True.intro,λy hy=>absurd rfl hy⟩
def adI{prog:Program}{w:World}{env:Env}{e:Expr}{f:Str}{pos:Pos}{s:Shared}{Q:Value->Shared->Prop}(q:attributeBase e f env (eval e env)=eval e env)
  (h:wpAny (model prog w) A (eval e env) (λo z=>wpAny (model prog w) A (getAttr o f true) Q E z) E s):wpAny (model prog w) A (eval (.Attribute e f pos) env) Q E s:=
 Attribute_any_ h (by rw[arm_eval_Attribute,q])
end
noncomputable def aeS(K:Fg_)(ta:TE)(f:Str):TE:=λσ H Q=>ta σ H λx H1=>∃a C dx fs v,x=.ref a/\H1 a=some (.ins C dx fs)/\Cls K C/\fW K C f/\fs.lookup f=some v/\Q v H1
noncomputable def aey(K:Fg_)(ta tv:TE)(f:Str):TS:=λD σ H=>tv σ H λy H1=>ta σ H1 λx H2=>∃a C dx fs,x=.ref a/\H2 a=some (.ins C dx fs)/\Cls K C/\fW K C f/\fs.length<1000/\
 D.nx σ (upd H2 a (.ins C dx (Az f y fs)))
section
variable{X:Cx}{o e value:Expr}{f:Str}{pos pos' tpos:Pos}{ta tv:TE}
def aen(he:PE X e ta)(hb:attributeBase e f X.env (eval e X.env)=eval e X.env):PE X (.Attribute e f pos) (aeS X.K ta f):=by
 intro pins s σ H Q I h;refine adI hb (thn (he pins s σ H _ I h) λu s1 ⟨x,H1,I1,rx,a,C,dx,fs,v,ex,z,c,n,l,q⟩=>?_);subst ex;obtain rfl:u=Value.ref a:=rx;exact Um I1 z c n l λu' s2 I2 ru=>⟨v,H1,I2,ru,q⟩
def adT(ha:PE X o ta)(z:PE X value tv)(hs:swapsWith value (some (.Attribute o f pos')) pos.line X.env=pure false):PS X (.Assign [.Attribute o f pos'] value pos) (aey X.K ta tv f):=by
 intro pins s σ H D I h;refine plainObj_wpAny_Assign_Attribute (thn (z pins s σ H _ I h) λu s1 ⟨y,H1,I1,ry,q⟩=>thn (ha pins s1 σ H1 _ I1 q) λov s2 ⟨x,H2,I2,rx,a,C,dx,fs,ex,ea,c,n,l,q2⟩=>?_) hs;subst ex;obtain rfl:ov=Value.ref a:=rx;exact Sw I2 ea c n l ry λs3 I3=>⟨σ,_,I3,q2⟩
end
section
variable{X:Cx}{pins:List (Addr×Obj)}{σ:St}{H:Hp}{s:Shared}{A:Around}{E:Value->Shared->Prop}{Q:Value->Shared->Prop}{c:Value}{b:Bool}
inductive Gp(K:Fg_)(H:Hp):V->Value->Prop where
 |non:Gp K H .non (.type "NoneType")
 |bl (x:Bool):Gp K H (.bl x) (.type "bool")
 |int (i:Int):Gp K H (.int i) (.type "int")
 |str (x:Str):Gp K H (.str x) (.type "str")
 |flt (x:UInt64):Gp K H (.flt x) (.type "float")
 |lst {a:Addr} {xs:List V} (e:H a=some (.lst xs)):Gp K H (.ref a) (.type "list")
 |frz {a:Addr} {o:Obj} {xs:List V} (e:H a=some (.frz o (.lst xs))):Gp K H (.ref a) (.type "list")
 |tup {a:Addr} {xs:List V} (e:H a=some (.tup xs)):Gp K H (.ref a) (.type "tuple")
 |dK {a:Addr} {kvs:List (Key×V)} (e:H a=some (.dK kvs)):Gp K H (.ref a) (.type "dict")
 |dT {a:Addr} {kvs:List (List Key×V)} (e:H a=some (.dT kvs)):Gp K H (.ref a) (.type "dict")
 | ins {a C dx:Addr} {fs:List (Str×V)} (e:H a=some (.ins C dx fs)) (cl:Cls K C) (ha:PySem.W.findIn K (.ref C) "__class__" =some (some (.builtin "object.__class__")))
   (hn:PySem.W.specialIn K (.builtin "object.__class__") "__get__" =some (some (.builtin "getset_descriptor.__get__"))) (htk:PySem.W.takesIn K (.builtin "object.__class__")=some true)
   (hm:PySem.W.mroIn K C (.type "object")=some true):Gp K H (.ref a) (.ref C)
def Ni{x:V}{u t:Value}(I:Inv X pins σ H s)(rx:RelV x u)(ty:Gp X.K H x t)(e:PySem.W.kitOne X.K t c=some b)(h:∀tk,Q (.bool b) {s with toks:=tk}):
  wpAny (model X.prog X.w) A (call (.builtin "isinstance") [u,c]) Q E s:=by
 cases ty with
 |non=>cases (show u=Value.none from rx);exact yyh PySem.W.kitx_none I.kIn True.intro e (λz=>nomatch z) h
 |bl y=>cases (show u=Value.bool y from rx);exact yyh PySem.W.kitx_bool I.kIn True.intro e (λz=>nomatch z) h
 |int i=>obtain⟨t,q⟩:=(show∃t,u=Value.int i t from rx);cases q;exact yyh PySem.W.kitx_int I.kIn True.intro e (λz=>nomatch z) h
 |str y=>obtain⟨t,q⟩:=(show∃t,u=Value.str y t from rx);cases q;exact yyh PySem.W.kitx_str I.kIn True.intro e (λz=>nomatch z) h
 |flt y=>obtain⟨t,q⟩:=(show∃t,u=Value.float y t from rx);cases q;exact yyh PySem.W.kitx_float I.kIn True.intro e (λz=>nomatch z) h
 | @lst a xs ea=>
  cases (show u=Value.ref a from rx);obtain⟨_,_,n,_,h1⟩:=(show iJ X.prog X.w H s.heap a (.lst xs)from I.hok a _ ea);exact yyh PySem.W.kitx_list I.kIn ⟨_,h1,rfl⟩ e (λz=>nomatch z) h
 | @frz a ob xs ea=>
  cases (show u=Value.ref a from rx);obtain⟨_,_,_,n,_,h1⟩:=(show iJ X.prog X.w H s.heap a (.frz ob (.lst xs))from I.hok a _ ea);exact yyh PySem.W.kitx_list I.kIn ⟨_,h1,rfl⟩ e (λz=>nomatch z) h
 | @tup a xs ea=>
  cases (show u=Value.ref a from rx);obtain⟨_,_,_,p⟩:=(show iJ X.prog X.w H s.heap a (.tup xs)from I.hok a _ ea);obtain⟨o,h1,h2,_⟩:=p;exact yyh PySem.W.kitx_tuple I.kIn ⟨o,h1,h2⟩ e (λz=>nomatch z) h
 | @dK a kvs ea=>
  cases (show u=Value.ref a from rx);obtain⟨_,_,vs,_,p⟩:=(show iJ X.prog X.w H s.heap a (.dK kvs)from I.hok a _ ea);obtain⟨o,es,ep,h1,h2,_⟩:=p;exact yyh PySem.W.kitx_dict I.kIn ⟨o,h1,h2.1⟩ e (λz=>nomatch z) h
 | @dT a kvs ea=>
  cases (show u=Value.ref a from rx);obtain⟨_,_,xs,_,o,es,ep,h1,h2,_⟩:=(show iJ X.prog X.w H s.heap a (.dT kvs)from I.hok a _ ea);exact yyh PySem.W.kitx_dict I.kIn ⟨o,h1,h2.1⟩ e (λz=>nomatch z) h
 | @ins a C dx fs ea cl ha hn htk hm=>
  cases (show u=Value.ref a from rx);obtain⟨mA,O,_⟩:=JN I.hok ea;obtain⟨od,J,_⟩:=O.look;exact yyh (PySem.W.kitx_own (cl.get _) cl.hd ha hn htk hm) I.kIn J e (λz=>nomatch z) h
end
end L2
namespace L2
open PySem PySem.Spec PyProof.Rows
structure lq(k:Nat)(A:Around):Prop where
 hd:A.handled=none
 dp:A.depth+3*k+5<recursionLimit
 un:A.units+16*k+200<cLine
def lq.mono{j k:Nat}{A:Around}(r:lq k A)(h:j<=k):lq j A:=⟨r.hd,by have:=r.dp;omega,by have:=r.un;omega⟩
theorem lq.deeper{k:Nat}{A:Around}(r:lq (k+1) A)(env:Env):lq k (A.deeper env):=
 ⟨r.hd,by have:=r.dp;show A.depth+1+3*k+5<_;omega,by have:=r.un;show A.units+3+16*k+200<_;omega⟩
theorem lq.in1{k:Nat}{A:Around}(r:lq (k+1) A):lq k A.in1:=
 ⟨r.hd,by have:=r.dp;show A.depth+3*k+5<_;omega,by have:=r.un;show A.units+1+16*k+200<_;omega⟩
def Ua{A:Around}{C:Addr}{us:List Value}{q:List (Str×Value)}:(A.under (.builtin "type.__call__" ⟨.ref C::us,q⟩)).depth=A.depth+1:=by
 first|rfl|simp[Around.under,Code.weight,Code.isCreation,Code.isGuard,Code.isCaller,Code.frames,Code.isFrame,guardIds]
def Uc{A:Around}{C:Addr}{us:List Value}{q:List (Str×Value)}:(A.under (.builtin "type.__call__" ⟨.ref C::us,q⟩)).units=A.units+1:=by
 first|rfl|simp[Around.under,Code.cUnits,Code.frames,Code.isFrame]
def lq.make{k:Nat}{A:Around}(r:lq (k+1) A)(C:Addr)(us:List Value)(q:List (Str×Value)):lq k (A.under (.builtin "type.__call__" ⟨.ref C::us,q⟩)):=
 ⟨r.hd,by have:=r.dp;rw[Ua];omega,by have:=r.un;rw[Uc];omega⟩
theorem lq.depth{k:Nat}{A:Around}(r:lq k A):A.depth<recursionLimit:=by have:=r.dp;omega
theorem lq.units{k:Nat}{A:Around}(r:lq k A):A.units+64<cLine:=by have:=r.un;omega
def lq.units0{k:Nat}{A:Around}(r:lq k A):A.units<cLine:=by have:=r.un;omega
noncomputable def VL:TA:=λ_ H Q=>Q [] H
noncomputable def Br(ta:TE)(tr:TA):TA:=λσ H Q=>ta σ H λx H1=>tr σ H1 λxs H2=>Q (x::xs) H2
section
variable{X:Cx}{e:Expr}{es:List Expr}{te:TE}{t:TA}{pos:Pos}
def eV:PA X [] VL:=λ_ _ _ _ H Q I h=>Calls.spliced_nil ⟨[],H,I,.nil,h⟩
def eQ(ha:PE X e te)(hr:PA X es t)(hs:starEach (e::es) X.env=(false,eval e X.env)::starEach es X.env:=by rfl):PA X (e::es) (Br te t):=by
 intro pos pins s σ H Q I h;rw[hs];show wpAny _ _ (spliced ((false,eval e X.env)::backTo pos (starEach es X.env))) _ _ s;refine Calls.spliced_cons (thn (ha pins s σ H _ I h) λu s1 ⟨x,H1,I1,z,q1⟩=>?_);exact thn (hr pos pins s1 σ H1 _ I1 q1) λus s2 ⟨xs,H2,q,r2,q2⟩=>⟨x::xs,H2,q,.cons z r2,q2⟩
noncomputable def agn(t:TA):TE:=λσ H Q=>t σ H λxs H1=>xs.length<=sizeLine/\∀p,H1 p=none->Q (.ref p) (upd H1 p (.tup xs))
noncomputable def ags(t:TA):TE:=λσ H Q=>t σ H λxs H1=>xs.length<=sizeLine/\∀p,H1 p=none->Q (.ref p) (upd H1 p (.lst xs))
def jQ{x1}(h:PA X es t):PE X (.Tuple es x1 pos) (agn t):=by
 intro pins s σ H Q I hq;refine wpAny_Tuple_spliced (thn (h pos pins s σ H _ I hq) λus s1 ⟨xs,H1,I1,r,z,q⟩=>⟨by rw[<-r.length];exact z,?_⟩);have hf:H1 s1.heap.objs.size=none:=I1.hok.fresh (zzc _);refine⟨.ref s1.heap.objs.size,upd H1 s1.heap.objs.size (.tup xs),I1.laid (t':=s1.toks) (λb u e=>z7 _ e) (zzc _) ?_,rfl,q _ hf⟩;exact⟨z,us,r,⟨_,zzo _ rfl,rfl,_,rfl⟩⟩
def jc(h:PA X es t):PE X (.List es pos) (ags t):=by
 intro pins s σ H Q I hq;refine wpAny_List_spliced (thn (h pos pins s σ H _ I hq) λus s1 ⟨xs,H1,I1,r,z,q⟩=>⟨by rw[<-r.length];exact z,?_⟩);have hf:H1 s1.heap.objs.size=none:=I1.hok.fresh (zzc _);refine⟨.ref s1.heap.objs.size,upd H1 s1.heap.objs.size (.lst xs),I1.laid (t':=s1.toks) (λb u e=>z7 _ e) (zzc _) ?_,rfl,q _ hf⟩;exact⟨z,us,0,r,zzo _ rfl⟩
end
abbrev Sp:=List V->Hp->VK->XK->Prop
abbrev CXT:=List Env->Hp->Shared->XK->Value->Shared->Prop
structure Yj(P:Program)(w:World)(K:Fg_)(mg:Str->Option Value)(base:Heap)(A:Around)(outer:List Env)(s:Shared)(H:Hp):Prop where
 frames:A.frames=some outer
 mod:Mod K mg base
 bs:∀b o,base.get? b=some o->s.heap.get? b=some o/\H b=none
 bsz:base.objs.size<=s.heap.objs.size
 funs:s.heap.FunFrames base outer
 frf:∀b∈frs outer,H b=none
 hok:HOk P w H s.heap
 bare:AllBare s.gens
noncomputable def CE(outer:List Env)(P:Program)(w:World)(H:Hp)(s:Shared)(Q:VK)(u:Value)(s':Shared):Prop:=
 ∃v H',s'.os=s.os/\AllBare s'.gens/\Un (frs outer) [] H H' s.heap s'.heap/\HOk P w H' s'.heap/\RelV v u/\Q v H'
noncomputable def CR(CX:CXT)(outer:List Env)(P:Program)(w:World)(H:Hp)(s:Shared)(Q:VK)(E:XK)(r:Result)(s':Shared):Prop:=
 match r with
 |.ok (.ret u)=>CE outer P w H s Q u s'
 |.ok _=>False
 |.error e=>CX outer H s E e s'
structure gJ(P:Program)(w:World)(K:Fg_)(mg:Str->Option Value)(base:Heap)(CX:CXT)(k:Nat)(f:Addr)(fd:FuncData)(ps:List Str)(sp:Sp):Prop where
 len:∀vs H Q E,sp vs H Q E->vs.length=ps.length
 run:∀(A:Around)(outer:List Env)(s:Shared)(H:Hp)(args:Args)(us:List Value)(vs:List V)(Q:VK)(E:XK),lq k A->Yj P w K mg base A outer s H->BindsTo s fd args (ps.zip us)->Vals vs us->sp vs H Q E->
  codeAny (model P w) A (.call (.ref f) args) (CR CX outer P w H s Q E) s
def Yj.make{P:Program}{w:World}{K:Fg_}{mg:Str->Option Value}{base:Heap}{A:Around}{outer:List Env}{s:Shared}{H:Hp}(e:Yj P w K mg base A outer s H)(C:Addr)(us:List Value)(q:List (Str×Value)):
  Yj P w K mg base (A.under (.builtin "type.__call__" ⟨.ref C::us,q⟩)) outer s H:=⟨by first|exact e.frames|(simpa [Around.under,Code.envs,Code.isFrame,pushEnvs] using e.frames),e.mod,e.bs,e.bsz,e.funs,e.frf,e.hok,e.bare⟩
theorem Yj.in1{P:Program}{w:World}{K:Fg_}{mg:Str->Option Value}{base:Heap}{A:Around}{outer:List Env}{s:Shared}{H:Hp}(e:Yj P w K mg base A outer s H):
  Yj P w K mg base A.in1 outer s H:=⟨e.frames,e.mod,e.bs,e.bsz,e.funs,e.frf,e.hok,e.bare⟩
section
variable{X:Cx}{pins:List (Addr×Obj)}{σ:St}{H:Hp}{s s':Shared}
def Inv.env0(I:Inv X pins σ H s):Yj X.prog X.w X.K X.mg X.base X.A X.stack s H:=
 ⟨I.ok.frames,I.ok.mod,I.bs,zzK I.ok.bsz I.sz,I.stack,I.stkFree,I.hok,I.bare⟩
def Inv.after{Q:VK}{u:Value}(I:Inv X pins σ H s)(h:CE X.stack X.prog X.w H s Q u s'):EP X pins σ Q u s':=by
 obtain⟨v,H',os,bare,un,hok,r,q⟩:=h;obtain⟨hh,g,d,t,aa⟩:=s';obtain rfl:aa=s.os:=os;exact⟨v,H',I.call (h':=hh) (g':=g) (d':=d) (t':=t) (ch:=[]) un hok bare (λb z=>absurd z (by simp)),r,q⟩
end
noncomputable def Yq(sp:Sp)(dvs:List V)(E:XK)(t:TA):TE:=λσ H Q=>t σ H λvs H1=>sp (vs++dvs) H1 Q E
noncomputable def aeL(C:Addr)(sp:Sp)(dvs:List V)(E:XK)(t:TA):TE:=λσ H Q=>t σ H λvs H1=>∀x dx,H1 x=none->H1 dx=none->dx≠x->
 sp (.ref x::(vs++dvs)) (upd (upd H1 dx (.own x)) x (.ins C dx [])) (λv H2=>v=.non/\Q (.ref x) H2) E
noncomputable def Binds(K:Fg_)(fd:FuncData)(ps:List Str)(ds:List Value):Prop:=
 ∀(s:Shared)(us:List Value),K.In s.heap->(us++ds).length=ps.length->BindsTo s fd ⟨us,[]⟩ (ps.zip (us++ds))
def Binds.all{K:Fg_}{fd:FuncData}{ps:List Str}(h:∀us:List Value,us.length=ps.length->bindArgs fd ⟨us,[]⟩=pure (ps.zip us)):Binds K fd ps []:=λs us _ q=>by
 rw[zz4]at q⊢;exact .of_eq (h us q)
noncomputable def qJ(CX:CXT)(X:Cx)(E:XK):Prop:=∀(pins:List (Addr×Obj))(σ:St)(H:Hp)(s:Shared)(e:Value)(s':Shared),Inv X pins σ H s->CX X.stack H s E e s'->X.xe e s'
section
variable{X:Cx}{CX:CXT}{k:Nat}{f C:Addr}{fd:FuncData}{ps:List Str}{sp:Sp}{dvs:List V}{ds:List Value}{E:XK}{x m:Str}{p pos apos:Pos}{e o:Expr}{es:List Expr}{ta:TE}{t:TA}
def RN{pins:List (Addr×Obj)}{σ:St}{H:Hp}{s:Shared}{Q:VK}{us:List Value}{vs:List V}(F:gJ X.prog X.w X.K X.mg X.base CX k f fd ps sp)(hr:lq k X.A)(hb:Binds X.K fd ps ds)(hd:Vals dvs ds)(hx:qJ CX X E)
  (I:Inv X pins σ H s) (r:Vals vs us) (h:sp (vs++dvs) H Q E):wpAny (model X.prog X.w) X.A (call (.ref f) us) (EP X pins σ Q) X.xe s:=by
 have z:Vals (vs++dvs) (us++ds):=r.append hd;have hl:(us++ds).length=ps.length:=by rw[<-z.length];exact F.len _ _ _ _ h
 refine ZR (codeAny_mono (F.run X.A X.stack s H ⟨us,[]⟩ (us++ds) (vs++dvs) Q E hr I.env0 (hb s us I.kIn hl) z h) λr s' q=>?_)
 cases r with
 |error e=>exact hx pins σ H s e s' I q
 |ok fl=>
  cases fl with
  |ret u=>exact I.after q
  |next=>exact False.elim q
  |brk=>exact False.elim q
  |cont=>exact False.elim q
def acV(F:gJ X.prog X.w X.K X.mg X.base CX k f fd ps sp)(hr:lq k X.A)(hg:Gl X x)(hm:X.mg x=some (.ref f))(hk:PySem.W.keepIn X.K (.ref f)=true)(hb:Binds X.K fd ps ds)(hd:Vals dvs ds)(hx:qJ CX X E)
  (ha:PA X (e::es) t) (z:(x==("__debug__" :Str))=false:=by decide) (he:starEach (e::es) X.env=(false,eval e X.env)::starEach es X.env:=by rfl) (hpl:(backTo pos (starEach es X.env)).any (·.1)=false:=by rfl):
  PE X (.Call (.Name x p) (e::es) [] pos) (Yq sp dvs E t):=by
 intro pins s σ H Q I h;refine zz2 (Ej I hg hm ?_ z);refine Zk (h₀:=X.base) I.ok.mod.kin hk (thn (ha pos pins s σ H _ I h) λus s1 ⟨vs,H1,I1,r,q⟩=>⟨I1.kIn,?_⟩) he hpl;exact RN F hr hb hd hx I1 r q
structure Mk(K:Fg_)(C f:Addr):Prop where
 makes:PySem.W.makesIn K C=true
 init:PySem.W.findIn K (.ref C) "__init__" =some (some (.ref f))
 fn:PySem.W.isFn K (.ref f)=true
 kp:PySem.W.keepIn K (.ref C)=true
def YW{pins:List (Addr×Obj)}{σ:St}{H:Hp}{s:Shared}{Q:VK}{us:List Value}{vs:List V}(M:Mk X.K C f)(F:gJ X.prog X.w X.K X.mg X.base CX k f fd ps sp)(hr:lq (k+1) X.A)(hb:Binds X.K fd ps ds)(hd:Vals dvs ds)
  (hx:qJ CX X E) (I:Inv X pins σ H s) (r:Vals vs us)
  (h:∀x dx,H x=none->H dx=none->dx≠x->sp (.ref x::(vs++dvs)) (upd (upd H dx (.own x)) x (.ins C dx [])) (λv H2=>v=.non/\Q (.ref x) H2) E):
  wpAny (model X.prog X.w) X.A (call (.ref C) us) (EP X pins σ Q) X.xe s:=by
 have hq:=h (s.heap.objs.size+1) s.heap.objs.size (I.hok.fresh (yyE _)) (I.hok.fresh (zzc _)) (zzv (ZA _));have z:=Inv.made (C:=C) I;have r2:Vals (V.ref (s.heap.objs.size+1)::(vs++dvs)) (Value.ref (s.heap.objs.size+1)::(us++ds)):=.cons rfl (r.append hd)
 have hl:(Value.ref (s.heap.objs.size+1)::us++ds).length=ps.length:=by
  have e:=r2.length;rw[F.len _ _ _ _ hq]at e;exact e.symm
 refine ZR (YG (f:=f) I.kIn M.makes M.init (beq_iff_eq.mp M.fn) (codeAny_mono (F.run _ X.stack _ _ ⟨Value.ref (s.heap.objs.size+1)::us,[]⟩ (Value.ref (s.heap.objs.size+1)::(us++ds)) _ _ E (hr.make C us [])
  (z.env0.make C us []) (hb _ (Value.ref (s.heap.objs.size+1)::us) z.kIn hl) r2 hq) λr s' q=>?_))
 cases r with
 |error e=>exact hx pins σ _ _ e s' z q
 |ok fl=>
  cases fl with
  |ret u=>
   obtain⟨v,H',I3,rv,ev,q3⟩:=z.after q;subst ev;exact⟨rv,⟨V.ref (s.heap.objs.size+1),H',I3,rfl,q3⟩⟩
  |next=>exact False.elim q
  |brk=>exact False.elim q
  |cont=>exact False.elim q
def lC(M:Mk X.K C f)(F:gJ X.prog X.w X.K X.mg X.base CX k f fd ps sp)(hr:lq (k+1) X.A)(hg:Gl X x)(hm:X.mg x=some (.ref C))(hb:Binds X.K fd ps ds)(hd:Vals dvs ds)(hx:qJ CX X E)
  (ha:PA X (e::es) t) (z:(x==("__debug__" :Str))=false:=by decide) (he:starEach (e::es) X.env=(false,eval e X.env)::starEach es X.env:=by rfl) (hpl:(backTo pos (starEach es X.env)).any (·.1)=false:=by rfl):
  PE X (.Call (.Name x p) (e::es) [] pos) (aeL C sp dvs E t):=by
 intro pins s σ H Q I h;refine zz2 (Ej I hg hm ?_ z);refine Zk (h₀:=X.base) I.ok.mod.kin M.kp (thn (ha pos pins s σ H _ I h) λus s1 ⟨vs,H1,I1,r,q⟩=>⟨I1.kIn,?_⟩) he hpl;exact YW M F hr hb hd hx I1 r q
end
noncomputable def PK(X:Cx)(kws:List Keyword)(t:TA):Prop:=
 ∀(pos:Pos)(pins:List (Addr×Obj))(s:Shared)(σ:St)(H:Hp)(Q:List V->Hp->Prop),Inv X pins σ H s->t σ H Q->wpAny (model X.prog X.w) X.A (evalAll ((backToKw pos (keywordEach kws X.env)).map (·.2))) (AP X pins σ Q) X.xe s
section
variable{X:Cx}{CX:CXT}{k:Nat}{f C:Addr}{fd:FuncData}{ps ks:List Str}{sp:Sp}{E:XK}{x m:Str}{p pos apos kpos:Pos}{e o:Expr}{es:List Expr}{kws:List Keyword}{te ta:TE}{t tk:TA}{nm:Option Str}
def abd:PK X [] VL:=λ_ _ _ _ H Q I h=>wpAny_evalAll_nil ⟨[],H,I,.nil,h⟩
def UL(ha:PE X e te)(hr:PK X kws t):PK X (⟨nm,e,kpos⟩::kws) (Br te t):=by
 intro pos pins s σ H Q I h;show wpAny _ _ (evalAll ((do let v<-eval e X.env;standAt pos;pure v)::(backToKw pos (keywordEach kws X.env)).map (·.2))) _ _ s;refine wpAny_evalAll_cons (z5 (thn (ha pins s σ H _ I h) λu s1 ⟨x,H1,I1,z,q1⟩=>z5 (wpAny_standAt (zzi ?_))));exact thn (hr pos pins s1 σ H1 _ I1 q1) λus s2 ⟨xs,H2,q,r2,q2⟩=>⟨x::xs,H2,q,.cons z r2,q2⟩
structure agr(K:Fg_)(fd:FuncData)(ps ks:List Str)(g:List Value->List Value->List Value)(gV:List V->List V->List V):Prop where
 to:∀(s:Shared)(us ws:List Value),K.In s.heap->(g us ws).length=ps.length->BindsTo s fd ⟨us,ks.zip ws⟩ (ps.zip (g us ws))
 rel:∀{vs:List V}{us:List Value}{zs:List V}{ws:List Value},Vals vs us->Vals zs ws->Vals (gV vs zs) (g us ws)
variable{g:List Value->List Value->List Value}{gV:List V->List V->List V}
end
structure fD(N P:List Str)(sc:Scope):Prop where
 kind:sc.kind=.function
 co:sc.isCoroutine=false
 gen:sc.isGenerator=false
 nd:N.Nodup
 pre:N.take P.length=P
 par:∀x∈P,sc.names.lookup x=some .local\/sc.names.lookup x=some .cell
 nofree:∀y∈sc.names,y.2≠.free
theorem Ng{q:Str->Option NameKind}{x:Str}:∀{binds:List (Str×Value)}{m:Str->Option Value},(∀v,(x,v)∉binds)->bindL q binds m x=m x
 |[],_,_=>rfl
 |(n,v)::r,m,h=>by
  unfold bindL;rw[Ng λw z=>h w (zzh _ z)];split
  ·have:x≠n:=by rintro rfl;exact h v zze
   simp[this]
  ·rfl
theorem Kd{q:Str->Option NameKind}{x:Str}:∀{binds:List (Str×Value)}{m:Str->Option Value},(∀v,(x,v)∉binds)->bindC q binds m x=m x
 |[],_,_=>rfl
 |(n,v)::r,m,h=>by
  unfold bindC;rw[Kd λw z=>h w (zzh _ z)];split
  ·rfl
  ·have:x≠n:=by rintro rfl;exact h v zze
   simp[this]
theorem Mv{q:Str->Option NameKind}{x:Str}{v:Value}:∀{P:List Str}{vs:List Value}{i:Nat}{m:Str->Option Value},P.Nodup->P[i]? =some x->vs[i]? =some v->q x=some .local->
  bindL q (P.zip vs) m x=some v
 |[],_,_,_,_,h,_,_=>by simp at h
 |_::_,[],_,_,_,_,h,_=>by simp at h
 |p::P,w::vs,0,m,nd,h1,h2,hk=>by
  simp at h1 h2;subst h1;subst h2;show bindL q ((p,w)::P.zip vs) m p=_;unfold bindL;rw[Ng λv z=>(zzw.mp nd).1 (Yb3 z).1,z8 hk];simp
 |p::P,w::vs,i+1,m,nd,h1,h2,hk=>by
  show bindL q ((p,w)::P.zip vs) m x=_;unfold bindL;exact Mv (i:=i) (zzw.mp nd).2 (by simpa using h1) (by simpa using h2) hk
theorem Kl{q:Str->Option NameKind}{x:Str}{v:Value}:∀{P:List Str}{vs:List Value}{i:Nat}{m:Str->Option Value},P.Nodup->P[i]? =some x->vs[i]? =some v->q x≠some .local->
  bindC q (P.zip vs) m x=some v
 |[],_,_,_,_,h,_,_=>by simp at h
 |_::_,[],_,_,_,_,h,_=>by simp at h
 |p::P,w::vs,0,m,nd,h1,h2,hk=>by
  simp at h1 h2;subst h1;subst h2;show bindC q ((p,w)::P.zip vs) m p=_;unfold bindC;rw[Kd λv z=>(zzw.mp nd).1 (Yb3 z).1,z4 hk];simp
 |p::P,w::vs,i+1,m,nd,h1,h2,hk=>by
  show bindC q ((p,w)::P.zip vs) m x=_;unfold bindC;exact Kl (i:=i) (zzw.mp nd).2 (by simpa using h1) (by simpa using h2) hk
noncomputable def start(N:List Str)(vs:List V):St:=vs.map some++List.replicate (N.length - vs.length) none
noncomputable def YX(CX:CXT)(P:Program)(w:World)(K:Fg_)(mg:Str->Option Value)(base:Heap)(N:List Str)(qual:Str)(scope:Scope)(f:Addr)(cd:Value)(A:Around)(outer:List Env)(s:Shared)(H:Hp)(E:XK):Cx where
 prog:=P
 w:=w
 K:=K
 mg:=mg
 base:=base
 A:=A.deeper (envOfC qual scope s.heap.objs.size f cd)
 N:=N
 s₀:=s
 H₀:=H
 env:=envOfC qual scope s.heap.objs.size f cd
 outer:=outer
 stack:=envOfC qual scope s.heap.objs.size f cd::outer
 ex:=[]
 calm:=true
 fn:=λ_=>true
 pn:=[]
 xe:=λe s'=>wpAny (model P w) (A.deeper (envOfC qual scope s.heap.objs.size f cd)) (leaving (envOfC qual scope s.heap.objs.size f cd) e) (λ_ s''=>CX outer H s E e s'') (λe' s''=>CX outer H s E e' s'') s'
def Ro{z:Scope}{n:Nat}{x:Str}(h:z.names.lookup x=some .cell):∃c,(cellsFrom n z.names []).lookup x=some c:=by
 have q:=PySem.W.cellsFrom_some z.names n [] (.inl h);exact yyO.mp q
def Vu{CX:CXT}{P:Program}{w:World}{K:Fg_}{mg:Str->Option Value}{base:Heap}{N ps:List Str}{aa:Str}{scope:Scope}{f:Addr}{cd:Value}{A:Around}{outer:List Env}{s s1:Shared}{H:Hp}{E:XK}{us:List Value}{vs:List V}
  (S:fD N ps scope) (hd:A.handled=none) (e0:Yj P w K mg base A outer s H) (hl:vs.length=ps.length) (r:Vals vs us)
  (x:InCallC s s.heap.objs.size (bindL (envOfC aa scope s.heap.objs.size f cd).kindOf (ps.zip us) λ_=>none) (cellsFrom (s.heap.objs.size+1) scope.names []) (bindC (envOfC aa scope s.heap.objs.size f cd).kindOf (ps.zip us) λ_=>none) s1):
  Inv (YX CX P w K mg base N aa scope f cd A outer s H E) [] (start N vs) H s1:=by
 have ad:ps.length<=N.length:=by have:=congrArg List.length S.pre;rw[zzR]at this;omega
 obtain⟨h1,tk,rfl,hk⟩:=x.done;have ab:∀b:Addr,b∉(YX CX P w K mg base N aa scope f cd A outer s H E).ex:=λb z=>absurd (show b∈([]:List Addr)from z) (by simp)
 refine ⟨⟨e0.mod,S.kind,rfl,rfl,zzc _,λy z c h1 h2=>?_,λy hy=>?_,λy c _ h=>?_,λ_=>hd,Around.frames_deeper e0.frames,.inr ⟨rfl,rfl⟩,λb z=>absurd z (ab b),e0.bs,e0.bsz,λb _ _=>ab b,λb z=>absurd z (ab b),e0.funs,e0.frf⟩,
  rfl,e0.bare,Un.kept hk,⟨_,x.toInCall.ns,λi y v h1 h2 h3=>?_⟩,λy c h=>⟨_,x.cell y c h⟩,e0.hok.fresh (zzc _),λy c h=>?_,λp hp=>absurd (show p∈([]:List (Addr×Obj))from hp) (by simp),e0.hok.kept hk,?_⟩
 ·exact name_of_addr x.apart (yyR h1) (yyR h2)
 ·have hy:scope.names.lookup y=some .cell\/scope.names.lookup y=some .free:=hy
  rcases hy with hy|hy
  ·exact Ro hy
  ·exact absurd rfl (S.nofree _ (yyR hy))
 ·exact Zc (x.above y c (yyR h))
 ·have hi:i<vs.length:=by
   unfold start at h2;by_cases hi:i<vs.length
   ·exact hi
   ·rw[yye (by simpa using hi)]at h2
    rw[List.getElem?_replicate]at h2;split at h2<;>cases h2
  have ha:vs[i]? =some v:=by
   unfold start at h2;rw[yyj (by simpa using hi),zzl]at h2
   cases e:vs[i]? with
   |none=>rw[e]at h2;cases h2
   |some a=>rw[e]at h2;cases h2;rfl
  obtain⟨u,hu,rv⟩:=r.get ha
  have hp:ps[i]? =some y:=by
   rw[<-S.pre,List.getElem?_take_of_lt (by omega)];exact h1
  have ac:ps.Nodup:=by rw[<-S.pre];exact S.nd.sublist (List.take_sublist _ _)
  refine⟨u,rv,?_⟩;rcases S.par y (zzp hp)with k|k
  ·exact .inl ⟨k,Mv ac hp hu k⟩
  ·obtain⟨c,e⟩:=Ro (n:=s.heap.objs.size+1) k
   refine .inr ⟨.inl k,c,e,?_⟩;have q:=x.cell y c e;rw[Kl ac hp hu (by show scope.names.lookup y≠_;rw[k];decide)]at q;exact q
 ·exact e0.hok.fresh (Zc (x.above y c (yyR h)))
 ·unfold start
  show _=N.length;rw[zzt,z0,List.length_replicate];omega
def aem{CX:CXT}{P:Program}{w:World}{K:Fg_}{mg:Str->Option Value}{base:Heap}{k:Nat}{f:Addr}{name z:Str}{ab:Arguments}{ac:List Stmt}{scope:Scope}{dV kV ag pm aa ct oc:Value}{an od:Option Addr}
  {aj:Array (Option Value)} {N ps:List Str} {sp:Sp} (lk:K.lookup f=some ⟨oc,od,.func (PySem.W.fnOf name z ab ac scope dV kV ag pm an aa ct),aj⟩) (ak:PySem.W.codeIn K aa z=true) (S:fD N ps scope)
  (len:∀vs H Q E,sp vs H Q E->vs.length=ps.length)
  (ad:∀(A:Around)(outer:List Env)(s:Shared)(H:Hp)(vs:List V)(Q:VK)(E:XK),lq k (A.deeper (envOfC z scope s.heap.objs.size f aa))->sp vs H Q E->
   ∃t,PSs (YX CX P w K mg base N z scope f aa A outer s H E) ac t/\t {nx:=λ_ H'=>Q .non H',rt:=Q} (start N vs) H):
  gJ P w K mg base CX (k+1) f (PySem.W.fnOf name z ab ac scope dV kV ag pm an aa ct) ps sp:=by
 refine⟨len,λA outer s H args us vs Q E hr e0 hb r af=>?_⟩;have hl:=len _ _ _ _ af;have KX:K.In s.heap:=e0.mod.kin.keeps λb o e=>(e0.bs b o e).1;have ai:s.heap.NoLimit:=e0.mod.nolimit.keeps λb o e=>(e0.bs b o e).1
 have ae:∀y∈ps.zip us,scope.names.lookup y.1=some .local\/(scope.names.lookup y.1=some .cell/\((cellsFrom (s.heap.objs.size+1) scope.names []).lookup y.1).isSome=true):=fun⟨n,v⟩ hy=>by
  rcases S.par n (Yb3 hy).1 with q|q
  ·exact .inl q
  ·exact .inr ⟨q,PySem.W.cellsFrom_some _ _ _ (.inl q)⟩
 refine codeAny_call_function hr.depth (KX _ _ lk) rfl S.co S.gen rfl (PySem.W.codeRec_of KX ak) (hb _ _ _ _ ?_);refine wpAny_newFunctionEnv_cells S.kind ae λenv he s1 x=>?_;subst he;refine⟨ai.keeps x.toInCall.keep,codeAny_func ?_⟩;obtain⟨t,ht,hq⟩:=ad A outer s H vs Q E (hr.deeper _) af;have I:Inv (YX CX P w K mg base N z scope f aa A outer s H E) [] (start N vs) H s1:=Vu S hr.hd e0 hl r x;refine yyg (ht [] s1 (start N vs) H _ I hq) (λfl s' hs=>?_) λe s' hs=>hs
 have ah:∀{σ':St}{H':Hp}{v:V}{u:Value},Inv (YX CX P w K mg base N z scope f aa A outer s H E) [] σ' H' s'->RelV v u->Q v H'->CE outer P w H s Q u s':=
  fun{σ' H' v u} J rv q=>⟨v,H',J.os,J.bare,J.base,J.hok,rv,q⟩
 cases fl with
 |ret u=>
  obtain⟨v,σ',H',J,rv,q⟩:=hs;exact ah J rv q
 |next=>
  obtain⟨σ',H',J,q⟩:=hs;exact ah (v:=V.non) (u:=Value.none) J rfl q
 |brk=>
  obtain⟨_,_,_,q⟩:=hs;exact False.elim q
 |cont=>
  obtain⟨_,_,_,q⟩:=hs;exact False.elim q
end L2
namespace L2
open PySem PySem.Spec PyProof.Rows
section
variable{X:Cx}{x:Str}{p pos:Pos}{e:Expr}{es:List Expr}{t:TA}{id T:String}{r:List V->Hp->VK->Prop}
noncomputable def tCB(r:List V->Hp->VK->Prop)(t:TA):TE:=λσ H Q=>t σ H λvs H1=>r vs H1 Q
def fH(z:jz X (.builtin id) r)(hg:Gl X x)(hm:X.mg x=none)(q:bootBuiltins x=some (.builtin id))(ha:PA X (e::es) t)(hn:x≠ "__name__" :=by decide) (hdb:(x==("__debug__" :Str))=false:=by decide)
  (he:starEach (e::es) X.env=(false,eval e X.env)::starEach es X.env:=by rfl) (hpl:(backTo pos (starEach es X.env)).any (·.1)=false:=by rfl):PE X (.Call (.Name x p) (e::es) [] pos) (tCB r t):=by
 intro pins s σ H Q I h;refine zz2 (oX I hg hm q ?_ hn hdb);exact PyProof.Rows.callWith_builtin1 (thn (ha pos pins s σ H _ I h) λus s1 ⟨vs,H1,I1,r1,q1⟩=>z pins s1 σ H1 vs us Q I1 r1 q1) he hpl
def iT(z:jz X (.type T) r)(hg:Gl X x)(hm:X.mg x=none)(q:bootBuiltins x=some (.type T))(ha:PA X (e::es) t)(hn:x≠ "__name__" :=by decide) (hdb:(x==("__debug__" :Str))=false:=by decide)
  (he:starEach (e::es) X.env=(false,eval e X.env)::starEach es X.env:=by rfl) (hpl:(backTo pos (starEach es X.env)).any (·.1)=false:=by rfl):PE X (.Call (.Name x p) (e::es) [] pos) (tCB r t):=by
 intro pins s σ H Q I h;refine zz2 (oX I hg hm q ?_ hn hdb);exact PyProof.Rows.callWith_type1 (thn (ha pos pins s σ H _ I h) λus s1 ⟨vs,H1,I1,r1,q1⟩=>z pins s1 σ H1 vs us Q I1 r1 q1) he hpl
end
end L2
namespace HT
open PySem PyProof.Rows
def aaN(A:Around)(s:Shared)(a:Int)(t:Tok)(c:Int)(u:Tok):∃e,SeqAt.EqAt A s (.int a t) (.int c u) e/\(e=true↔a=c):=
 ⟨(a==c),SeqAt.EqAt.int_int a t c u,by simp⟩
section
open PySem.SeqAt
open PySem.AutoSeq1 (wpAny_loadPart')
open PySem.MeetsSeq PySem.MeetsSeq2 PySem.MeetsSeq3
end
section
variable{prog:Program}{w:World}{A:Around}{E:Value->Shared->Prop}{s:Shared}
noncomputable def sIx(n d:Nat):Option Int->Nat
 |none=>d
 |some v=>if v<0 then(v+(n:Int)).toNat else min v.toNat n
def sIx_none(n d:Nat):sIx n d none=d:=rfl
def sIx_nat(n d k:Nat):sIx n d (some (k:Int))=min k n:=by
 show(if(k:Int)<0 then((k:Int)+(n:Int)).toNat else min (k:Int).toNat n)=min k n;rw[z4 (by omega),yyA]
end
end HT
namespace L2
open PySem PySem.Spec PyProof.Rows
abbrev TO:=St->Hp->(Option Int->Hp->Prop)->Prop
noncomputable def PO(X:Cx)(e:Option Expr)(t:TO):Prop:=
 ∀(pins:List (Addr×Obj)) (s:Shared) (σ:St) (H:Hp) (Q:Option Int->Hp->Prop),Inv X pins σ H s->t σ H Q->
  wpAny (model X.prog X.w) X.A (evalPart e X.env) (λu s'=>∃o H',Inv X pins σ H' s'/\IsPart u o/\Q o H') X.xe s
noncomputable def Ve:TO:=λ_ H Q=>Q none H
noncomputable def aeY(t:TE):TO:=λσ H Q=>t σ H λx H1=>∃i,x=.int i/\Q (some i) H1
def intsAre_of{ns:List Int}:∀{us:List Value},Vals (ns.map V.int) us->IntsAre us ns:=by
 induction ns with
 |nil=>intro us r;rw[Zd]at r;cases r;exact .nil
 |cons n ns ih=>
  intro us r;rw[z6]at r
  cases r with
  |cons r1 r2=>
   obtain⟨t,e⟩:=r1;subst e;exact .cons n t (ih r2)
section
variable{X:Cx}{e:Expr}{te:TE}{lo hi:Option Expr}{tl th:TO}{pos p2:Pos}
def Ol:PO X none Ve:=by
 intro pins s σ H Q I h;rw[evalPart_none];exact zzi ⟨none,H,I,.none,h⟩
def PQ(h:PE X e te):PO X (some e) (aeY te):=by
 intro pins s σ H Q I hw;rw[evalPart_some];refine thn (h pins s σ H _ I hw) λu s1 ⟨x,H1,I1,z,q1⟩=>?_;obtain⟨i,rfl,q⟩:=q1;obtain⟨t,rfl⟩:=z;exact⟨some i,H1,I1,.int i t,q⟩
noncomputable def SlR(X:Cx)(r:V->Option Int->Option Int->Hp->VK->Prop):Prop:=
 ∀(pins:List (Addr×Obj)) (s:Shared) (σ:St) (H:Hp) (x:V) (v vl vu:Value) (lo hi:Option Int) (sl:Addr) (Q:VK),Inv X pins σ H s->RelV x v->s.heap.IsSliceOf sl vl vu .none->IsPart vl lo->IsPart vu hi->r x lo hi H Q->
  ∃T id,typeLookup (.type T) "__getitem__" =pure (some (.builtin id))/\s.TypeIs v T/\wpAny (model X.prog X.w) X.A (getItem v (.ref sl)) (EP X pins σ Q) X.xe s
noncomputable def tSl(r:V->Option Int->Option Int->Hp->VK->Prop)(te:TE)(tl th:TO):TE:=λσ H Q=>te σ H λx H1=>tl σ H1 λl H2=>th σ H2 λu H3=>r x l u H3 Q
def Je{r:V->Option Int->Option Int->Hp->VK->Prop}(hr:SlR X r)(he:PE X e te)(hl:PO X lo tl)(hu:PO X hi th):PE X (.Subscript e (.Slice lo hi none p2) pos) (tSl r te tl th):=by
 intro pins s σ H Q I h;refine Subscript_ (thn (he pins s σ H _ I h) λv s1 ⟨x,H1,I1,r1,q1⟩=>?_);refine wpAny_Slice (thn (hl pins s1 σ H1 _ I1 q1) λvl s2 ⟨l,H2,I2,pl,q2⟩=>thn (hu pins s2 σ H2 _ I2 q2) λvu z ⟨u,H3,I3,pu,q3⟩=>?_);rw[evalPart_none];refine zzi ?_;have I4:Inv X pins σ H3 {z with heap:=z.heap.push {cls:=.type "slice",data:=.fields #[vl,vu,.none]}}:=I3.kept (t':=z.toks) λb ob q=>z7 _ q;obtain⟨T,id,hT,ht,hg⟩:=hr pins {z with heap:=z.heap.push {cls:=.type "slice",data:=.fields #[vl,vu,.none]}} σ H3 x v vl vu l u z.heap.objs.size Q I4 r1 (Heap.IsSliceOf.new ..) pl pu q3;show wpAny (model X.prog X.w) X.A (subscriptTail e (.Slice lo hi none p2) v (.ref z.heap.objs.size)) (EP X pins σ Q) X.xe {z with heap:=z.heap.push {cls:=.type "slice",data:=.fields #[vl,vu,.none]}};exact tail_any (ops:=[.ref z.heap.objs.size,v]) ht hT hg (by with_unfolding_all rfl)
noncomputable def Ny(xs:List V)(lo hi:Option Int):List V:=(xs.drop (HT.sIx xs.length 0 lo)).take (HT.sIx xs.length xs.length hi - HT.sIx xs.length 0 lo)
def rO(xs:List V)(lo hi:Option Int):(Ny xs lo hi).length<=xs.length:=by
 unfold Ny;rw[zzR,yyw];omega
end
end L2
namespace L2
open PySem PySem.Spec PyProof.Rows
noncomputable def ixN(n:Nat)(i:Int):Option Nat:=if 0<=i then(if i<n then some i.toNat else none)else if -(n:Int)<=i then some (i+n).toNat else none
noncomputable def atI{α:Type}(xs:List α)(i:Int):Option α:=(ixN xs.length i).bind λj=>xs[j]?
def Wn{n:Nat}{i:Int}{j:Nat}(h:ixN n i=some j):seqIndex? i n=some j/\j<n/\ -(n:Int)<=i/\i<n:=by
 unfold ixN at h;by_cases q:0<=i
 ·rw[z8 q]at h
  by_cases h1:i<n
  ·rw[z8 h1]at h
   have e:i.toNat=j:=zzq h;exact⟨by rw[seqIndex_of q h1,e],by omega,by omega,h1⟩
  ·rw[z4 h1]at h;cases h
 ·rw[z4 q]at h
  by_cases h1: -(n:Int)<=i
  ·rw[z8 h1]at h
   have e:(i+n).toNat=j:=zzq h;exact⟨by rw[seqIndex_neg (by omega) h1,e],by omega,h1,by omega⟩
  ·rw[z4 h1]at h;cases h
def Qm{α:Type}{xs:List α}{i:Int}{v:α}(h:atI xs i=some v):∃j,seqIndex? i xs.length=some j/\xs[j]? =some v/\j<xs.length/\ -(xs.length:Int)<=i/\i<xs.length:=by
 unfold atI at h
 cases e:ixN xs.length i with
 |none=>rw[e]at h;cases h
 |some j=>
  rw[e]at h;obtain⟨h1,h2,z,q⟩:=Wn e;exact⟨j,h1,h,h2,z,q⟩
def qO{α:Type}{xs:List α}{j:Nat}{v:α}(h:xs[j]? =some v):atI xs (j:Int)=some v:=by
 have q:j<xs.length:=(zzm.mp h).1
 have e:ixN xs.length (j:Int)=some j:=by
  unfold ixN;rw[z8 (by omega),z8 (by omega)];simp
 unfold atI;rw[e];exact h
def QW{α:Type}(xs:List α)(v:α):atI (xs++[v]) (-1)=some v:=by
 have q:(xs++[v]).length=xs.length+1:=by simp
 have e:ixN (xs++[v]).length (-1)=some xs.length:=by
  unfold ixN;rw[q,z4 (by decide),z8 (by omega)];congr 1;omega
 unfold atI;rw[e];show(xs++[v])[xs.length]? =some v;simp
noncomputable def acs(b:Expr):Prop:=∀o i,subscripted b false o i=operate [o,i] (getItem o i)
noncomputable def IxR(X:Cx)(r:R2):Prop:=
 ∀(value slice:Expr) (pins:List (Addr×Obj)) (s:Shared) (σ:St) (H:Hp) (x y:V) (v u:Value) (Q:VK),Inv X pins σ H s->RelV x v->RelV y u->r x y H Q->
  subscripted slice false v u=operate [v,u] (getItem v u)->wpAny (model X.prog X.w) X.A (subscriptTail value slice v u) (EP X pins σ Q) X.xe s
noncomputable def MtR(X:Cx)(id:String)(r:V->List V->Hp->VK->Prop):Prop:=
 ∀(pins:List (Addr×Obj)) (s:Shared) (σ:St) (H:Hp) (x:V) (xs:List V) (v:Value) (us:List Value) (Q:VK),Inv X pins σ H s->RelV x v->Vals xs us->r x xs H Q->
  wpAny (model X.prog X.w) X.A (call (.builtin id) (v::us)) (EP X pins σ Q) X.xe s
section
variable{X:Cx}{a b:Expr}{ta tb:TE}{pos:Pos}
def jG{r:R2}(hr:IxR X r)(ha:PE X a ta)(hb:PE X b tb)(hs:acs b):PE X (.Subscript a b pos) (tOp r ta tb):=by
 intro pins s σ H Q I h;exact Subscript_ (afT ha hb I h λv u s2 x y H2 I2 z ry q=>hr a b pins s2 σ H2 x y v u Q I2 z ry q (hs _ _))
noncomputable def aga(K:Fg_):R2:=λx y H Q=>∃p xs i v,x=.ref p/\y=.int i/\SqL K H p xs/\atI xs i=some v/\Q v H
noncomputable def afO(K:Fg_):R2:=λx y H Q=>∃p xs i v,x=.ref p/\y=.int i/\SqT K H p xs/\atI xs i=some v/\Q v H
noncomputable def agz:R2:=λx y H Q=>∃z i c,x=.str z/\y=.int i/\z.length<=sizeLine/\atI z.cps.toList i=some c/\Q (.str ⟨#[c]⟩) H
def adu:IxR X (aga X.K):=by
 intro value ac pins s σ H x y v u Q I rx ry h hs;obtain⟨p,xs,i,z,rfl,rfl,hq,he,q⟩:=h;cases rx;obtain⟨t,rfl⟩:=ry;obtain⟨its,r,pl,hz⟩:=I.list hq;obtain⟨j,h1,h2,h3,h4,h5⟩:=Qm he;obtain⟨w,ew,ab⟩:=r.get h2;have hl:=r.length;have hn:=HW;have aa:EP X pins σ Q w s:=⟨z,H,I,ab,q⟩;by_cases h0:0<=i
 ·have hj:i.toNat=j:=by
   rw[seqIndex_of h0 h5]at h1;exact zzq h1
  exact item_listR pl.isList h0 (by omega) (by rw[hj];simpa using ew) aa hs
 ·have hj:(i+(its.toArray.size:Int)).toNat=j:=by
   rw[seqIndex_neg (by omega) h4]at h1;rw[zzf,<-hl];exact zzq h1
  exact subscriptTail_builtinR (x:=w) pl.isList.typeIs slot_list_getitem.lookup
   (wpAny_getItem_list_neg (Q:=λr s'=>r=w/\EP X pins σ Q r s') pl.isList (by omega) (by rw[zzf]<;>omega) (by omega) (by rw[hj];simpa using ew) ⟨rfl,aa⟩) hs
def aeh:IxR X (afO X.K):=by
 intro value ac pins s σ H x y v u Q I rx ry h hs;obtain⟨p,xs,i,z,rfl,rfl,hq,he,q⟩:=h;cases rx;obtain⟨t,rfl⟩:=ry;obtain⟨its,r,pl,hz⟩:=I.tuple hq;obtain⟨j,h1,h2,h3,h4,h5⟩:=Qm he;obtain⟨w,ew,ab⟩:=r.get h2;have hl:=r.length;have hn:=HW;have aa:EP X pins σ Q w s:=⟨z,H,I,ab,q⟩
 exact subscriptTail_builtinR (x:=w) pl.typeIs slot_tuple_getitem.lookup
  (getItem_tuple (j:=j) (Q:=λr s'=>r=w/\EP X pins σ Q r s') pl (by omega) (by omega) (by rw[zzf,<-hl];exact h1) (by simpa using ew) ⟨rfl,aa⟩) hs
def afl:IxR X agz:=by
 intro value aa pins s σ H x y v u Q I rx ry h hs;obtain⟨z,i,c,rfl,rfl,hz,he,q⟩:=h;obtain⟨t,rfl⟩:=rx;obtain⟨t',rfl⟩:=ry;obtain⟨j,h1,h2,h3,h4,h5⟩:=Qm he;have hl:z.cps.toList.length=z.length:=by simp[Str.length]
 rw[hl]at h1 h4 h5;have hn:=HW
 exact tail_any (typeIs_str s z t) slot_str_getitem.lookup (getItem_str (c:=c) (by
  have e1:decide (i< -(2^63:Int))=false:=zzH (by omega);have e2:decide (i>=2^63)=false:=zzH (by omega);rw[e1,e2,Bool.or_false]) (by rw[h1];simpa using h2) ⟨.str ⟨#[c]⟩,H,I.tok _,⟨_,rfl⟩,q⟩) hs
theorem Inv.lst{pins:List (Addr×Obj)}{σ:St}{H:Hp}{s:Shared}{p:Addr}{xs:List V}(I:Inv X pins σ H s)(h:H p=some (.lst xs)):
  ∃(its:List Value)(n:Nat),Vals xs its/\s.heap.get? p=some {cls:=.type "list",data:=.seq its.toArray n}/\xs.length<=sizeLine:=by
 obtain⟨z,its,n,r,e⟩:=I.hok p _ h;exact⟨its,n,r,e,z⟩
def Kp(lo hi:Option Int)(n:Nat):(sliceBounds lo hi none n).1=((HT.sIx n 0 lo:Nat):Int)/\(sliceBounds lo hi none n).2.1=((HT.sIx n n hi:Nat):Int)/\(sliceBounds lo hi none n).2.2=1:=by
 refine⟨?_,?_,rfl⟩
 ·cases lo with
  |none=>simp[sliceBounds,HT.sIx]
  |some i=>
   simp only[sliceBounds,HT.sIx,Option.getD_none,show(1:Int)>0 by decide,if_true];by_cases h:i<0
   ·simp only[h,if_true]<;>omega
   ·simp only[h,if_false]<;>omega
 ·cases hi with
  |none=>simp[sliceBounds,HT.sIx]
  |some i=>
   simp only[sliceBounds,HT.sIx,Option.getD_none,show(1:Int)>0 by decide,if_true];by_cases h:i<0
   ·simp only[h,if_true]<;>omega
   ·simp only[h,if_false]<;>omega
def Jv(its:List Value)(lo hi:Option Int):slicePick its.toArray lo hi none=((its.drop (HT.sIx its.length 0 lo)).take (HT.sIx its.length its.length hi - HT.sIx its.length 0 lo)).toArray:=by
 obtain⟨h1,h2,q⟩:=Kp lo hi its.toArray.size;unfold slicePick;rw[h1,h2,q];simp only[sliceRange_one,pick_run,zzf]<;>rfl
noncomputable def afN(K:Fg_):V->Option Int->Option Int->Hp->VK->Prop:=λx lo hi H Q=>∃a xs,x=.ref a/\SqL K H a xs/\∀p,H p=none->Q (.ref p) (upd H p (.lst (Ny xs lo hi)))
def acv:SlR X (afN X.K):=by
 intro pins s σ H x v vl vu lo hi sl Q I rx hs pl pu h;obtain⟨a,xs,rfl,hx,q⟩:=h;cases rx;obtain⟨its,r,ht,hz⟩:=I.list hx;have z:=r.length;refine⟨"list",_,slot_list_getitem.lookup,ht.isList.typeIs,?_⟩;refine wpAny_getItem_list_slice ht.isList hs pl pu .none (by simp) ?_ (by rw[zzf]<;>omega);rw[Jv,<-z];refine⟨.ref s.heap.objs.size,_,I.laid (t':=s.toks) (o:=.lst (Ny xs lo hi)) (λb ob q=>z7 _ q) (zzc _) ?_,rfl,q _ (I.hok.fresh (zzc _))⟩;exact⟨zzK (rO xs lo hi) hz,_,0,(r.drop (HT.sIx xs.length 0 lo)).take (HT.sIx xs.length xs.length hi - HT.sIx xs.length 0 lo),zzo _ rfl⟩
def LC:jz X (.builtin "len") (λxs H Q=>∃p ys,xs=[.ref p]/\(SqL X.K H p ys\/SqT X.K H p ys)/\Q (.int ys.length) H):=by
 intro pins s σ H xs us Q I r h;obtain⟨p,ys,rfl,hq,q⟩:=h;obtain⟨u,rfl,rx⟩:=vals1 r;cases rx;have hn:=HW;rcases hq with hq|hq
 ·obtain⟨its,r',pl,hz⟩:=I.list hq
  have z:=r'.length;exact Calls.call_len_list pl.isList (by simp only[zzf]<;>omega) ⟨.int ys.length,H,I.tok _,⟨s.toks+1,by rw[zzf,z]⟩,q⟩
 ·obtain⟨its,r',pl,hz⟩:=I.tuple hq
  have z:=r'.length;exact len_tuple pl (by simp only[zzf]<;>omega) ⟨.int ys.length,H,I.tok _,⟨s.toks+1,by rw[zzf,z]⟩,q⟩
def Ba:jz X (.builtin "len") (λxs H Q=>∃z,xs=[.str z]/\z.length<=sizeLine/\Q (.int z.length) H):=by
 intro pins s σ H xs us Q I r h;obtain⟨z,rfl,hz,q⟩:=h;obtain⟨u,rfl,t,rfl⟩:=vals1 r;have hn:=HW;exact len_str (by omega) ⟨.int z.length,H,I.tok _,⟨_,rfl⟩,q⟩
def LQ:jz X (.type "list") (λxs H Q=>∃p ys,xs=[.ref p]/\(SqL X.K H p ys\/SqT X.K H p ys)/\∀l,H l=none->Q (.ref l) (upd H l (.lst ys))):=by
 intro pins s σ H xs us Q I r h;obtain⟨p,ys,rfl,hq,q⟩:=h;obtain⟨u,rfl,rx⟩:=vals1 r;cases rx
 have aa:∀(its:List Value),Vals ys its->ys.length<=sizeLine->∀(h':Heap)(z:Nat),(∀b o',s.heap.get? b=some o'->h'.get? b=some o')->
   h'.get? s.heap.objs.size=some {cls:=.type "list",dict:=none,data:=.seq its.toArray z,slots:= #[]}->EP X pins σ Q (.ref s.heap.objs.size) {s with heap:=h'}:=λits r' hz h' z kp e=>
  ⟨.ref s.heap.objs.size,_,I.laid (t':=s.toks) kp (zzc _) (show iJ X.prog X.w _ h' _ (.lst ys)from⟨hz,its,z,r',e⟩),rfl,q _ (I.hok.fresh (zzc _))⟩
 rcases hq with hq|hq
 ·obtain⟨its,r',pl,hz⟩:=I.list hq
  have ab:=r'.length;obtain⟨o,ho,hc,n,hd⟩:=pl.isList;exact call_list_seq p (.inl rfl) ho hc hd (λh' z kp e=>aa its r' hz h' z kp e) (by simp only[zzf]<;>omega)
 ·obtain⟨its,r',pl,hz⟩:=I.tuple hq
  have ab:=r'.length;obtain⟨o,ho,hc,n,hd⟩:=pl;exact call_list_seq p (.inr rfl) ho hc hd (λh' z kp e=>aa its r' hz h' z kp e) (by simp only[zzf]<;>omega)
def Jo:jz X (.type "tuple") (λxs H Q=>∃p ys,xs=[.ref p]/\((SqL X.K H p ys/\∀l,H l=none->Q (.ref l) (upd H l (.tup ys)))\/(SqT X.K H p ys/\Q (.ref p) H))):=by
 intro pins s σ H xs us Q I r h;obtain⟨p,ys,rfl,h⟩:=h;obtain⟨u,rfl,rx⟩:=vals1 r;cases rx;rcases h with⟨hq,q⟩|⟨hq,q⟩
 ·obtain⟨its,z,pl,hz⟩:=I.list hq
  have aa:=z.length;refine call_tuple_list pl.isList (λh' kp=>?_) (by simp only[zzf]<;>omega);have I1:Inv X pins σ H {s with heap:=h'}:=I.kept (t':=s.toks) kp
  have I2:Inv X pins σ (upd H h'.objs.size (.tup ys)) {s with heap:=h'.push {cls:=.type "tuple",data:=.seq its.toArray}}:=
   I1.laid (t':=s.toks) (λb o e=>z7 _ e) (zzc _) (show iJ X.prog X.w _ _ _ (.tup ys)from⟨hz,its,z,IsTup.new _ _⟩)
  exact⟨.ref h'.objs.size,_,I2,rfl,q _ (I1.hok.fresh (zzc _))⟩
 ·obtain⟨its,z,pl,hz⟩:=I.tuple hq
  exact call_tuple_same pl ⟨.ref p,H,I,rfl,q⟩
noncomputable def tyV(K:Fg_)(T:String)(x:V)(H:Hp):Prop:=match x with
 |.str _=>T= "str"
 |.int _=>T= "int"
 | .ref p=>(T= "list" /\∃xs,SqL K H p xs)\/(T= "tuple" /\∃o,K.lookup p=some o/\o.cls=.type "tuple" /\o.dict=none)\/
   (T= "dict" /\((∃kvs,H p=some (.dK kvs))\/∃kvs,H p=some (.dT kvs)))\/(T= "set" /\∃S n,H p=some (.set S n))
 |_=>False
def abG{pins:List (Addr×Obj)}{σ:St}{H:Hp}{s:Shared}{T:String}{x:V}{v:Value}(I:Inv X pins σ H s)(r:RelV x v)(ty:tyV X.K T x H):
  s.TypeIs v T/\∀a,v=.ref a->∃ob,s.heap.get? a=some ob/\ob.dict=none:=by
 cases x with
 |str z=>
  obtain⟨t,rfl⟩:=r;cases (show T= "str" from ty);exact⟨typeIs_str s z t,λ_ e=>nomatch e⟩
 |int i=>
  obtain⟨t,rfl⟩:=r;cases (show T= "int" from ty);exact⟨typeIs_int s i t,λ_ e=>nomatch e⟩
 |ref p=>
  cases r;rcases ty with⟨rfl,xs,hq⟩|⟨rfl,o,q,hc,hd⟩|⟨rfl,q⟩|⟨rfl,S,n,q⟩
  ·obtain⟨its,_,pl,_⟩:=I.list hq
   refine⟨pl.isList.typeIs,λa e=>?_⟩;cases e;obtain⟨o,n,e,c,hd,_⟩:=pl;exact⟨o,e,hd⟩
  ·refine⟨⟨o,I.kIn p o q,hc⟩,λa e=>?_⟩
   cases e;exact⟨o,I.kIn _ o q,hd⟩
  ·have z:∃o,s.heap.get? p=some o/\o.ExactDict:=by
    rcases q with⟨kvs,q⟩|⟨kvs,q⟩
    ·obtain⟨_,_,_,_,o,_,_,e,ex,_⟩:=I.hok p _ q
     exact⟨o,e,ex⟩
    ·obtain⟨_,_,_,_,o,_,_,e,ex,_⟩:=I.hok p _ q
     exact⟨o,e,ex⟩
   obtain⟨o,e,ex⟩:=z;refine⟨⟨o,e,ex.1⟩,λa e2=>?_⟩;cases e2;exact⟨o,e,ex.2.1⟩
  ·obtain⟨o,_,_,_,e,ex,_⟩:=I.hok p _ q
   refine⟨⟨o,e,ex.1⟩,λa e2=>?_⟩;cases e2;exact⟨o,e,ex.2.1⟩
 |_=>exact False.elim ty
noncomputable def afM(K:Fg_)(T:String)(r:V->List V->Hp->VK->Prop)(to:TE):TE:=λσ H Q=>to σ H λx H1=>tyV K T x H1/\r x [] H1 Q
noncomputable def tBM(K:Fg_)(T:String)(r:V->List V->Hp->VK->Prop)(to:TE)(t:TA):TE:=λσ H Q=>to σ H λx H1=>tyV K T x H1/\t σ H1 λxs H2=>r x xs H2 Q
variable{o e:Expr}{es:List Expr}{to:TE}{t:TA}{name:Str}{apos cpos:Pos}{T id:String}{r:V->List V->Hp->VK->Prop}
def aeB(pa:PlainAttrs T)(slot:Slot T name id)(z:typeOf (.builtin id)=pure (.type "method_descriptor")) (hm:MtR X id r) (ho:PE X o to)
  (q:attributeBase o name X.env (eval o X.env)=eval o X.env:=by rfl) (hline:(apos.endLine==cpos.line)=true:=by rfl):PE X (.Call (.Attribute o name apos) [] [] cpos) (afM X.K T r to):=by
 intro pins s σ H Q I h;refine wpAny_Call_method0_late q hline (thn (ho pins s σ H _ I h) λv s1 ⟨x,H1,I1,r1,ty,q1⟩=>?_);obtain⟨h1,h2⟩:=abG I1 r1 ty;exact⟨T,id,pa,slot,z,h1,h2,Calls.callWith_builtin rfl (PySem.evalArgs_none (hm pins s1 σ H1 x [] v [] Q I1 r1 .nil q1))⟩
def afP(pa:PlainAttrs T)(slot:Slot T name id)(z:typeOf (.builtin id)=pure (.type "method_descriptor")) (hm:MtR X id r) (ho:PE X o to) (ha:PA X (e::es) t)
  (q:attributeBase o name X.env (eval o X.env)=eval o X.env:=by rfl)
  (hfew:((backTo cpos (starEach (e::es) X.env)).all (λx=>!x.1) && (backToKw cpos (keywordEach [] X.env)).all (λx=>x.1.isSome)
   && decide ((e::es).length+([]:List Keyword).length+(if([]:List Keyword).isEmpty then 0 else 1)<30))=true:=by rfl)
  (hline:(apos.endLine==cpos.line)=true:=by rfl) (hs:starEach (e::es) X.env=(false,eval e X.env)::starEach es X.env:=by rfl) (hplain:(backTo cpos (starEach es X.env)).any (·.1)=false:=by rfl):
  PE X (.Call (.Attribute o name apos) (e::es) [] cpos) (tBM X.K T r to t):=by
 intro pins s σ H Q I h;refine wpAny_Call_method_late q hfew hline rfl (thn (ho pins s σ H _ I h) λv s1 ⟨x,H1,I1,r1,ty,q1⟩=>?_);obtain⟨h1,h2⟩:=abG I1 r1 ty;refine⟨T,id,pa,slot,z,h1,h2,?_⟩;have hA:=ha cpos pins s1 σ H1 _ I1 q1;rw[hs]at hA⊢;refine Calls.callWith_builtin (by show(false||(backTo cpos (starEach es X.env)).any (·.1))=false;rw[hplain]<;>rfl) (Calls.evalArgs_plain ?_);exact thn hA λus s2 ⟨vs,H2,I2,r2,q2⟩=>hm pins s2 σ H2 x vs v us Q I2 r1 r2 q2
end
end L2
namespace L2
open PySem PySem.Spec PyProof.Rows
noncomputable def MtM(X:Cx)(id:String)(r:V->List V->Hp->VK->Prop):Prop:=
 ∀(pins:List (Addr×Obj)) (s:Shared) (σ:St) (H:Hp) (x:V) (xs:List V) (v:Value) (us:List Value) (Q:VK),Inv X pins σ H s->RelV x v->Vals xs us->r x xs H Q->
  wpAny (model X.prog X.w) X.A (call (.builtin id) (v::us)) (EP X pins σ Q) X.xe s
def Vals.one{x:V}{us:List Value}(h:Vals [x] us):∃u,us=[u]/\RelV x u:=by
 cases h with|cons r q=>cases q;exact⟨_,rfl,r⟩
def Vals.two{x y:V}{us:List Value}(h:Vals [x,y] us):∃u v,us=[u,v]/\RelV x u/\RelV y v:=by
 cases h with|cons r q=>cases q with|cons r2 q2=>cases q2;exact⟨_,_,rfl,r,r2⟩
def Vals.zero:∀{us:List Value},Vals [] us->us=[]
 |_,.nil=>rfl
theorem Vals.eraseIdx:∀{xs:List V}{us:List Value}(i:Nat),Vals xs us->Vals (xs.eraseIdx i) (us.eraseIdx i)
 |_,_,_,.nil=> .nil
 |_,_,0,.cons _ t=>t
 |_,_,i+1,.cons r t=> .cons r (Vals.eraseIdx i t)
theorem Np{α:Type}:∀(l:List α)(i:Nat),(l.eraseIdx i).length<=l.length
 |[],_=>zzc _
 |_::_,0=>yyE _
 |_::r,i+1=>Nat.succ_le_succ (Np r i)
section
variable{X:Cx}{pins:List (Addr×Obj)}{σ:St}{H:Hp}{s:Shared}{l b:Addr}{xs ys zs:List V}
def Inv.lset{its its':List Value}{n:Nat}{f:Array Value->Array Value}{t':Nat}(I:Inv X pins σ H s)(z:H l=some (.lst xs))
  (e:s.heap.get? l=some {cls:=.type "list",data:=.seq its.toArray n}) (hf:f its.toArray=its'.toArray) (hv:Vals ys its') (hz:ys.length<=sizeLine):
  Inv X pins σ (upd H l (.lst ys)) {s with heap:=s.heap.update l (Obj.mapSeq f),toks:=t'}:=by
 have q:=PySem.IsL.update e f;rw[hf]at q;refine I.write (x:=l) (e:=l) (by rw[z];exact trivial) (.inl rfl) (λb' u hb hu=>(yyD s.heap (Obj.mapSeq f) (Ne.symm hb)).trans hu) ⟨_,q⟩ ?_;exact⟨hz,its',_,hv,q⟩
def Inv.lnew{its:List Value}{t':Nat}(I:Inv X pins σ H s)(z:Vals ys its)(hz:ys.length<=sizeLine):
  Inv X pins σ (upd H s.heap.objs.size (.lst ys)) {s with heap:=s.heap.push {cls:=.type "list",data:=.seq its.toArray},toks:=t'}:=
 I.laid (λ_ _ q=>z7 _ q) (zzc _) ⟨hz,its,0,z,zzo _ rfl⟩
theorem Inv.fresh(I:Inv X pins σ H s):H s.heap.objs.size=none:=I.hok.fresh (zzc _)
def Inv.lstM(I:Inv X pins σ H s)(q:H l=some (.lst xs)):xs.length<=sizeLine/\∃(its:List Value)(n:Nat),Vals xs its/\xs.length=its.length/\s.heap.get? l=some {cls:=.type "list",data:=.seq its.toArray n}:=by
 obtain⟨z,its,n,r,e⟩:=I.hok l _ q;exact⟨z,its,n,r,r.length,e⟩
end
section
variable{X:Cx}
noncomputable def JK:V->List V->Hp->VK->Prop:=λx vs H Q=>∃l xs y,x=.ref l/\vs=[y]/\H l=some (.lst xs)/\xs.length<sizeLine/\Q .non (upd H l (.lst (xs++[y])))
def iH:MtM X "list.append" JK:=by
 intro pins s σ H x vs v us Q I rx rv h;obtain⟨l,xs,y,rfl,rfl,hH,hz,q⟩:=h;cases rx;obtain⟨u,rfl,ru⟩:=rv.one;obtain⟨z,its,n,r,hl,e⟩:=I.lstM hH;refine call_meets F.slot_list_append ⟨_,e,rfl⟩ F.entry_list_append (F.args_list_append_2 _ _) (PySem.list_append l its.toArray n u (by rw[zzf];omega)) ⟨e,?_⟩;refine⟨.non,_,I.lset (its':=its++[u]) hH e (by simp) (r.append (.cons ru .nil)) ?_,rfl,q⟩;rw[zzt,yyI];omega
noncomputable def adZ:V->List V->Hp->VK->Prop:=λx vs H Q=>∃l xs i k y,x=.ref l/\vs=[.int i]/\H l=some (.lst xs)/\ -(2^63)<=i/\i<2^63/\seqIndex? i xs.length=some k/\xs[k]? =some y/\Q y (upd H l (.lst (xs.eraseIdx k)))
def Yz:MtM X "list.pop" adZ:=by
 intro pins s σ H x vs v us Q I rx rv h;obtain⟨l,xs,i,k,y,rfl,rfl,hH,h1,h2,hk,hy,q⟩:=h;cases rx;obtain⟨u,rfl,ru⟩:=rv.one;obtain⟨t,rfl⟩:=ru;obtain⟨z,its,n,r,hl,e⟩:=I.lstM hH;obtain⟨w,hw,aa⟩:=r.get hy
 refine call_meets F.slot_list_pop ⟨_,e,rfl⟩ F.entry_list_pop (F.args_list_pop_2 _ _)
  (MeetsSeq.list_pop_at l its.toArray n i t k w (fitsIndex_both h1 h2) (by rw[zzf,<-hl];exact hk) (by rw[<-zzX];exact hw) (by rw[zzf];omega)) ⟨e,?_⟩
 refine⟨y,_,I.lset (its':=its.eraseIdx k) hH e ?_ (r.eraseIdx k) ?_,aa,q⟩
 ·show its.toArray.eraseIdxIfInBounds k=(its.eraseIdx k).toArray
  rw[List.eraseIdxIfInBounds_toArray]
 ·have:=Np xs k
  omega
noncomputable def afK:R2:=λx y H Q=>∃l b xs zs,x=.ref l/\y=.ref b/\H l=some (.lst xs)/\H b=some (.lst zs)/\xs.length+zs.length<=sizeLine/\∀p,H p=none->Q (.ref p) (upd H p (.lst (xs++zs)))
def Rt:OpR X (binaryOp .Add) afK:=by
 intro pins s σ H x y v u Q I rx ry h;obtain⟨l,b,xs,zs,rfl,rfl,hH,hB,hz,q⟩:=h;cases rx;cases ry;obtain⟨z,its,n,r,hl,e⟩:=I.lstM hH;obtain⟨z2,aa,n2,r2,ab,e2⟩:=I.lstM hB;refine PySem.P.add_list e e2 ?_ (by rw[zzf,zzf];omega);have ea:its.toArray++aa.toArray=(its++aa).toArray:=by simp
 rw[ea];exact⟨.ref _,_,I.lnew (t':=s.toks) (r.append r2) (by rw[zzt];omega),rfl,q _ I.fresh⟩
end
section
variable{prog:Program}{w:World}{A:Around}{E:Value->Shared->Prop}{s:Shared}
set_option maxRecDepth 100000 in
end
end L2
namespace Att
open PySem PySem.W PySem.Calls PyProof.Rows
def CZ{P:Params}{h:Heap}:∀(ns:List Int)(vs:List Value),WellAll P h vs (ns.map WData.int)->IntsAre vs ns:=by
 intro ns
 induction ns with
 |nil=>
  intro vs w;rw[Zd]at w;cases w;exact .nil
 |cons n ns ih=>
  intro vs w;rw[z6]at w
  cases w with
  |cons a b=>
   cases a;exact .cons _ _ (ih _ b)
def Wg{l:OpenLaw}{n:Nat}(hn:l.most=some n){P:Params}{h:Heap}{args:List WData}{aa:List Value}
  (z:l.row.toRowW.claim.pre args=true) (ac:WellAll P h aa args):
  ∃a vs ns,aa=[Value.ref a]/\args=[WData.list (ns.map WData.int)]/\h.get? a=some {cls:=.type "list",data:=.seq vs.toArray}/\IntsAre vs ns/\ns.length<=n:=by
 have ad:WShape.hasAll [] args [.list .int]=true:=(pre_splitW z).1;have hc:l.pre.holds [] {args:=args}=true:=(pre_splitW z).2;obtain⟨d,r,rfl,h1,h2⟩:=hasAllW_cons ad;obtain rfl:=hasAllW_nil h2;obtain⟨xs,rfl,h3⟩:=hasW_list h1;obtain⟨ns,rfl⟩:=items_int h3
 have ab:ns.length<=n:=by
  unfold OpenLaw.pre at hc
  have h4:(WTm.not (.lt (.lit (.int (n:Int))) (.len (.arg 0)))).holds [] {args:=[.list (ns.map .int)]}=true:=by
   have h4:=(holds_andW hc).1;rw[hn]at h4;exact h4
  have h5:=condW_of h4 (w_not (w_lt w_lit (w_len_list (w_arg rfl))));rw[z0]at h5;refine Nat.le_of_not_lt λq=>?_;have q':(n:Int)<((ns.length:Nat):Int):=by omega
  first
   |(rw[zzx q']at h5;exact absurd h5 (by decide))
   |(simp at h5;omega)
 cases ac with
 |cons w1 w2=>
  cases w2
  cases w1 with
  |list ho hall=>exact⟨_,_,ns,rfl,rfl,ho,CZ ns _ hall,ab⟩
def WW(l:OpenLaw)(args:List WData):l.row.toRowW.claim.post args (.bool true) args=true:=
 postW_of (r:=l.row.toRowW) (X:=(true==true))
  (show WShape.has [] (.bool true) .bool=true by first|rfl|decide|simp[WShape.has,WShape.arms,WShape.armsAll])
  (show(WTm.eq .res (.lit (.bool true))).value [] {args:=args,res:=some (.bool true),after:=args}=some (.bool (true==true))from w_eq_bool (w_res rfl) w_lit) rfl
def attach_call{l:OpenLaw}{n:Nat}{q:Program}{aa:List Str}{XP:(Str->Option Value)->Heap->Prop}{YP:World->Heap->Prop}{d:DefRec}
  (hn:l.most=some n) (ak:d.params.defaults=[])
  (ad:∀(w:World)(s₀ z:Shared)(mg mb:Str->Option Value)(fa:Addr)(o:Obj)(pm cd ac:Value)(a:Addr)(vs:List Value)(ns:List Int),
   Ground q aa [] XP w s₀ mg mb z.heap->YP w z.heap->
   z.heap.get? fa=some o->o.data=.func (docDef d.name d.params d.body d.scope pm cd ac)->z.heap.CodeRec cd d.name->mg d.name=some (.ref fa)->
   z.heap.get? a=some {cls:=.type "list",data:=.seq vs.toArray}->IntsAre vs ns->ns.length<=n->z.gens= #[]->
   codeAny (model l.prog w) callerA (.call (.ref fa) ⟨[.ref a],[]⟩) (λr s'=>r=.ok (.ret (.bool true))/\OldK z.heap s'.heap/\s'.os=z.os/\AllBare s'.gens) z):
  WalkO q aa XP YP l.row.toRowW d [] (λf vs=>PySem.call f vs):=by
 intro w s₀ z mg mb G Y fa o pm cd ac dV kV ho hd ai hD aj hg args am as ae al ao ah an;obtain rfl:dV=.none:=Dflts.none hD ak;obtain rfl:kV=.none:=Dflts.noKw hD;obtain⟨a,vs,ns,rfl,rfl,af,ab,ag⟩:=Wg hn ae ah;refine enter_call (codeAny_mono (ad w s₀ z mg mb fa o pm cd ac a vs ns G Y ho (fd_plain hd) ai aj af ab ag hg) λr s' hq=>?_);obtain⟨rfl,h2,h3,h4⟩:=hq;exact⟨.inl ⟨.bool true,.bool true,[],rfl,λ_=>rfl,.bool true,WW l _,λ_=>⟨List.Pairwise.nil,λ_ hm=>(nomatch hm)⟩⟩,h2,h3,h4⟩
end Att
namespace L2
open PySem PySem.Spec PyProof.Rows
theorem nC:∀{vs:List Value}{ns:List Int},IntsAre vs ns->Vals (ns.map V.int) vs
 |_,_,.nil=> .nil
 |_,_,.cons n t h=> .cons ⟨t,rfl⟩ (nC h)
noncomputable def Only(H:Hp):Prop:=∀b,H b=none\/∃o xs,H b=some (.frz o (.lst xs))
def YC{P:Program}{w:World}{K:Fg_}{mg mb:Str->Option Value}{CX:CXT}{k:Nat}{fa a:Addr}{fd:FuncData}{x:Str}{sp:Sp}{s₁:Shared}{vs:List Value}{ns:List Int}
  (KX:K.In s₁.heap) (ah:s₁.heap.Ns mainGlobals mg) (hb:s₁.heap.Ns builtinsNs mb) (ai:∀x:Str,x≠ "__name__" ->mb x=bootBuiltins x) (af:s₁.heap.NoLimit) (hg:s₁.gens= #[])
  (ha:s₁.heap.get? a=some {cls:=.type "list",data:=.seq vs.toArray}) (hi:IntsAre vs ns) (hl:ns.length<=sizeLine) (hr:lq k callerA)
  (F:∀base:Heap,K.In base->base.Ns mainGlobals mg->gJ P w K mg base CX k fa fd [x] sp) (hbind:∀(s:Shared)(u:Value),BindsTo s fd ⟨[u],[]⟩ [(x,u)])
  (hsp:∀H:Hp,Only H->SqL K H a (ns.map V.int)->sp [.ref a] H (λv _=>v=.bl true) λ_ _ _=>False)
  (hCX:∀H e s',CX [] H s₁ (λ_ _ _=>False) e s'->False):
  codeAny (model P w) callerA (.call (.ref fa) ⟨[.ref a],[]⟩) (λr s'=>r=.ok (.ret (.bool true))/\OldK s₁.heap s'.heap/\s'.os=s₁.os/\AllBare s'.gens) s₁:=by
 have rv:=nC hi;have ad:=hi.length
 have ac:∀H:Hp,Only H->SqL K H a (ns.map V.int)->HOk P w H s₁.heap->(∀b,H b≠none->b=a)->(H a≠none->K.lookup a=none)->
   codeAny (model P w) callerA (.call (.ref fa) ⟨[.ref a],[]⟩) (λr s'=>r=.ok (.ret (.bool true))/\OldK s₁.heap s'.heap/\s'.os=s₁.os/\AllBare s'.gens) s₁:=by
  intro H hO hS hok hA hK;have aa:∀{b:Addr}{o:Obj},s₁.heap.get? b=some o->H b=none->(aav s₁.heap H).get? b=some o:=λe n=>aaQ e n
  have aj:∀{b:Addr}{o:Obj}{es:Array DictEntry}{ep:Nat},s₁.heap.get? b=some o->o.data=.dict es ep->H b=none:=fun{b o es ep} e d=>by
   cases q:H b with
   |none=>rfl
   |some u=>
    have e':b=a:=hA b (by rw[q];simp);subst e';rw[ha]at e;cases e;have d':Data.seq vs.toArray _=Data.dict es ep:=d;cases d'
  have ab:∀{b:Addr}{m:Str->Option Value},s₁.heap.Ns b m->(aav s₁.heap H).Ns b m:=fun{b m}⟨o,es,ep,e,d,r⟩=>⟨o,es,ep,aa e (aj e d),d,r⟩
  have ag:K.In (aav s₁.heap H):=λb o e=>aa (KX b o e) (by
   cases q:H b with
   |none=>rfl
   |some u=>
    have e':b=a:=hA b (by rw[q];simp);subst e';rw[hK (by rw[q];simp)]at e;cases e)
  have hM:Mod K mg (aav s₁.heap H):=⟨ag,ab ah,⟨mb,ab hb,ai⟩,let⟨mc,h1,h2⟩:=af;⟨mc,ab h1,h2⟩⟩;have e0:Yj P w K mg (aav s₁.heap H) callerA [] s₁ H:=⟨rfl,hM,λb o e=>ady e,Ya8 (Xo _ _),trivial,λb hb=>absurd (show b∈([]:List Addr)from hb) (by simp),hok,.of_eq hg⟩;refine codeAny_mono ((F _ ag (ab ah)).run callerA [] s₁ H ⟨[.ref a],[]⟩ [.ref a] [.ref a] _ _ hr e0 (hbind s₁ (.ref a)) (.cons rfl .nil) (hsp H hO hS)) λr s' h=>?_
  cases r with
  |error e=>exact(hCX H e s' h).elim
  |ok fl=>
   cases fl with
   |next=>exact False.elim h
   |brk=>exact False.elim h
   |cont=>exact False.elim h
   |ret u=>
    obtain⟨v,H',os,bare,un,ae,r',q⟩:=h;have q':v=.bl true:=q;subst q';obtain rfl:u=Value.bool true:=r';refine⟨rfl,OldK.of_keep λb o e=>?_,os,bare⟩
    cases q:H b with
    |none=>exact un.keep b o e q (by intro z;exact absurd (show b∈([]:List Addr)from z) (by simp)) (by simp)
    |some u=>
     rcases hO b with z|⟨ob,xs,z⟩
     ·rw[q]at z;cases z
     ·have z2:=un.frzs b ob _ z
      obtain⟨e1,_⟩:=hok b _ z;obtain⟨e2,_⟩:=ae b _ z2;rw[e]at e1;cases e1;exact e2
 cases hk:K.lookup a with
 |some o=>
  have e:=KX a o hk;rw[ha]at e;cases e;refine ac (λ_=>none) (λ_=> .inl rfl) (.inr ⟨_,vs.toArray,_,hk,rfl,rfl,rfl,by rw[zzf,ad];exact hl,by simpa using rv⟩) (λb u z=>by have z':(none:Option HO)=some u:=z;cases z') (λb z=>absurd rfl z) λz=>absurd rfl z
 |none=>
  refine ac (λb=>if b=a then some (.frz {cls:=.type "list",data:=.seq vs.toArray} (.lst (ns.map V.int)))else none) (λb=>?_) (.inl (.inr ⟨{cls:=.type "list",data:=.seq vs.toArray},z8 rfl⟩)) (λb u z=>?_) (λb z=>?_) λ_=>hk
  ·by_cases hb:b=a
   ·exact .inr ⟨_,_,z8 hb⟩
   ·exact .inl (z4 hb)
  ·by_cases hb:b=a
   ·have z':=(z8 hb).symm.trans z
    cases z';subst hb;exact⟨ha,by rw[z0];exact hl,vs,_,rv,ha⟩
   ·have z':=(z4 hb).symm.trans z
    cases z'
  ·by_cases hb:b=a
   ·exact hb
   ·exact absurd (z4 hb) z
end L2
namespace L2
open PySem PySem.Spec PyProof.Rows
def walk_of{l:PySem.W.OpenLaw}{n k:Nat}{q:Program}{ab:List Str}{XP:(Str->Option Value)->Heap->Prop}{YP:World->Heap->Prop}{d:DefRec}{K:Params->Fg_}{CX:World->CXT}{sp:World->Sp}{x:Str}
  (hn:l.most=some n) (ad:n<=sizeLine) (ah:d.params.defaults=[]) (hr:lq k callerA)
  (hY:∀(w:World)(h:Heap),YP w h->(K w.params).In h)
  (F:∀(w:World)(mg:Str->Option Value)(fa:Addr)(h:Heap),(K w.params).In h->h.Ns mainGlobals mg->mg d.name=some (.ref fa)->
   ∃fd:FuncData,(∀(s:Shared)(u:Value),BindsTo s fd ⟨[u],[]⟩ [(x,u)])/\
    ∀base:Heap,(K w.params).In base->base.Ns mainGlobals mg->gJ l.prog w (K w.params) mg base (CX w) k fa fd [x] (sp w))
  (ae:∀(w:World)(H:Hp)(a:Addr)(ns:List Int),ns.length<=n->Only H->SqL (K w.params) H a (ns.map V.int)->sp w [.ref a] H (λv _=>v=.bl true) λ_ _ _=>False)
  (ag:∀(w:World)(H:Hp)(s:Shared)(e:Value)(s':Shared),CX w [] H s (λ_ _ _=>False) e s'->False):
  PySem.W.WalkO q ab XP YP l.row.toRowW d [] (λf vs=>PySem.call f vs):=by
 refine Att.attach_call hn ah λw s₀ s₁ mg mb fa o pm cd ai a vs ns G Y ho hd aj af ac aa z hg=>?_;have KX:=hY w _ Y;obtain⟨fd,hb,hF⟩:=F w mg fa _ KX G.T.g af;exact YC KX G.T.g G.T.b G.T.builtins G.T.nolimit hg ac aa (zzK z ad) hr hF hb (λH hO hS=>ae w H a ns z hO hS) λH e s'=>ag w H s₁ e s'
end L2
namespace L2
open PySem PySem.Spec PyProof.Rows
noncomputable def inClass(s:Stmt)(j:Nat):Stmt:=match s with
 |.ClassDef _ _ _ body _ _ _ _ _ _ _=>body.getD j (.Pass ⟨0,0,0,0⟩)
 |_=> .Pass ⟨0,0,0,0⟩
noncomputable def jC(s:Stmt):Arguments:=match s with
 |.FunctionDef _ a _ _ _ _ _ _ _ _=>a
 |_=>{posonlyargs:=[],args:=[],vararg:=none,kwonlyargs:=[],kw_defaults:=[],kwarg:=none,defaults:=[]}
noncomputable def iW(s:Stmt):List Stmt:=match s with
 |.FunctionDef _ _ b _ _ _ _ _ _ _=>b
 |_=>[]
noncomputable def fc(s:Stmt):Scope:=match s with
 |.FunctionDef _ _ _ _ _ _ sc _ _ _=>sc
 |_=>{kind:=.function,names:=[],isGenerator:=false,isCoroutine:=false}
abbrev CX0:CXT:=λ_ _ _ _ _ _=>False
abbrev E0:XK:=λ_ _ _=>False
def iI{X:Cx}:qJ CX0 X E0:=λ_ _ _ _ _ _ _ h=>h.elim
structure Fun(K:Fg_)(x qual:Str)(st:Stmt)(f:Addr)(fd:FuncData):Prop where
 ex:∃(oc:Value)(od:Option Addr)(kV doc pm:Value)(an:Option Addr)(cdv ct:Value)(osl:Array (Option Value)),
  fd=PySem.W.fnOf x qual (jC st) (iW st) (fc st) .none kV doc pm an cdv ct/\K.lookup f=some ⟨oc,od,.func fd,osl⟩/\PySem.W.codeIn K cdv qual=true
 kp:PySem.W.keepIn K (.ref f)=true
section
variable{P:Program}{w:World}{K:Fg_}{mg:Str->Option Value}{base:Heap}
def Fun.ok{x z:Str}{st:Stmt}{f:Addr}{fd:FuncData}{N ps:List Str}{k:Nat}{sp:Sp}(F:Fun K x z st f fd)(S:fD N ps (fc st))(len:∀vs H Q E,sp vs H Q E->vs.length=ps.length)
  (ab:∀(aa:Value)(A:Around)(outer:List Env)(s:Shared)(H:Hp)(vs:List V)(Q:VK)(E:XK),lq k (A.deeper (envOfC z (fc st) s.heap.objs.size f aa))->sp vs H Q E->
   ∃t,PSs (YX CX0 P w K mg base N z (fc st) f aa A outer s H E).nox (iW st) t/\t {nx:=λ_ H'=>Q .non H',rt:=Q} (start N vs) H):gJ P w K mg base CX0 (k+1) f fd ps sp:=by
 obtain⟨oc,od,kV,ae,pm,an,aa,ct,af,rfl,lk,ad⟩:=F.ex;refine aem lk ad S len λA outer s H vs Q E hr ac=>?_;obtain⟨t,h,q⟩:=ab aa A outer s H vs Q E hr ac;exact⟨t,h.nox,q⟩
def Fun.binds{x q:Str}{st:Stmt}{f:Addr}{fd:FuncData}{ps:List Str}(F:Fun K x q st f fd)
  (h:∀(kV z pm:Value)(an:Option Addr)(aa ct:Value)(us:List Value),us.length=ps.length->bindArgs (PySem.W.fnOf x q (jC st) (iW st) (fc st) .none kV z pm an aa ct) ⟨us,[]⟩=pure (ps.zip us)):Binds K fd ps []:=by
 obtain⟨oc,od,kV,z,pm,an,aa,ct,ac,rfl,lk,ab⟩:=F.ex;exact .all (h kV z pm an aa ct)
def Xc{x q:Str}{st:Stmt}{f:Addr}{oc:Value}{od an:Option Addr}{ab:Array (Option Value)}{kV aa pm z ct:Value}(l:K.lookup f=some ⟨oc,od,.func (PySem.W.fnOf x q (jC st) (iW st) (fc st) .none kV aa pm an z ct),ab⟩)
  (c:PySem.W.codeIn K z q=true) (k:PySem.W.keepIn K (.ref f)=true):Fun K x q st f (PySem.W.fnOf x q (jC st) (iW st) (fc st) .none kV aa pm an z ct):=⟨⟨oc,od,kV,aa,pm,an,z,ct,ab,rfl,l,c⟩,k⟩
end
def jr{A:Around}{k:Nat}(q:lq k A):A.units+1<cLine:=Zl (Nat.add_le_add_left (by decide:1<=64) _) q.units
def Xh{n:Nat}(h:n<=1000):n<sizeLine:=Zl h (by decide)
section
variable{X:Cx}
def pv(i:Nat){x:Str}{pos:Pos}(q:X.N[i]? =some x:=by rfl)(hv:Vis X.env.scope x:=by walk_at "o") (hd:(x==("__debug__" :Str))=false:=by decide)
  (hcd:(x==("__classdict__" :Str))=false:=by decide):PE X (.Name x pos) (Ly i):=afo q hv hd hcd
end
noncomputable def Same(H H':Hp):Prop:=∀b o,H b=some o->H' b=some o
def same_refl(H:Hp):Same H H:=λ_ _ h=>h
def Same.trans{H H1 H2:Hp}(a:Same H H1)(b:Same H1 H2):Same H H2:=λc o h=>b c o (a c o h)
def Same.free{H H':Hp}(e:Same H H'){l:Addr}(h:H' l=Option.none):H l=Option.none:=by
 cases q:H l with
 |none=>rfl
 |some o=>
  rw[e l o q]at h;cases h
def Same.seq{K:Fg_}{H H':Hp}{a:Addr}{xs:List V}(e:Same H H')(h:SqL K H a xs):SqL K H' a xs:=by
 rcases h with(h|⟨o,h⟩)|h
 ·exact .inl (.inl (e _ _ h))
 ·exact .inl (.inr ⟨o,e _ _ h⟩)
 ·exact .inr h
end L2
namespace L2
open PySem PySem.Spec PyProof.Rows
noncomputable def AllIn:List (Str×Addr)->List (Str×Addr)->Prop
 |[],_=>True
 |(x,c)::r,cells=>cells.lookup x=some c/\AllIn r cells
theorem AllIn.look{aa:List (Str×Addr)}:∀{cl:List (Str×Addr)},AllIn cl aa->∀{x:Str}{c:Addr},cl.lookup x=some c->aa.lookup x=some c
 |[],_,x,c,e=>by simp at e
 |(y,d)::r,h,x,c,e=>by
  rw[zzP]at e
  cases q:x==y with
  |true=>
   rw[q]at e;have z:d=c:=zzq e;have z2:x=y:=beq_iff_eq.mp q;subst z z2;exact h.1
  |false=>
   rw[q]at e;exact AllIn.look h.2 e
noncomputable def Cz(cells:List (Str×Addr)):List (Str×NameKind)->List (Str×Addr)->List (Str×Addr)
 |[],cs=>cs
 |(n,k)::r,cs=>Cz cells r (match k with
  |.free=>match cells.lookup n with
   |some c=>(n,c)::cs
   |Option.none=>cs
  |_=>cs)
abbrev Bj(scope:Scope)(env:Env):List (Str×Addr):=Cz env.cells scope.names []
theorem Dw(z:List (Str×Addr)):∀(names:List (Str×NameKind))(cs:List (Str×Addr)),AllIn cs z->AllIn (Cz z names cs) z
 |[],_,h=>h
 |(n,k)::r,cs,h=>by
  unfold Cz;refine Dw z r _ ?_
  cases k with
  |free=>
   cases q:z.lookup n with
   |none=>exact h
   |some c=>exact⟨q,h⟩
  |_=>exact h
def nF(scope:Scope)(env:Env):AllIn (Bj scope env) env.cells:=Dw _ _ _ trivial
noncomputable def CapOk(X:Cx)(sc:Scope)(cl:List (Str×Addr)):List Str->List (Option Nat)->Prop
 |[],[]=>True
 |_::N,Option.none::r=>CapOk X sc cl N r
 |x::N,some j::r=>X.N[j]? =some x/\(X.env.kindOf x=some .cell\/X.env.kindOf x=some .free)/\(sc.names.lookup x=some .cell\/sc.names.lookup x=some .free)/\(∃c,cl.lookup x=some c)/\CapOk X sc cl N r
 |_,_=>False
noncomputable def nA(σ:St)(cap:List (Option Nat)):St:=cap.map λo=>match o with
 |Option.none=>Option.none
 |some j=>match σ[j]? with
  |some v=>v
  |Option.none=>Option.none
def CapOk.nil{X:Cx}{q:Scope}{cl:List (Str×Addr)}:CapOk X q cl [] []:=trivial
def CapOk.own{X:Cx}{q:Scope}{cl:List (Str×Addr)}{x:Str}{N:List Str}{r:List (Option Nat)}(h:CapOk X q cl N r):CapOk X q cl (x::N) (Option.none::r):=h
def CapOk.take{X:Cx}{q:Scope}{cl:List (Str×Addr)}{x:Str}{N:List Str}{j:Nat}{r:List (Option Nat)}(h1:X.N[j]? =some x)(h2:X.env.kindOf x=some .cell\/X.env.kindOf x=some .free)
  (h3:q.names.lookup x=some .cell\/q.names.lookup x=some .free) (z:(cl.lookup x).isSome=true) (h:CapOk X q cl N r):CapOk X q cl (x::N) (some j::r):=⟨h1,h2,h3,yyO.mp z,h⟩
theorem CapOk.len{X:Cx}{q:Scope}{cl:List (Str×Addr)}:∀{N:List Str}{cap:List (Option Nat)},CapOk X q cl N cap->cap.length=N.length
 |[],[],_=>rfl
 |_::N,Option.none::r,h=>congrArg (·+1) (CapOk.len (N:=N) (cap:=r) h)
 |_::N,some _::r,h=>congrArg (·+1) (CapOk.len (N:=N) (cap:=r) h.2.2.2.2)
 |[],_::_,h=>h.elim
 |_::_,[],h=>h.elim
theorem CapOk.get{X:Cx}{sc:Scope}{cl:List (Str×Addr)}{σ:St}:∀{N:List Str}{cap:List (Option Nat)}{i:Nat}{x:Str}{v:V},CapOk X sc cl N cap->N[i]? =some x->(nA σ cap)[i]? =some (some v)->
  ∃j:Nat,X.N[j]? =some x/\σ[j]? =some (some v)/\(X.env.kindOf x=some .cell\/X.env.kindOf x=some .free)/\(sc.names.lookup x=some .cell\/sc.names.lookup x=some .free)/\∃c,cl.lookup x=some c
 |[],[],i,x,v,_,e,_=>by simp at e
 |y::N,Option.none::r,0,x,v,h,e1,e2=>by
  have z:(some (Option.none:Option V))=some (some v):=e2;cases z
 |y::N,Option.none::r,i+1,x,v,h,e1,e2=>CapOk.get (N:=N) (cap:=r) (i:=i) h (by simpa using e1) (by simpa [nA] using e2)
 |y::N,some j::r,0,x,v,h,e1,e2=>by
  have z:y=x:=by simpa using e1
  subst z;obtain⟨h1,h2,h3,h4,_⟩:=h;refine⟨j,h1,?_,h2,h3,h4⟩;have z2:some (match σ[j]? with|some v=>v|Option.none=>Option.none)=some (some v):=e2
  cases q:σ[j]? with
  |none=>rw[q]at z2;cases z2
  |some o=>rw[q]at z2;exact z2
 |y::N,some j::r,i+1,x,v,h,e1,e2=>CapOk.get (N:=N) (cap:=r) (i:=i) h.2.2.2.2 (by simpa using e1) (by simpa [nA] using e2)
 |[],_::_,_,_,_,h,_,_=>h.elim
 |_::_,[],_,_,_,h,_,_=>h.elim
noncomputable def cxC(X:Cx)(N':List Str)(scope:Scope)(s:Shared)(H:Hp)(fp:List Addr)(xe:Value->Shared->Prop):Cx:=
 {X with N:=N',s₀:=s,H₀:=H,env:=compEnvC scope (Bj scope X.env) s.heap.objs.size X.env,outer:=X.stack,ex:=fp,fn:=λ_=>false,pn:=[],xe:=xe}
noncomputable def PTs(X:Cx)(ifs:List Expr)(t:TT):Prop:=
 ∀(pins:List (Addr×Obj)) (s:Shared) (σ:St) (H:Hp) (Q:Bool->Hp->Prop),Inv X pins σ H s->t σ H Q->
  wpAny (model X.prog X.w) X.A (forIn ifs true λc r=>if r=true then do let ok<-isTrue c X.env (eval c X.env);pure (ForInStep.yield ok)else pure (ForInStep.yield r)) (TP X pins σ Q) X.xe s
noncomputable def Tv:TT:=λ_ H Q=>Q true H
def gQ{X:Cx}:PTs X [] Tv:=λ_ _ _ H _ I h=>wpAny_tests_nil ⟨H,I,h⟩
def rK{X:Cx}{c:Expr}{t:TT}(h:PT X c t):PTs X [c] t:=λpins s σ H Q I q=>wpAny_tests_one (h pins s σ H Q I q)
noncomputable def adm(cap:List (Option Nat))(wi:TI)(g:TG)(tt:TT)(te:TE):TE:=λσ H Q=>wi σ H λJ H1=>∀D,H1 D=Option.none->
 ∃W:Nat->Nat->List V->St->Hp->Prop,(∃m,W 0 m [] (nA σ cap) (upd H1 D (.lst [])))/\∀i m acc σ1 H2,W i m acc σ1 H2->H2 D=some (.lst acc)->
  (J.stop i H2/\Q (.ref D) H2)\/(J.go i H2/\∀x H3,J.yld i H2 x H3->g x σ1 H3 λσ4 H4=>tt σ4 H4 λb H5=>
   if b=true then te σ4 H5 λv H6=>∃acc',H6 D=some (.lst acc')/\acc'.length<sizeLine/\∃m',m'<m/\W (i+1) m' (acc'++[v]) σ4 (upd H6 D (.lst (acc'++[v])))
   else∃m',m'<m/\∃acc',H5 D=some (.lst acc')/\W (i+1) m' acc' σ4 H5)
section
variable{X:Cx}{elt tg iter:Expr}{ifs:List Expr}{scope:Scope}{pos:Pos}{cap:List (Option Nat)}{N':List Str}{wi:TI}{g:TG}{tt:TT}{te:TE}
structure WK(X:Cx)(iter:Expr)(scope:Scope)(N':List Str)(cap:List (Option Nat)):Prop where
 clos:closureFor scope X.env=pure (Bj scope X.env)
 cap:CapOk X (relabel scope X.env) (Bj scope X.env) N' cap
 kind:scope.kind=.function
 nocell:∀y∈scope.names,y.2≠.cell
 names:∀y∈scope.names,y.2=.local->scope.names.lookup y.1=some .local
 has:(scope.names.all λy=>y.2 !=.free||((Bj scope X.env).lookup y.1).isSome)=true
 fold:∀x,foldedSetIterable iter X.env x=pure x
theorem Wb{f:Str×NameKind->Str×NameKind}(h1:∀y,(f y).1=y.1)(h2:∀y,y.2≠NameKind.cell->((f y).2=NameKind.cell\/(f y).2=NameKind.free)->y.2=NameKind.free){cl:List (Str×Addr)}:
  ∀{names:List (Str×NameKind)}{x:Str},(∀y∈names,y.2≠NameKind.cell)->(names.all λy=>y.2 !=NameKind.free||(cl.lookup y.1).isSome)=true->((names.map f).lookup x=some NameKind.cell\/(names.map f).lookup x=some NameKind.free)->∃c,cl.lookup x=some c
 |[],x,_,_,h=>by rcases h with h|h<;>simp at h
 |y::r,x,hc,ha,h=>by
  rw[List.all_cons,Ya4]at ha;rw[z6]at h;have e0:f y=(y.1,(f y).2):=by rw[<-h1 y]
  rw[e0,zzP]at h
  cases q:x==y.1 with
  |true=>
   rw[q]at h;have e:x=y.1:=beq_iff_eq.mp q
   have hf:y.2=NameKind.free:=h2 y (hc y zze) (by
    rcases h with h|h
    ·exact .inl (zzq h)
    ·exact .inr (zzq h))
   have h3:(cl.lookup y.1).isSome=true:=by
    have:=ha.1;rw[hf]at this
    simpa using this
   rw[e];exact yyO.mp h3
  |false=>
   rw[q]at h;exact Wb h1 h2 (λz hz=>hc z (zzh _ hz)) ha.2 h
def adU{env:Env}{scope:Scope}{cl:List (Str×Addr)}{x:Str}(hc:∀y∈scope.names,y.2≠NameKind.cell)(ha:(scope.names.all λy=>y.2 !=NameKind.free||(cl.lookup y.1).isSome)=true)
  (h:(relabel scope env).names.lookup x=some NameKind.cell\/(relabel scope env).names.lookup x=some NameKind.free):∃c,cl.lookup x=some c:=by
 refine Wb (f:=fun(n,k)=>if(k==NameKind.free && env.scope.kind==.function && env.kindOf n==some .cell)then(n,NameKind.cell)else(n,k)) (λy=>?_) (λy hy q=>?_) hc ha h
 ·obtain⟨n,k⟩:=y
  dsimp only;split<;>rfl
 ·obtain⟨n,k⟩:=y
  dsimp only at q⊢hy;by_cases z:(k==NameKind.free && env.scope.kind==.function && env.kindOf n==some .cell)=true
  ·simp only[Ya4]at z
   exact beq_iff_eq.mp z.1.1
  ·rw[z4 z]at q
   rcases q with q|q
   ·exact absurd q hy
   ·exact q
def KJ{P:Program}{w:World}{A:Around}{R:Result->Shared->Prop}{s:Shared}{it acc:Value}{env:Env}(I:Nat->Shared->Prop)
  (z:∀n s,I n s->wpAny (model P w) A (pyNext it) (λr s₁=>match r with
   |none=>R (.ok .next) s₁
   | some v=>wpAny (model P w) A (letOwnedTupleGo tg it v) (λ_ q=>wpAny (model P w) A (assign tg env v) (λ_ s₂=>
     wpAny (model P w) A (forIn ifs true λc r=>if r=true then do let ok<-isTrue c env (eval c env);pure (ForInStep.yield ok)else pure (ForInStep.yield r)) (λok s₃=>
      if ok=true then wpAny (model P w) A (eval elt env) (λx s₄=>
       wpAny (model P w) A (call (.builtin "list.append") [acc,x]) (λ_ s₅=>∃m,m<n/\I m s₅) (notedBy (model P w) A env λe s'=>R (.error e) s') s₄) (notedBy (model P w) A env λe s'=>R (.error e) s') s₃
      else∃m,m<n/\I m s₃) (notedBy (model P w) A env λe s'=>R (.error e) s') s₂) (notedBy (model P w) A env λe s'=>R (.error e) s') q) (notedBy (model P w) A env λe s'=>R (.error e) s') s₁)
    (notedBy (model P w) A env λe s'=>R (.error e) s') s)
  (n:Nat) (h:I n s):
  codeAny (model P w) A (.compLoop (.ListComp elt [⟨tg,iter,ifs,0⟩] scope pos) 0 it acc env) R s:=by
 refine codeAny_loop rfl I (λn s hI=>?_) n h;show wpAny _ A ((compTurn (.ListComp elt [⟨tg,iter,ifs,0⟩] scope pos) 0 it acc env).onRaise (λx=>do noteFrame x env;theTreesLotGoes x)) _ _ s;refine wpAny_noted ?_;rw[compTurn_list];refine z5 (wpAny_standAt (z5 (yyg (z n s hI) (λr s₁ h₁=>?_) λ_ _ h'=>h')))
 cases r with
 |none=>exact zzi h₁
 |some v=>
  refine z5 (yyg h₁ (λ_ q h₁=>?_) λ_ _ h'=>h');refine z5 (yyg h₁ (λ_ s₂ h₂=>z5 (yyg h₂ (λok s₃ h₃=>?_) λ_ _ h'=>h')) λ_ _ h'=>h')
  cases ok with
  |false=>exact zzi ⟨rfl,h₃⟩
  |true=>
   exact z5 (z5 (yyg h₃ (λx s₄ h₄=>z5 (yyg h₄ (λ_ s₅ h₅=>zzi (zzi ⟨rfl,h₅⟩)) λ_ _ h'=>h')) λ_ _ h'=>h'))
def Lp{pins:List (Addr×Obj)}{σ:St}{H2:Hp}{s2:Shared}{Q:VK}{it:Addr}{fp:List Addr}{tn:Nat->Heap->Prop}{J:It}{R:Value->Addr->Result->Shared->Prop}{E:Value->Shared->Prop}
  (hc:X.calm=true) (C:WK X iter scope N' cap)
  (hg:∀s H fp xe,PG (cxC X N' scope s H fp xe) tg g) (ht:∀s H fp xe,PTs (cxC X N' scope s H fp xe) ifs tt) (he:∀s H fp xe,PE (cxC X N' scope s H fp xe) elt te)
  (I2:Inv X pins σ H2 s2) (T:Turn X.prog X.w X.K tg J fp it tn) (ag:tn 0 s2.heap) (f2:∀b∈fp,Qo X pins H2 b)
  (hR:∀D Cl H' s',Inv X pins σ H' s'->(∃m,s'.heap.Ns Cl m)->H' Cl=Option.none->Cl≠X.env.locals->X.s₀.heap.objs.size<=Cl->(∀x c,X.env.cells.lookup x=some c->c≠Cl)->(∀p∈X.pn++pins,p.1≠Cl)->Q (.ref D) H'->R (.ref D) Cl (.ok .next) s')
  (hw:∀D,H2 D=Option.none->∃W:Nat->Nat->List V->St->Hp->Prop,(∃m,W 0 m [] (nA σ cap) (upd H2 D (.lst [])))/\∀i m acc σ1 H2,W i m acc σ1 H2->H2 D=some (.lst acc)->
   (J.stop i H2/\Q (.ref D) H2)\/(J.go i H2/\∀x H3,J.yld i H2 x H3->g x σ1 H3 λσ4 H4=>tt σ4 H4 λb H5=>
    if b=true then te σ4 H5 λv H6=>∃aa,H6 D=some (.lst aa)/\aa.length<sizeLine/\∃m',m'<m/\W (i+1) m' (aa++[v]) σ4 (upd H6 D (.lst (aa++[v])))
    else∃m',m'<m/\∃aa,H5 D=some (.lst aa)/\W (i+1) m' aa σ4 H5)):
  wpAny (model X.prog X.w) X.A (newList []) (λacc s₃=>wpAny (model X.prog X.w) X.A (newFunctionEnv scope X.env.globals (Bj scope X.env) [] X.env.qual none .none (some X.env)) (λai s₄=>
   codeAny (model X.prog X.w) X.A (.compStart (.ListComp elt [⟨tg,iter,ifs,0⟩] scope pos) 0 (.ref it) acc {ai with scope:=relabel scope X.env}) (R acc ai.locals) s₄) E s₃) E s2:=by
 refine Zw (wpAny_newFunctionEnv C.nocell (by intro y hy;simp at hy) (λh₁ ah aj=>?_) C.kind);obtain⟨W,⟨m0,w0⟩,ak⟩:=hw s2.heap.objs.size I2.fresh;have I3:Inv X pins σ (upd H2 s2.heap.objs.size (.lst [])) {s2 with heap:=s2.heap.push {cls:=.type "list",data:=.seq ([]:List Value).toArray}}:=I2.lnew (t':=s2.toks) .nil (zzB _);generalize am:({s2 with heap:=s2.heap.push {cls:=.type "list",data:=.seq ([]:List Value).toArray}}:Shared)=s3 at I3 ah aj⊢;generalize hD:s2.heap.objs.size=D at I3 w0 ak⊢;have bh:H2 D=Option.none:=by rw[<-hD];exact I2.fresh
 have ap:s3.os=s2.os:=by rw[<-am]
 have aw:Un (frs X.stack) fp H2 (upd H2 D (.lst [])) s2.heap s3.heap:=by
  rw[<-am,<-hD];exact Un.laid (λb u q=>z7 _ q) (zzc _) I2.fresh
 have ab:∀b o,s3.heap.get? b=some o->h₁.get? b=some o:=λb o e=>(aj.2 b (zzv (zzn e))).trans (z7 _ e);have ad:∀b o,s2.heap.get? b=some o->s3.heap.get? b=some o:=λb o e=>by rw[<-am];exact z7 _ e
 have hR':∀(r:Result)(s':Shared),R (.ref D) s3.heap.objs.size r s'->R (.ref D) s3.heap.objs.size r s':=λ_ _ h=>h
 have f3:∀b∈fp,Qo X pins (upd H2 D (.lst [])) b:=λb hb=>by
  obtain⟨q0,q1⟩:=f2 b hb;refine⟨?_,q1⟩;obtain⟨o,e,_⟩:=T.obj _ _ ag b hb;rw[fC (by rw[<-hD];exact zzv (zzn e))];exact q0
 let XC:Cx:=cxC X N' scope s3 (upd H2 D (.lst [])) fp (notedBy (model X.prog X.w) X.A (compEnvC scope (Bj scope X.env) s3.heap.objs.size X.env) λe s'=>R (.ref D) s3.heap.objs.size (.error e) s')
 have ok:XC.Ok:=by
  refine⟨I3.ok.mod,C.kind,I3.ok.glob,I3.ok.blt,zzc _,λx y c e1 e2=>I3.ok.inj x y c ((nF scope X.env).look e1) ((nF scope X.env).look e2),λx hx=>adU C.nocell C.has hx,λx c hf=>(nomatch hf),λ_=>I3.ok.hd hc,I3.ok.frames,.inl rfl,λb hb=>?_,I3.bs,zzK I3.ok.bsz I3.sz,λb o e hb=>?_,λb hb hf=>?_,I3.stack,I3.stkFree⟩
  ·obtain⟨q0,q1,q2,q3,q4,q5⟩:=f3 b hb
   refine⟨?_,λx c e=>q4 x c ((nF scope X.env).look e)⟩;obtain⟨o,e,_⟩:=T.obj _ _ ag b hb;exact zzv (zzn (ad _ _ e))
  ·obtain⟨q0,q1,q2,q3,q4,q5⟩:=f3 b hb
   rcases q3 with q3|q3
   ·exact I3.ok.noex b o e q3
   ·exact absurd (zzC (zzn e) (zzK I3.ok.bsz q3)) (yyn _)
  ·obtain⟨q0,q1,q2,q3,q4,q5⟩:=f3 b hb
   rcases zzb.mp (I3.stkSub b hf)with z|z
   ·exact q1 z
   ·exact q2 z
 have I4:Inv XC [] (nA σ cap) (upd H2 D (.lst [])) {s3 with heap:=h₁,toks:=s3.toks+([]:List (Str×Value)).length}:=by
  refine⟨ok,rfl,I3.bare,Un.kept ab,⟨_,ah,λi x v e1 e2 e3=>?_⟩,λx c e=>?_,I3.hok.fresh (zzc _),λx c e=>I3.freeC x c ((nF scope X.env).look e),λp hp=>absurd (show p∈([]:List (Addr×Obj))from hp) (by simp),I3.hok.kept ab,by rw[show(nA σ cap).length=cap.length from by simp[nA]];exact C.cap.len⟩
  ·obtain⟨j,g1,g2,g3,g4,c,g5⟩:=C.cap.get e1 e2
   obtain⟨m,_,hl⟩:=I3.loc
   obtain ⟨u,r,l⟩:=hl j x v g1 g2 (by
    rcases g3 with z|z
    ·exact .inr (.inl z)
    ·exact .inr (.inr z))
   refine⟨u,r,.inr ⟨g4,c,g5,?_⟩⟩;rcases l with⟨k,_⟩|⟨_,c',e,z⟩
   ·rcases g3 with q|q
    ·rw[k]at q;cases q
    ·rw[k]at q;cases q
   ·have e':=(nF scope X.env).look g5
    rw[e]at e';cases e';obtain⟨o,ho,hd⟩:=z;exact⟨o,ab _ _ ho,hd⟩
  ·obtain⟨v,o,ho,hd⟩:=I3.cell x c ((nF scope X.env).look e)
   exact⟨v,o,ab _ _ ho,hd⟩
 have as:tn 0 h₁:=T.keep _ _ _ ag λb _ o e=>ab b o (ad b o e)
 have an:∀{ac:List (Addr×Obj)}{H':Hp},(∀b∈fp,H' b=Option.none)->(∀p∈ac,p.1∉fp)->∀b∈fp,Qo XC ac H' b:=fun{ac H'} hn hp b hb=>by
  obtain⟨q1,q2⟩:=ok.exf b hb;exact⟨hn b hb,q1,ok.exfs b hb,.inl hb,q2,λp bc z=>hp p (by simpa [XC,cxC] using bc) (by rw[z];exact hb)⟩
 have bf:D∉fp:=λhb=>by
  obtain⟨o,e,_⟩:=T.obj _ _ ag D hb;rw[<-hD]at e;exact absurd (zzn e) (yyn _)
 have out:∀{σ':St}{H':Hp}{s':Shared},Inv XC [] σ' H' s'->Inv X pins σ H' s':=fun{σ' H' s'} J'=>
  I2.call' (ch:=fp) (J'.os.trans ap) (aw.trans J'.base) J'.hok J'.bare λb hb=>by
   obtain⟨q0,q1,q2,q3,q4,q5⟩:=f2 b hb;exact⟨q3,q1,q4,q5⟩
 have al:∀s₄:Shared,s₄={s3 with heap:=h₁,toks:=s3.toks+([]:List (Str×Value)).length}->
   codeAny (model X.prog X.w) X.A (.compLoop (.ListComp elt [⟨tg,iter,ifs,0⟩] scope pos) 0 (.ref it) (.ref D) (compEnvC scope (Bj scope X.env) s3.heap.objs.size X.env)) (R (.ref D) s3.heap.objs.size) s₄:=by
  rintro s₄ rfl
  refine KJ (λn s'=>∃i acc σ' H',Inv XC [] σ' H' s'/\tn i s'.heap/\(∀b∈fp,H' b=Option.none)/\H' D=some (.lst acc)/\W i n acc σ' H') ?_ m0
   ⟨0,[],nA σ cap,upd H2 D (.lst []),I4,as,λb hb=>(f3 b hb).1,eX,w0⟩
  rintro n s5 ⟨i,acc,σ5,H5,I5,aq,au,hA,w5⟩;rcases ak i n acc σ5 H5 w5 hA with⟨stop,q⟩|⟨go,ar⟩
  ·refine thn (T.done XC rfl rfl rfl hc i [] s5 σ5 H5 _ I5 (an au (by simp)) aq stop) λr s6 ⟨hr,I6⟩=>?_
   subst hr;obtain⟨m,hn,_⟩:=I6.loc
   exact hR D s3.heap.objs.size H5 s6 (out I6) ⟨m,hn⟩ I6.free (yyy I3.lt) I3.sz (λx c e z=>by
    obtain⟨v,o,ho,_⟩:=I3.cell x c e;rw[z]at ho;exact absurd (zzn ho) (yyn _)) (λp hp z=>by
    have e:=(I3.pin p hp).1;rw[z]at e;exact absurd (zzn e) (yyn _)) q
  ·refine thn (T.item XC rfl rfl rfl hc i [] s5 σ5 H5 _ I5 (an au (by simp)) aq go) λr s6 ⟨u,hr,h6⟩=>?_
   subst hr;refine thn h6 λ_ s7 ⟨x,H7,I7,r7,y7,ao,ax⟩=>?_;have I7':=I7.pinned (an ax (by simp)) (T.obj _ _ ao)
   have ae:∀{σ8:St}{H8:Hp}{s8:Shared},Inv XC ([]++JZ fp s7.heap) σ8 H8 s8->(∃aa,H8 D=some (.lst aa)/\∃m',m'<n/\W (i+1) m' aa σ8 H8)->
     ∃m,m<n/\∃i acc σ' H',Inv XC [] σ' H' s8/\tn i s8.heap/\(∀b∈fp,H' b=Option.none)/\H' D=some (.lst acc)/\W i m acc σ' H':=fun{σ8 H8 s8} I8⟨aa,af,m',hm,w8⟩=>by
    refine⟨m',hm,i+1,aa,σ8,H8,I8.unpinned,T.keep _ _ _ ao λb hb o e=>(I8.pin (b,o) (zzD _ (zzD _ (qg hb e)))).1,λb hb=>?_,af,w8⟩;obtain⟨o,e,d⟩:=T.obj _ _ ao b hb;exact(I8.pin (b,o) (zzD _ (zzD _ (qg hb e)))).2.1
   refine thn (hg s3 _ fp _ _ s7 σ5 H7 x u _ I7' r7 (ar x H7 y7)) λ_ s8 ⟨σ8,H8,I8,q8⟩=>?_;refine thn (ht s3 _ fp _ _ s8 σ8 H8 _ I8 q8) λb s9 ⟨H9,I9,q9⟩=>?_
   cases b with
   |false=>
    rw[z4 zzG]at q9⊢;obtain⟨m',hm,aa,af,w9⟩:=q9;exact ae I9 ⟨aa,af,m',hm,w9⟩
   |true=>
    rw[z8 rfl]at q9⊢;refine thn (he s3 _ fp _ _ s9 σ8 H9 _ I9 q9) λv ay ⟨y,av,bd,bb,aa,af,hz,m',hm,az⟩=>?_;refine thn (iH (X:=XC) _ ay σ8 av (.ref D) [y] (.ref D) [v] (λ_ Hz=>Hz=upd av D (.lst (aa++[y]))) bd rfl (.cons bb .nil) ⟨D,aa,y,rfl,rfl,af,hz,rfl⟩) λ_ bg ⟨_,bi,be,_,ba⟩=>?_;subst ba;exact ae be ⟨aa++[y],eX,m',hm,az⟩
 exact codeAny_compStart_list (al _ rfl) (T.self _ 0 _ _ _ as (al _ rfl))
def gF(hc:X.calm=true)(C:WK X iter scope N' cap)(hi:PI X tg iter wi)
  (hg:∀s H fp xe,PG (cxC X N' scope s H fp xe) tg g) (ht:∀s H fp xe,PTs (cxC X N' scope s H fp xe) ifs tt) (he:∀s H fp xe,PE (cxC X N' scope s H fp xe) elt te):
  PE X (.ListComp elt [⟨tg,iter,ifs,0⟩] scope pos) (adm cap wi g tt te):=by
 intro pins s σ H Q I h;rw[eval_ListComp];refine wpAny_comprehension_free (use:=none) rfl C.fold C.clos C.kind C.names (thn (hi pins s σ H _ I h) λv s1 h1=>thn h1 λab s2 h2=>?_);obtain⟨it,fp,tn,J,H2,e,I2,T,aa,f2,hw⟩:=h2;subst e;refine Lp (R:=λacc Cl=>compPost (model X.prog X.w) X.A X.xe none (EP X pins σ Q) acc Cl) hc C hg ht he I2 T aa f2 ?_ hw;intro D Cl H' s' I' ⟨m,hn⟩ hf h1 h2 h3 h4 q;exact⟨m,hn,λh' z=>⟨.ref D,H',I'.turned (t':=s'.toks) (λb o hb e=>(z.2 b hb).trans e) hf h1 (.inr h2) h3 h4,rfl,q⟩⟩
def nW{i:Nat}{y:Str}{py aa:Pos}(hN:X.N.Nodup)(ae:X.N[i]? =some y)(hy:X.env.scope.names.lookup y=some .local)
  (hc:X.calm=true) (C:WK X iter scope N' cap) (hi:PI X tg iter wi)
  (hg:∀s H fp xe,PG (cxC X N' scope s H fp xe) tg g) (ht:∀s H fp xe,PTs (cxC X N' scope s H fp xe) ifs tt) (he:∀s H fp xe,PE (cxC X N' scope s H fp xe) elt te)
  (af:swapsWith (.ListComp elt [⟨tg,iter,ifs,0⟩] scope pos) (some (.Name y py)) aa.line X.env=pure true:=by rfl):
  PS X (.Assign [.Name y py] (.ListComp elt [⟨tg,iter,ifs,0⟩] scope pos) aa) (afy (adm cap wi g tt te) (TF i)):=by
 intro pins s σ H D I h;rw[exec_Assign_Name_used _ _ _ _ af];refine z5 (wpAny_standAt (z5 ?_));show wpAny _ X.A (do let _<-comprehension (.ListComp elt [⟨tg,iter,ifs,0⟩] scope pos) scope X.env _ (newList []) false (eval iter X.env) (some (assign (.Name y py) X.env))) _ _ s
 refine z5 (yyg (wpAny_comprehension_free (use:=some (assign (.Name y py) X.env)) (Q:=λ_ s'=>SP X pins D .next s') rfl C.fold C.clos C.kind C.names (thn (hi pins s σ H _ I h) λv s1 h1=>thn h1 λai s2 h2=>?_))
  (λ_ s' hq=>zzi (zzi hq)) λ_ _ e=>e)
 obtain⟨it,fp,tn,J,H2,e,I2,T,ab,f2,hw⟩:=h2;subst e;refine Lp (Q:=λx H1=>TF i x σ H1 D.nx) (R:=λacc Cl=>compPost (model X.prog X.w) X.A X.xe (some (assign (.Name y py) X.env)) (λ_ s'=>SP X pins D .next s') acc Cl) hc C hg ht he I2 T ab f2 ?_ hw;intro Da Cl H' s' I' ⟨m,hn⟩ hf h1 h2 h3 h4 q;show wpAny _ _ (assign (.Name y py) X.env (.ref Da)) _ _ s';refine wpAny_assign_Name (Nu I' hN ae (.inl hy) (v:=.ref Da) rfl (λag I'' ⟨a,ah,ha⟩=>?_) (.inr hy))
 have ac:Cl≠a:=by
  rcases ha with z|z
  ·rw[z];exact h1
  ·exact Ne.symm (h3 y a z)
 exact⟨m,hn.sameBut ah ac,λh' ad=>⟨_,H',I''.turned (t':=ag.toks) (λb o hb e=>(ad.2 b hb).trans e) hf h1 (.inr h2) h3 h4,q⟩⟩
end
end L2
namespace L2
open PySem PySem.Spec PyProof.Rows
section
variable{X:Cx}{a b c:Expr}{ta tb tc:TE}{pos:Pos}
noncomputable def abV(i j:Int):Prop:=i.natAbs<2^2000/\j.natAbs<2^2000
def abV.ok{i j:Int}(h:abV i j):IntMulOk i j:=
 IntMulOk.of_bits (zzK (intBits_le h.1) (by decide)) (zzK (intBits_le h.2) (by decide))
noncomputable def Tr(_ j:Int):Prop:=0<j/\j.natAbs<2^2000
def iQ:OpR X (binaryOp .FloorDiv) (rI Tr λi j=> .int (i/j)):=opI λi j _ _ _ _ _ z q=>by
 have h1:(0:Int)<j:=z.1;have h0:j.natAbs≠0:=by omega
 have h2:j.natAbs.log2<2000:=(Nat.log2_lt h0).mpr z.2;exact floordiv_int (by omega) (by rw[Int.fdiv_eq_ediv_of_nonneg i (by omega)];exact q) (.inl (PyProof.noPylong_of_log2 (by omega)))
def Va(hc:X.calm=true):jz X (.builtin "sum") (λxs H Q=>∃(a:Addr)(ns:List Int),xs=[.ref a]/\SqL X.K H a (ns.map V.int)/\Q (.int ns.sum) H):=by
 intro pins s σ H xs us Q I r h;obtain⟨a,ns,rfl,hq,q⟩:=h;obtain⟨u,rfl,r1⟩:=vals1 r;cases r1;obtain⟨its,rv,pl,hz⟩:=I.list hq;have hi:IntsAre its ns:=intsAre_of rv;obtain⟨xs,e⟩:=hi.allInts.items;have z:=pl.isList;rw[e]at z;refine sum_intListG (I.ok.hd hc) z λh' tk t' hk=>?_;have e1:its=(intItems xs).toList:=by rw[<-e]
 have e2:xs.toList.map (·.1)=ns:=by rw[<-nums_intItems,<-e1,hi.numsOf]
 have es:preSum (numAt xs) xs.size=ns.sum:=by rw[preSum_eq,zz8 (by simp),e2]
 rw[es];exact⟨.int ns.sum,H,I.kept hk,⟨_,rfl⟩,q⟩
def Hr{pins:List (Addr×Obj)}{σ:St}{H:Hp}{s:Shared}{l:Addr}{bs:List Bool}(I:Inv X pins σ H s)(hq:SqL X.K H l (bs.map V.bl)):
  ∃its:List Value,its.length=bs.length/\s.heap.IsList l its.toArray/\l≠s.heap.objs.size/\∀(i:Nat)(v:Value),its.toArray[i]? =some v->v=.bool (bs.getD i false):=by
 obtain⟨its,q,pl,hz⟩:=I.list hq;refine⟨its,by rw[<-q.length,z0],pl.isList,?_,λi v e=>?_⟩
 ·obtain⟨o,n,e,_⟩:=pl
  exact zzv (zzn e)
 ·have e':its[i]? =some v:=by simpa using e
  have hi:i<its.length:=(zzm.mp e').1;have hb:i<bs.length:=by have:=q.length;rw[z0]at this;omega
  obtain⟨u,z,ru⟩:=q.get (i:=i) (x:=.bl bs[i]) (by simp[hb]);rw[e']at z;cases z;have:v=Value.bool bs[i]:=ru;rw[this];simp[List.getD,hb]
def range_any(bs:List Bool):(List.range bs.length).any (λi=>bs.getD i false)=bs.any id:=by
 rw[yy2];simp only[zzZ,zzU,id];constructor
 ·rintro⟨i,hi,e⟩
  refine⟨bs[i],yya hi,?_⟩
  simpa [List.getD,hi] using e
 ·rintro⟨x,q,e⟩
  obtain⟨i,hi,rfl⟩:=List.mem_iff_getElem.mp q;exact⟨i,hi,by simpa [List.getD,hi] using e⟩
def range_all(bs:List Bool):(List.range bs.length).all (λi=>bs.getD i false)=bs.all id:=by
 rw[yy2];simp only[ZB,zzU,id];constructor
 ·intro h x q
  obtain⟨i,hi,rfl⟩:=List.mem_iff_getElem.mp q
  simpa [List.getD,hi] using h i hi
 ·intro h i hi
  have:=h bs[i] (yya hi)
  simpa [List.getD,hi] using this
def XX(hc:X.calm=true):jz X (.builtin "any") (λxs H Q=>∃(a:Addr)(bs:List Bool),xs=[.ref a]/\SqL X.K H a (bs.map V.bl)/\Q (.bl (bs.any id)) H):=by
 intro pins s σ H xs us Q I r h;obtain⟨a,bs,rfl,hq,q⟩:=h;obtain⟨u,rfl,r1⟩:=vals1 r;cases r1;obtain⟨its,aa,hl,ac,ab⟩:=Hr I hq;refine call_any_walk (yyN hl ?_);refine⟨s.heap.objs.size,_,_,_,_,_,λi=>bs.getD i false,rfl,Walks.list (A:=X.A.in1) (I.ok.hd hc) s.heap.objs.size a ac its.toArray,⟨⟨_,zzo _ rfl,rfl,rfl⟩,hl.at λo e=>z7 _ e⟩,λi v s' Q' E' e hQ=>?_,λh' tk hk=>?_⟩
 ·rw[ab i v e]
  exact yyl hQ
 ·have e:(List.range its.toArray.size).any (λi=>bs.getD i false)=bs.any id:=by rw[zzf,aa];exact range_any bs
  rw[e];refine⟨.bl (bs.any id),H,I.kept λb o e=>hk b o ?_ (z7 _ e),rfl,q⟩;intro z;have z':b=s.heap.objs.size:=by simpa using z
  rw[z']at e;exact absurd (zzn e) (yyn _)
def Vl(hc:X.calm=true):jz X (.builtin "all") (λxs H Q=>∃(a:Addr)(bs:List Bool),xs=[.ref a]/\SqL X.K H a (bs.map V.bl)/\Q (.bl (bs.all id)) H):=by
 intro pins s σ H xs us Q I r h;obtain⟨a,bs,rfl,hq,q⟩:=h;obtain⟨u,rfl,r1⟩:=vals1 r;cases r1;obtain⟨its,aa,hl,ac,ab⟩:=Hr I hq;refine call_all_walk (yyN hl ?_);refine⟨s.heap.objs.size,_,_,_,_,_,λi=>bs.getD i false,rfl,Walks.list (A:=X.A.in1) (I.ok.hd hc) s.heap.objs.size a ac its.toArray,⟨⟨_,zzo _ rfl,rfl,rfl⟩,hl.at λo e=>z7 _ e⟩,λi v s' Q' E' e hQ=>?_,λh' tk hk=>?_⟩
 ·rw[ab i v e]
  exact yyl hQ
 ·have e:(List.range its.toArray.size).all (λi=>bs.getD i false)=bs.all id:=by rw[zzf,aa];exact range_all bs
  rw[e];refine⟨.bl (bs.all id),H,I.kept λb o e=>hk b o ?_ (z7 _ e),rfl,q⟩;intro z;have z':b=s.heap.objs.size:=by simpa using z
  rw[z']at e;exact absurd (zzn e) (yyn _)
end
end L2
namespace L2
open PySem PySem.Spec PyProof.Rows
section
variable{X:Cx}{a b c:Expr}{ta tb tc:TE}{pos:Pos}
noncomputable def Bw(i j:Int):Prop:=afU i j\/abV i j
def jq:OpR X (binaryOp .Mult) (rI Bw λi j=> .int (i*j)):=opI λ_ _ _ _ _ _ _ z q=>mul_int q (z.elim (λh=>h.ok) λh=>h.ok)
def La{i j:Int}(h1: -(2^64)<i)(h2:i<2^64):Bw i j:=.inl (.inl ⟨h1,h2⟩)
def Dy{i j:Int}(h1: -(2^64)<j)(h2:j<2^64):Bw i j:=.inl (.inr ⟨h1,h2⟩)
def Bw.big{i j:Int}(h1:i.natAbs<2^2000)(h2:j.natAbs<2^2000):Bw i j:=.inr ⟨h1,h2⟩
def Nb:jz X (.builtin "isinstance") (λxs H Q=>∃x n t k,xs=[x,.ty n]/\Gp X.K H x t/\PySem.W.kitOne X.K t (.type n)=some k/\Q (.bl k) H):=by
 intro pins s σ H xs us Q I r h;obtain⟨x,n,t,k,rfl,ty,e,q⟩:=h;obtain⟨u,w',rfl,z,rc⟩:=vals2 r;cases rc;exact Ni I z ty e λtk=>⟨.bl k,H,I.tok _,rfl,q⟩
def Nv:jz X (.builtin "isinstance") (λxs H Q=>∃x C t k,xs=[x,.ref C]/\Gp X.K H x t/\PySem.W.kitOne X.K t (.ref C)=some k/\Q (.bl k) H):=by
 intro pins s σ H xs us Q I r h;obtain⟨x,C,t,k,rfl,ty,e,q⟩:=h;obtain⟨u,w',rfl,z,rc⟩:=vals2 r;cases rc;exact Ni I z ty e λtk=>⟨.bl k,H,I.tok _,rfl,q⟩
def Uw{x:Str}(T:String)(z:Gl X x)(hm:X.mg x=none)(q:bootBuiltins x=some (.type T))(hn:x≠ "__name__" :=by decide) (hd:(x==("__debug__" :Str))=false:=by decide):PE X (.Name x pos) (tC (.ty T)):=ado z hm q rfl hn hd
end
section
variable{D:Ends}{σ:St}{H:Hp}{t u:TS}{te ta tb tc:TE}{tt tu:TT}{Q:VK}{QB:Bool->Hp->Prop}{QA:List V->Hp->Prop}{QG:St->Hp->Prop}{v x y:V}{vs:List V}{i j:Nat}{g:TG}{gs:TGs}{A:TA}{K:Fg_}
def ap_seq:aeN t u D σ H=t {D with nx:=u D} σ H:=rfl
def ap_next:aee D σ H=D.nx σ H:=rfl
def ap_asg:afy te g D σ H=te σ H λx H1=>g x σ H1 D.nx:=rfl
def ap_name:TF i v σ H QG=QG (σ.set i (some v)) H:=rfl
def ap_var:Ly i σ H Q=∃v,σ[i]? =some (some v)/\Q v H:=rfl
def ap_c:tC v σ H Q=Q v H:=rfl
def ap_op{r:R2}:tOp r ta tb σ H Q=ta σ H λx H1=>tb σ H1 λy H2=>r x y H2 Q:=rfl
def ap_un{r:V->Hp->VK->Prop}:tUn r ta σ H Q=ta σ H λx H1=>r x H1 Q:=rfl
def ap_rI{C:Int->Int->Prop}{f:Int->Int->V}:rI C f x y H Q=∃i j,x=.int i/\y=.int j/\C i j/\Q (f i j) H:=rfl
def ap_rI0{f:Int->Int->V}:rI0 f x y H Q=∃i j,x=.int i/\y=.int j/\Q (f i j) H:=rfl
def ap_rU{f:Int->V}:rU f x H Q=∃i,x=.int i/\Q (f i) H:=rfl
def ap_rEq:rEq x y H Q=(Yv x y=true/\Q (.bl (decide (x=y))) H):=rfl
def ap_rNe:rNe x y H Q=(Yv x y=true/\Q (.bl (!decide (x=y))) H):=rfl
def ap_ret:agf te D σ H=te σ H D.rt:=rfl
def ap_retN:aek D σ H=D.rt .non H:=rfl
def ap_drop:aeb te D σ H=te σ H λ_ H1=>D.nx σ H1:=rfl
def ap_if:abB tt t u D σ H=tt σ H λb H1=>if b=true then t D σ H1 else u D σ H1:=rfl
def ap_test:aeO te σ H QB=te σ H λx H'=>∃k,x=.bl k/\QB k H':=rfl
def ap_tB:tB te σ H QB=te σ H λx H1=>∃c,x=.bl c/\QB c H1:=rfl
def ap_and:agg tt tu σ H QB=tt σ H λc H1=>if c=true then tu σ H1 QB else QB false H1:=rfl
def ap_or:tOr tt tu σ H QB=tt σ H λc H1=>if c=true then QB true H1 else tu σ H1 QB:=rfl
def ap_not:agA tt σ H QB=tt σ H λc H1=>QB (!c) H1:=rfl
def ap_andV:aeX ta tb σ H Q=ta σ H λx H1=>∃c,x=.bl c/\if c=true then tb σ H1 Q else Q (.bl false) H1:=rfl
def ap_notV:afp ta σ H Q=ta σ H λx H1=>∃c,x=.bl c/\Q (.bl (!c)) H1:=rfl
def ap_ifE:tIf tt ta tb σ H Q=tt σ H λc H1=>if c=true then ta σ H1 Q else tb σ H1 Q:=rfl
def ap_call{sp:Sp}{dvs:List V}{E:XK}:Yq sp dvs E A σ H Q=A σ H λvs H1=>sp (vs++dvs) H1 Q E:=rfl
def ap_nil:VL σ H QA=QA [] H:=rfl
def ap_cons:Br ta A σ H QA=ta σ H λx H1=>A σ H1 λxs H2=>QA (x::xs) H2:=rfl
def ap_cb{r:List V->Hp->VK->Prop}:tCB r A σ H Q=A σ H λvs H1=>r vs H1 Q:=rfl
def ap_lst:ags A σ H Q=A σ H λxs H1=>xs.length<=sizeLine/\∀p,H1 p=none->Q (.ref p) (upd H1 p (.lst xs)):=rfl
def ap_tup:agn A σ H Q=A σ H λxs H1=>xs.length<=sizeLine/\∀p,H1 p=none->Q (.ref p) (upd H1 p (.tup xs)):=rfl
def ap_chain{r q:R2}:abw r q ta tb tc σ H Q=ta σ H λx H1=>tb σ H1 λy H2=>r x y H2 λz H3=>∃k,z=.bl k/\(if k=true then tc σ H3 λw' H4=>q y w' H4 Q else Q (.bl false) H3):=rfl
def ap_sl{r:V->Option Int->Option Int->Hp->VK->Prop}{tl th:TO}:tSl r te tl th σ H Q=te σ H λx H1=>tl σ H1 λl H2=>th σ H2 λu q=>r x l u q Q:=rfl
def ap_noPart{QO:Option Int->Hp->Prop}:Ve σ H QO=QO none H:=rfl
def ap_part{QO:Option Int->Hp->Prop}:aeY te σ H QO=te σ H λx H1=>∃i,x=.int i/\QO (some i) H1:=rfl
def ap_gNil:agl vs σ H QG=(vs=[]/\QG σ H):=rfl
def ap_gCons{u:TGs}:afs g u vs σ H QG=∃v r,vs=v::r/\g v σ H λq H'=>u r q H' QG:=rfl
def ap_gTup{n:Nat}:afJ K n gs v σ H QG=∃a xs,v=.ref a/\SqT K H a xs/\xs.length=n/\gs xs σ H QG:=rfl
def ap_bm{T:String}{r:V->List V->Hp->VK->Prop}:tBM K T r te A σ H Q=te σ H λx H1=>tyV K T x H1/\A σ H1 λxs H2=>r x xs H2 Q:=rfl
def ap_bm0{T:String}{r:V->List V->Hp->VK->Prop}:afM K T r te σ H Q=te σ H λx H1=>tyV K T x H1/\r x [] H1 Q:=rfl
def ap_ixL{x y:V}:aga K x y H Q=∃p xs i v,x=.ref p/\y=.int i/\SqL K H p xs/\atI xs i=some v/\Q v H:=rfl
def ap_slL{lo hi:Option Int}:afN K x lo hi H Q=∃a xs,x=.ref a/\SqL K H a xs/\∀p,H p=none->Q (.ref p) (upd H p (.lst (Ny xs lo hi))):=rfl
def scal_int(i j:Int):Yv (.int i) (.int j)=true:=rfl
def scal_str(i j:Str):Yv (.str i) (.str j)=true:=rfl
def scal_bl(i j:Bool):Yv (.bl i) (.bl j)=true:=rfl
def start_eq(N:List Str)(vs:List V):start N vs=vs.map some++List.replicate (N.length - vs.length) none:=rfl
end
end L2
namespace L2
open PySem PySem.Spec PyProof.Rows
def Fe{α:Type}(l:List α):l.filter (λ_=>true)=l:=by simp
theorem Same.upd{H H':Hp}{a:Addr}{o:HO}(h:Same H H')(hn:H a=Option.none):Same H (upd H' a o):=λb u e=>by
 rw[fC (fU e hn)];exact h b u e
def eZ{H:Hp}{a:Addr}{o:HO}(hn:H a=Option.none):Same H (L2.upd H a o):=Same.upd (same_refl H) hn
section
variable{K:Fg_}{a D:Addr}{xs:List V}{g:TG}{tt:TT}{te:TE}{σ0:St}{H1:Hp}{Q:VK}
def rQ{xs:List V}(J:It)(Sσ:St->Prop)(p:V->Bool)(F:V->V)(hD:H1 D=Option.none)(h0:Sσ σ0)(hz:xs.length<=sizeLine)
  (ae:∀(i:Nat) x H,xs[i]? =some x->Same H1 H->J.go i H/\∀y H',J.yld i H y H'->y=x/\H'=H) (ad:∀H,Same H1 H->J.stop xs.length H)
  (hs:∀x∈xs,∀(σ:St)(H:Hp)(R1:St->VK)(R2:St->Hp->Prop),Sσ σ->Same H1 H->(p x=true->∀z H6,Sσ z->Same H H6->R1 z (F x) H6)->(p x=false->∀z H6,Sσ z->Same H H6->R2 z H6)->
   g x σ H λz H4=>tt z H4 λb H5=>if b=true then te z H5 (R1 z)else R2 z H5)
  (k:∀H',Same H1 H'->H' D=some (.lst ((xs.filter p).map F))->Q (.ref D) H'):
  ∃W:Nat->Nat->List V->St->Hp->Prop,(∃m,W 0 m [] σ0 (upd H1 D (.lst [])))/\∀i m acc σ1 H2,W i m acc σ1 H2->H2 D=some (.lst acc)->
   (J.stop i H2/\Q (.ref D) H2)\/(J.go i H2/\∀x H3,J.yld i H2 x H3->g x σ1 H3 λz H4=>tt z H4 λb H5=>
    if b=true then te z H5 λv H6=>∃q,H6 D=some (.lst q)/\q.length<sizeLine/\∃m',m'<m/\W (i+1) m' (q++[v]) z (upd H6 D (.lst (q++[v])))
    else∃m',m'<m/\∃q,H5 D=some (.lst q)/\W (i+1) m' q z H5):=by
 refine⟨λi m acc σ H=>m=xs.length - i/\i<=xs.length/\Sσ σ/\Same H1 H/\acc=((xs.take i).filter p).map F,⟨xs.length,rfl,zzB _,h0,eZ hD,by simp⟩,?_⟩;rintro i m acc σ H ⟨rfl,hi,hσ,sm,rfl⟩ hA;by_cases ab:i<xs.length
 ·have hx:xs[i]? =some xs[i]:=by simp[ab]
  obtain⟨go,yl⟩:=ae i xs[i] H hx sm;refine .inr ⟨go,λy H' hy=>?_⟩;obtain⟨rfl,rfl⟩:=yl y H' hy;have aa:xs.take (i+1)=xs.take i++[xs[i]]:=by rw[zzO,hx];rfl
  have af:(((xs.take i).filter p).map F).length<=i:=by
   rw[z0];exact zzK (yym _ _) (by rw[zzR];exact Nat.min_le_left _ _)
  refine hs xs[i] (yya ab) σ H' _ _ hσ sm (λhp z H6 ac s6=>?_) (λhp z H6 ac s6=>?_)
  ·refine⟨_,s6 _ _ hA,by omega,xs.length - (i+1),by omega,rfl,ab,ac,(sm.trans s6).upd hD,?_⟩
   rw[aa,zz1,zza];simp[hp]
  ·refine⟨xs.length - (i+1),by omega,_,s6 _ _ hA,rfl,ab,ac,sm.trans s6,?_⟩
   rw[aa,zz1,zza];simp[hp]
 ·have e:i=xs.length:=by omega
  subst e;refine .inl ⟨ad H sm,k H sm ?_⟩;rw[hA,yyb]
def Yh(Sσ:St->Prop)(p:V->Bool)(F:V->V)(hS:SqL K H1 a xs)(hD:H1 D=Option.none)(h0:Sσ σ0)(hz:xs.length<=sizeLine)
  (hs:∀x∈xs,∀(σ:St)(H:Hp)(R1:St->VK)(R2:St->Hp->Prop),Sσ σ->Same H1 H->(p x=true->∀z H6,Sσ z->Same H H6->R1 z (F x) H6)->(p x=false->∀z H6,Sσ z->Same H H6->R2 z H6)->
   g x σ H λz H4=>tt z H4 λb H5=>if b=true then te z H5 (R1 z)else R2 z H5)
  (k:∀H',Same H1 H'->H' D=some (.lst ((xs.filter p).map F))->Q (.ref D) H'):
  ∃W:Nat->Nat->List V->St->Hp->Prop,(∃m,W 0 m [] σ0 (upd H1 D (.lst [])))/\∀i m acc σ1 H2,W i m acc σ1 H2->H2 D=some (.lst acc)->
   ((Itl K a).stop i H2/\Q (.ref D) H2)\/((Itl K a).go i H2/\∀x H3,(Itl K a).yld i H2 x H3->g x σ1 H3 λz H4=>tt z H4 λb H5=>
    if b=true then te z H5 λv H6=>∃q,H6 D=some (.lst q)/\q.length<sizeLine/\∃m',m'<m/\W (i+1) m' (q++[v]) z (upd H6 D (.lst (q++[v])))
    else∃m',m'<m/\∃q,H5 D=some (.lst q)/\W (i+1) m' q z H5):=
 rQ (Itl K a) Sσ p F hD h0 hz (λi x H hx sm=>⟨⟨xs,x,sm.seq hS,hx⟩,λy H' hy=>⟨zzq ((hy.2 xs (sm.seq hS)).symm.trans hx),hy.1⟩⟩) (λH sm=>⟨xs,sm.seq hS,zzc _⟩) hs k
def Tj{lo:Int}{n:Nat}(Sσ:St->Prop)(p:V->Bool)(F:V->V)(hD:H1 D=Option.none)(h0:Sσ σ0)(hz:n<=sizeLine)
  (hs:∀i:Nat,i<n->∀(σ:St)(H:Hp)(R1:St->VK)(R2:St->Hp->Prop),Sσ σ->Same H1 H->(p (.int (lo+i))=true->∀z H6,Sσ z->Same H H6->R1 z (F (.int (lo+i))) H6)->(p (.int (lo+i))=false->∀z H6,Sσ z->Same H H6->R2 z H6)->
   g (.int (lo+i)) σ H λz H4=>tt z H4 λb H5=>if b=true then te z H5 (R1 z)else R2 z H5)
  (k:∀H',Same H1 H'->H' D=some (.lst ((((List.range n).map fun(i:Nat)=>V.int (lo+i)).filter p).map F))->Q (.ref D) H'):
  ∃W:Nat->Nat->List V->St->Hp->Prop,(∃m,W 0 m [] σ0 (upd H1 D (.lst [])))/\∀i m acc σ1 H2,W i m acc σ1 H2->H2 D=some (.lst acc)->
   ((Itr lo n).stop i H2/\Q (.ref D) H2)\/((Itr lo n).go i H2/\∀x H3,(Itr lo n).yld i H2 x H3->g x σ1 H3 λz H4=>tt z H4 λb H5=>
    if b=true then te z H5 λv H6=>∃q,H6 D=some (.lst q)/\q.length<sizeLine/\∃m',m'<m/\W (i+1) m' (q++[v]) z (upd H6 D (.lst (q++[v])))
    else∃m',m'<m/\∃q,H5 D=some (.lst q)/\W (i+1) m' q z H5):=by
 refine rQ (xs:=(List.range n).map fun(i:Nat)=>V.int (lo+i)) (Itr lo n) Sσ p F hD h0 (by simpa using hz) (λi x H hx sm=>?_) (λH sm=>?_) (λx hx σ H R1 R2 h1 h2 h3 h4=>?_) k
 ·have hi:i<n:=by simpa using (zzm.mp hx).1
  have e:x=.int (lo+i):=by
   rw[zzl,List.getElem?_range hi]at hx;exact(zzq hx).symm
  exact⟨hi,λy H' hy=>⟨hy.2.trans e.symm,hy.1⟩⟩
 ·show n<=_
  simp
 ·obtain⟨i,hi,rfl⟩:=z3.mp hx
  exact hs i (zzU.mp hi) σ H R1 R2 h1 h2 h3 h4
end
end L2
namespace L2
open PySem PySem.Spec PyProof.Rows
inductive DV where
 |non|bl (b:Bool)|int (i:Int)|str (x:Str)|lst (xs:List DV)|tup (xs:List DV)
mutual
inductive FZ(K:Fg_)(H:Hp):V->DV->Prop
 |non:FZ K H .non .non
 |bl (b:Bool):FZ K H (.bl b) (.bl b)
 |int (i:Int):FZ K H (.int i) (.int i)
 |str (x:Str):FZ K H (.str x) (.str x)
 |lst {a:Addr} {vs:List V} {ds:List DV} (h:SqL K H a vs) (hs:lu K H vs ds):FZ K H (.ref a) (.lst ds)
 |tup {a:Addr} {vs:List V} {ds:List DV} (h:SqT K H a vs) (hs:lu K H vs ds):FZ K H (.ref a) (.tup ds)
inductive lu(K:Fg_)(H:Hp):List V->List DV->Prop
 |nil:lu K H [] []
 |cons {v:V} {d:DV} {vs:List V} {ds:List DV} (h:FZ K H v d) (hs:lu K H vs ds):lu K H (v::vs) (d::ds)
end
mutual
noncomputable def gZ:DV->DV->Bool
 |.non,.non=>true
 |.bl a,.bl b=>a==b
 |.int a,.int b=>a==b
 |.bl a,.int b=>(if a then 1 else 0)==b
 |.int a,.bl b=>a==(if b then 1 else 0)
 |.str a,.str b=>a==b
 |.lst xs,.lst ys=>sW xs ys
 |.tup xs,.tup ys=>sW xs ys
 |_,_=>false
noncomputable def sW:List DV->List DV->Bool
 |[],[]=>true
 |x::xs,y::ys=>gZ x y && sW xs ys
 |_,_=>false
end
mutual
noncomputable def qF:DV->Nat
 |.lst xs=>mK xs+1
 |.tup xs=>mK xs+1
 |_=>0
noncomputable def mK:List DV->Nat
 |[]=>0
 |x::xs=>max (qF x) (mK xs)
end
theorem lu.length{K:Fg_}{H:Hp}:∀{vs:List V}{ds:List DV},lu K H vs ds->vs.length=ds.length
 |_,_,.nil=>rfl
 |_,_,.cons _ hs=>congrArg (·+1) (lu.length hs)
theorem lu.get{K:Fg_}{H:Hp}:∀{vs:List V}{ds:List DV}{j:Nat}{v:V}{d:DV},lu K H vs ds->vs[j]? =some v->ds[j]? =some d->FZ K H v d
 |_,_,_,_,_,.nil,h,_=>by simp at h
 |_,_,0,_,_,.cons h _,e1,e2=>by simp at e1 e2;subst e1 e2;exact h
 |_,_,j+1,_,_,.cons _ hs,e1,e2=>lu.get (j:=j) hs (by simpa using e1) (by simpa using e2)
theorem Ka:∀{ds:List DV}{j:Nat}{d:DV},ds[j]? =some d->qF d<=mK ds
 |[],_,_,h=>by simp at h
 |x::xs,0,d,h=>by simp at h;subst h;unfold mK;exact Nat.le_max_left _ _
 |x::xs,j+1,d,h=>by unfold mK;exact zzK (Ka (j:=j) (by simpa using h)) (Nat.le_max_right _ _)
theorem lE:∀(xs ys:List DV),xs.length=ys.length->sW xs ys=(List.range xs.length).all λj=>gZ (xs.getD j .non) (ys.getD j .non)
 |[],[],_=>rfl
 |x::xs,y::ys,h=>by
  unfold sW;rw[lE xs ys (by simpa using h),zzu,List.range_succ_eq_map,List.all_cons,List.all_map];rfl
 |[],_::_,h=>by simp at h
 |_::_,[],h=>by simp at h
theorem kZ:∀(xs ys:List DV),xs.length≠ys.length->sW xs ys=false
 |[],[],h=>absurd rfl h
 |x::xs,y::ys,h=>by
  unfold sW;rw[kZ xs ys (by simpa using h),Zr]
 |[],_::_,_=>by unfold sW;rfl
 |_::_,[],_=>by unfold sW;rfl
def RP(xs ys:List DV):gZ (.lst xs) (.lst ys)=sW xs ys:=by unfold gZ;rfl
def Rp(xs ys:List DV):gZ (.tup xs) (.tup ys)=sW xs ys:=by unfold gZ;rfl
mutual
theorem Ez:∀d:DV,gZ d d=true
 |.non=>by unfold gZ;rfl
 |.bl a=>by unfold gZ;simp
 |.int a=>by unfold gZ;simp
 |.str a=>by unfold gZ;simp
 |.lst xs=>by unfold gZ;exact nM xs
 |.tup xs=>by unfold gZ;exact nM xs
theorem nM:∀ds:List DV,sW ds ds=true
 |[]=>by unfold sW;rfl
 |x::xs=>by unfold sW;rw[Ez x,nM xs];rfl
end
section
variable{X:Cx}{pins:List (Addr×Obj)}{σ:St}{H:Hp}{s:Shared}
def Inv.noboth(I:Inv X pins σ H s){a:Addr}{xs ys:List V}(h:SqL X.K H a xs)(h':SqT X.K H a ys):False:=by
 obtain⟨its,r,⟨o,n,e,c,_⟩,_⟩:=I.list h;obtain⟨its',r',⟨o',z,q,_⟩,_⟩:=I.tuple h';rw[e]at z;cases z;rw[c]at q;exact absurd q (by decide)
mutual
theorem FZ.inj(I:Inv X pins σ H s):∀{v:V}{d d':DV},FZ X.K H v d->FZ X.K H v d'->d=d'
 |_,_,_,.non,.non=>rfl
 |_,_,_,.bl _,.bl _=>rfl
 |_,_,_,.int _,.int _=>rfl
 |_,_,_,.str _,.str _=>rfl
 |_,_,_,.lst h hs,.lst h' hs'=>by
  have e:=I.list_inj h h';subst e;rw[lu.inj I hs hs']
 |_,_,_,.tup h hs,.tup h' hs'=>by
  have e:=I.tuple_inj h h';subst e;rw[lu.inj I hs hs']
 |_,_,_,.lst h _,.tup h' _=>(I.noboth h h').elim
 |_,_,_,.tup h _,.lst h' _=>(I.noboth h' h).elim
theorem lu.inj(I:Inv X pins σ H s):∀{vs:List V}{ds ds':List DV},lu X.K H vs ds->lu X.K H vs ds'->ds=ds'
 |_,_,_,.nil,.nil=>rfl
 |_,_,_,.cons h hs,.cons h' hs'=>by rw[FZ.inj I h h',lu.inj I hs hs']
end
def in1_units(A:Around):A.in1.units=A.units+1:=rfl
def mY(I:Inv X pins σ H s){A:Around}{d1 d2:DV}{v1 v2:V}{u1 z:Value}(hd:qF d1<=0)(aa:A.units<cLine)(h1:FZ X.K H v1 d1)(h2:FZ X.K H v2 d2)(r1:RelV v1 u1)(q:RelV v2 z):SeqAt.EqAt A s u1 z (gZ d1 d2):=by
 cases h1 with
 |lst h hs=>unfold qF at hd;omega
 |tup h hs=>unfold qF at hd;omega
 |non=>
  cases (show u1=Value.none from r1)
  cases h2 with
  |non=>cases (show z=Value.none from q);unfold gZ;exact SeqAt.EqAt.same _
  |bl b=>cases (show z=Value.bool b from q);unfold gZ;exact SeqAt.EqAt.none_bool b
  |int i=>obtain⟨t,e⟩:=(show∃t,z=Value.int i t from q);subst e;unfold gZ;exact SeqAt.EqAt.none_int i t
  |str x=>obtain⟨t,e⟩:=(show∃t,z=Value.str x t from q);subst e;unfold gZ;exact SeqAt.EqAt.none_str x t
  |lst h hs=>obtain⟨its,_,p,_⟩:=I.list h;cases q;unfold gZ;exact SeqAt.EqAt.none_list p.isList aa
  |tup h hs=>obtain⟨its,_,p,_⟩:=I.tuple h;cases q;unfold gZ;exact SeqAt.EqAt.none_tuple p aa
 |bl a=>
  cases (show u1=Value.bool a from r1)
  cases h2 with
  |non=>cases (show z=Value.none from q);unfold gZ;exact SeqAt.EqAt.bool_none a
  |bl b=>cases (show z=Value.bool b from q);unfold gZ;exact SeqAt.EqAt.bool_bool a b
  |int i=>obtain⟨t,e⟩:=(show∃t,z=Value.int i t from q);subst e;unfold gZ;exact SeqAt.EqAt.bool_int a i t
  |str x=>obtain⟨t,e⟩:=(show∃t,z=Value.str x t from q);subst e;unfold gZ;exact SeqAt.EqAt.bool_str a x t
  |lst h hs=>obtain⟨its,_,p,_⟩:=I.list h;cases q;unfold gZ;exact SeqAt.EqAt.bool_list a p.isList aa
  |tup h hs=>obtain⟨its,_,p,_⟩:=I.tuple h;cases q;unfold gZ;exact SeqAt.EqAt.bool_tuple a p aa
 |int a=>
  obtain⟨t1,e1⟩:=(show∃t,u1=Value.int a t from r1);subst e1
  cases h2 with
  |non=>cases (show z=Value.none from q);unfold gZ;exact SeqAt.EqAt.int_none a t1
  |bl b=>cases (show z=Value.bool b from q);unfold gZ;exact SeqAt.EqAt.int_bool a t1 b
  |int i=>obtain⟨t,e⟩:=(show∃t,z=Value.int i t from q);subst e;unfold gZ;exact SeqAt.EqAt.int_int a t1 i t
  |str x=>obtain⟨t,e⟩:=(show∃t,z=Value.str x t from q);subst e;unfold gZ;exact SeqAt.EqAt.int_str a t1 x t
  |lst h hs=>obtain⟨its,_,p,_⟩:=I.list h;cases q;unfold gZ;exact SeqAt.EqAt.int_list a t1 p.isList aa
  |tup h hs=>obtain⟨its,_,p,_⟩:=I.tuple h;cases q;unfold gZ;exact SeqAt.EqAt.int_tuple a t1 p aa
 |str a=>
  obtain⟨t1,e1⟩:=(show∃t,u1=Value.str a t from r1);subst e1
  cases h2 with
  |non=>cases (show z=Value.none from q);unfold gZ;exact SeqAt.EqAt.str_none a t1
  |bl b=>cases (show z=Value.bool b from q);unfold gZ;exact SeqAt.EqAt.str_bool a t1 b
  |int i=>obtain⟨t,e⟩:=(show∃t,z=Value.int i t from q);subst e;unfold gZ;exact SeqAt.EqAt.str_int a t1 i t
  |str x=>obtain⟨t,e⟩:=(show∃t,z=Value.str x t from q);subst e;unfold gZ;exact SeqAt.EqAt.str_str a t1 x t
  |lst h hs=>obtain⟨its,_,p,_⟩:=I.list h;cases q;unfold gZ;exact SeqAt.EqAt.str_list a t1 p.isList aa
  |tup h hs=>obtain⟨its,_,p,_⟩:=I.tuple h;cases q;unfold gZ;exact SeqAt.EqAt.str_tuple a t1 p aa
def kJ{A:Around}{ad ac:List V}{aa ab:List DV}{z q:List Value}(r1:Vals ad z)(r2:Vals ac q)(h1:lu X.K H ad aa)(h2:lu X.K H ac ab)
  (ih:∀(d1 d2:DV)(v1 v2:V)(u1 u2:Value),qF d1<=mK aa->FZ X.K H v1 d1->FZ X.K H v2 d2->RelV v1 u1->RelV v2 u2->SeqAt.EqAt A s u1 u2 (gZ d1 d2)):
  ∀(j:Nat)(a:j<z.toArray.size)(b:j<q.toArray.size),SeqAt.EqAt A s z.toArray[j] q.toArray[j] (gZ (aa.getD j .non) (ab.getD j .non)):=by
 intro j a b;have l1:=r1.length;have l2:=r2.length;have m1:=h1.length;have m2:=h2.length;simp only[zzf]at a b;have a1:j<ad.length:=by omega
 have a2:j<ac.length:=by omega
 have b1:j<aa.length:=by omega
 have b2:j<ab.length:=by omega
 obtain⟨w1,e1,q1⟩:=r1.get (i:=j) (x:=ad[j]) (by simp[a1]);obtain⟨w2,e2,q2⟩:=r2.get (i:=j) (x:=ac[j]) (by simp[a2]);have z1:z.toArray[j]=w1:=by simpa [a] using e1
 have z2:q.toArray[j]=w2:=by simpa [b] using e2
 have y1:aa.getD j .non=aa[j]:=by simp[List.getD,b1]
 have y2:ab.getD j .non=ab[j]:=by simp[List.getD,b2]
 rw[z1,z2,y1,y2];exact ih _ _ _ _ _ _ (Ka (j:=j) (by simp[b1])) (h1.get (j:=j) (by simp[a1]) (by simp[b1])) (h2.get (j:=j) (by simp[a2]) (by simp[b2])) q1 q2
def QK(I:Inv X pins σ H s):∀(n:Nat)(A:Around)(d1 d2:DV)(v1 v2:V)(u1 q:Value),qF d1<=n->A.units+n<cLine->FZ X.K H v1 d1->FZ X.K H v2 d2->RelV v1 u1->RelV v2 q->SeqAt.EqAt A s u1 q (gZ d1 d2):=by
 intro n
 induction n with
 |zero=>exact λA d1 d2 v1 v2 u1 q hd hu h1 h2 r1 z=>mY I hd (by omega) h1 h2 r1 z
 |succ n ih=>
  intro A d1 d2 v1 v2 u1 q hd hu h1 h2 r1 z;have hu':A.units<cLine:=by omega
  have ad:A.in1.units+n<cLine:=by rw[in1_units];omega
  cases h1 with
  |non=>exact mY I (by unfold qF;omega) hu' .non h2 r1 z
  |bl a=>exact mY I (by unfold qF;omega) hu' (.bl a) h2 r1 z
  |int a=>exact mY I (by unfold qF;omega) hu' (.int a) h2 r1 z
  |str a=>exact mY I (by unfold qF;omega) hu' (.str a) h2 r1 z
  | @lst a vs ds h hs=>
   obtain⟨its,rv,p,_⟩:=I.list h;cases (show u1=Value.ref a from r1);have hd':mK ds<=n:=by unfold qF at hd;omega
   cases h2 with
   |non=>cases (show q=Value.none from z);unfold gZ;exact SeqAt.EqAt.list_none p.isList hu'
   |bl b=>cases (show q=Value.bool b from z);unfold gZ;exact SeqAt.EqAt.list_bool b p.isList hu'
   |int i=>obtain⟨t,e⟩:=(show∃t,q=Value.int i t from z);subst e;unfold gZ;exact SeqAt.EqAt.list_int i t p.isList hu'
   |str x=>obtain⟨t,e⟩:=(show∃t,q=Value.str x t from z);subst e;unfold gZ;exact SeqAt.EqAt.list_str x t p.isList hu'
   | @lst a2 vs2 ds2 h' hs'=>
    obtain⟨aa,ab,p2,_⟩:=I.list h';cases (show q=Value.ref a2 from z);unfold gZ;by_cases ac:a=a2
    ·subst ac
     have e:=I.list_inj h h';subst e;rw[lu.inj I hs hs',nM];exact SeqAt.EqAt.same _
    ·have l1:=rv.length
     have l2:=ab.length;have m1:=hs.length;have m2:=hs'.length;by_cases hz:ds.length=ds2.length
     ·rw[lE _ _ hz]
      have:=SeqAt.EqAt.of_refs ac (SeqAt.RcAt.lists (A:=A) (e:=λj=>gZ (ds.getD j .non) (ds2.getD j .non)) p.isList p2.isList (by simp only[zzf];omega) hu'
       (kJ rv ab hs hs' λd1 d2 v1 v2 u1 q ae g1 g2 q1 q2=>ih A.in1 d1 d2 v1 v2 u1 q (by omega) ad g1 g2 q1 q2))
      rw[zzf,show its.length=ds.length by omega]at this;exact this
     ·rw[kZ _ _ hz]
      exact SeqAt.EqAt.of_refs ac (SeqAt.RcAt.lists_lengths p.isList p2.isList (by simp only[zzf,bne_iff_ne];omega) hu')
   | @tup a2 vs2 ds2 h' hs'=>
    obtain⟨aa,ab,p2,_⟩:=I.tuple h';cases (show q=Value.ref a2 from z);unfold gZ;exact SeqAt.EqAt.list_tuple p.isList p2 hu'
  | @tup a vs ds h hs=>
   obtain⟨its,rv,p,_⟩:=I.tuple h;cases (show u1=Value.ref a from r1);have hd':mK ds<=n:=by unfold qF at hd;omega
   cases h2 with
   |non=>cases (show q=Value.none from z);unfold gZ;exact SeqAt.EqAt.tuple_none p hu'
   |bl b=>cases (show q=Value.bool b from z);unfold gZ;exact SeqAt.EqAt.tuple_bool b p hu'
   |int i=>obtain⟨t,e⟩:=(show∃t,q=Value.int i t from z);subst e;unfold gZ;exact SeqAt.EqAt.tuple_int i t p hu'
   |str x=>obtain⟨t,e⟩:=(show∃t,q=Value.str x t from z);subst e;unfold gZ;exact SeqAt.EqAt.tuple_str x t p hu'
   | @lst a2 vs2 ds2 h' hs'=>
    obtain⟨aa,ab,p2,_⟩:=I.list h';cases (show q=Value.ref a2 from z);unfold gZ;exact SeqAt.EqAt.tuple_list p p2.isList hu'
   | @tup a2 vs2 ds2 h' hs'=>
    obtain⟨aa,ab,p2,_⟩:=I.tuple h';cases (show q=Value.ref a2 from z);unfold gZ;by_cases ac:a=a2
    ·subst ac
     have e:=I.tuple_inj h h';subst e;rw[lu.inj I hs hs',nM];exact SeqAt.EqAt.same _
    ·have l1:=rv.length
     have l2:=ab.length;have m1:=hs.length;have m2:=hs'.length
     have:=SeqAt.EqAt.of_refs ac (SeqAt.RcAt.tuples (A:=A) (e:=λj=>gZ (ds.getD j .non) (ds2.getD j .non)) p p2 hu'
       (kJ rv ab hs hs' λd1 d2 v1 v2 u1 q ae g1 g2 q1 q2=>ih A.in1 d1 d2 v1 v2 u1 q (by omega) ad g1 g2 q1 q2))
     simp only[zzf]at this;by_cases hz:ds.length=ds2.length
     ·rw[lE _ _ hz]
      rw[show its.length=ds.length by omega,show aa.length=ds.length by omega,Nat.min_self,beq_self_eq_true,Bool.and_true]at this;exact this
     ·rw[kZ _ _ hz]
      rw[show(its.length==aa.length)=false from beq_eq_false_iff_ne.mpr (by omega),Zr]at this;exact this
noncomputable def afX(K:Fg_):R2:=λx y H Q=>∃d1 d2,FZ K H x d1/\FZ K H y d2/\1<=qF d1/\qF d1<=20/\Q (.bl (gZ d1 d2)) H
noncomputable def agt(K:Fg_):R2:=λx y H Q=>∃d1 d2,FZ K H x d1/\FZ K H y d2/\1<=qF d1/\qF d1<=20/\Q (.bl (!gZ d1 d2)) H
def aec{k:Nat}(hr:lq k X.A):OpR X (compareOp .Eq) (afX X.K):=by
 intro pins s σ H x y v u Q I rx ry h;obtain⟨d1,d2,h1,h2,ad,hd,q⟩:=h;have hr':=hr.units;have hu':X.A.units<cLine:=by omega
 have ae:X.A.in1.units+20<cLine:=by rw[in1_units];omega
 have aa:∀b,SeqAt.RcAt X.A s v u b->b=(gZ d1 d2)->wpAny (model X.prog X.w) X.A (compareOp .Eq v u) (EP X pins σ Q) X.xe s:=λb hb e=>by
  subst e;exact hb X.prog X.w X.xe _ ⟨.bl _,H,I,rfl,q⟩
 cases h1 with
 |non=>unfold qF at ad;omega
 |bl a=>unfold qF at ad;omega
 |int a=>unfold qF at ad;omega
 |str a=>unfold qF at ad;omega
 | @lst a vs ds h hs=>
  obtain⟨its,rv,p,_⟩:=I.list h;cases (show v=Value.ref a from rx);have hd':mK ds<=20:=by unfold qF at hd;omega
  cases h2 with
  |non=>cases (show u=Value.none from ry);exact aa _ (SeqAt.RcAt.list_none p.isList hu') (by unfold gZ;rfl)
  |bl b=>cases (show u=Value.bool b from ry);exact aa _ (SeqAt.RcAt.list_bool b p.isList hu') (by unfold gZ;rfl)
  |int i=>obtain⟨t,e⟩:=(show∃t,u=Value.int i t from ry);subst e;exact aa _ (SeqAt.RcAt.list_int i t p.isList hu') (by unfold gZ;rfl)
  |str z=>obtain⟨t,e⟩:=(show∃t,u=Value.str z t from ry);subst e;exact aa _ (SeqAt.RcAt.list_str z t p.isList hu') (by unfold gZ;rfl)
  | @tup a2 vs2 ds2 h' hs'=>
   obtain⟨ab,ac,p2,_⟩:=I.tuple h';cases (show u=Value.ref a2 from ry);exact aa _ (SeqAt.RcAt.list_tuple p.isList p2 hu') (by unfold gZ;rfl)
  | @lst a2 vs2 ds2 h' hs'=>
   obtain⟨ab,ac,p2,_⟩:=I.list h';cases (show u=Value.ref a2 from ry);have l1:=rv.length;have l2:=ac.length;have m1:=hs.length;have m2:=hs'.length;by_cases hz:ds.length=ds2.length
   ·refine aa _ (SeqAt.RcAt.lists (A:=X.A) (e:=λj=>gZ (ds.getD j .non) (ds2.getD j .non)) p.isList p2.isList (by simp only[zzf];omega) hu'
     (kJ rv ac hs hs' λd1 d2 v1 v2 u1 u2 af g1 g2 q1 q2=>QK I 20 X.A.in1 d1 d2 v1 v2 u1 u2 (by omega) ae g1 g2 q1 q2)) ?_
    rw[RP,lE _ _ hz,zzf,show its.length=ds.length by omega]
   ·refine aa _ (SeqAt.RcAt.lists_lengths p.isList p2.isList (by simp only[zzf,bne_iff_ne];omega) hu') ?_
    unfold gZ;rw[kZ _ _ hz]
    all_goals rfl
 | @tup a vs ds h hs=>
  obtain⟨its,rv,p,_⟩:=I.tuple h;cases (show v=Value.ref a from rx);have hd':mK ds<=20:=by unfold qF at hd;omega
  cases h2 with
  |non=>cases (show u=Value.none from ry);exact aa _ (SeqAt.RcAt.tuple_none p hu') (by unfold gZ;rfl)
  |bl b=>cases (show u=Value.bool b from ry);exact aa _ (SeqAt.RcAt.tuple_bool b p hu') (by unfold gZ;rfl)
  |int i=>obtain⟨t,e⟩:=(show∃t,u=Value.int i t from ry);subst e;exact aa _ (SeqAt.RcAt.tuple_int i t p hu') (by unfold gZ;rfl)
  |str z=>obtain⟨t,e⟩:=(show∃t,u=Value.str z t from ry);subst e;exact aa _ (SeqAt.RcAt.tuple_str z t p hu') (by unfold gZ;rfl)
  | @lst a2 vs2 ds2 h' hs'=>
   obtain⟨ab,ac,p2,_⟩:=I.list h';cases (show u=Value.ref a2 from ry);exact aa _ (SeqAt.RcAt.tuple_list p p2.isList hu') (by unfold gZ;rfl)
  | @tup a2 vs2 ds2 h' hs'=>
   obtain⟨ab,ac,p2,_⟩:=I.tuple h';cases (show u=Value.ref a2 from ry);have l1:=rv.length;have l2:=ac.length;have m1:=hs.length;have m2:=hs'.length
   refine aa _ (SeqAt.RcAt.tuples (A:=X.A) (e:=λj=>gZ (ds.getD j .non) (ds2.getD j .non)) p p2 hu'
     (kJ rv ac hs hs' λd1 d2 v1 v2 u1 u2 af g1 g2 q1 q2=>QK I 20 X.A.in1 d1 d2 v1 v2 u1 u2 (by omega) ae g1 g2 q1 q2)) ?_
   rw[Rp];simp only[zzf];by_cases hz:ds.length=ds2.length
   ·rw[lE _ _ hz,show its.length=ds.length by omega,show ab.length=ds.length by omega,Nat.min_self,beq_self_eq_true,Bool.and_true]
   ·rw[kZ _ _ hz,show(its.length==ab.length)=false from beq_eq_false_iff_ne.mpr (by omega),Zr]
def aeU{k:Nat}(hr:lq k X.A):OpR X (compareOp .NotEq) (agt X.K):=by
 intro pins s σ H x y v u Q I rx ry h;obtain⟨d1,d2,h1,h2,ad,hd,q⟩:=h;have hr':=hr.units;have hu':X.A.units<cLine:=by omega
 have ae:X.A.in1.units+20<cLine:=by rw[in1_units];omega
 have aa:∀b,SeqAt.RcNeAt X.A s v u b->b=(!gZ d1 d2)->wpAny (model X.prog X.w) X.A (compareOp .NotEq v u) (EP X pins σ Q) X.xe s:=λb hb e=>by
  subst e;exact hb X.prog X.w X.xe _ ⟨.bl _,H,I,rfl,q⟩
 cases h1 with
 |non=>unfold qF at ad;omega
 |bl a=>unfold qF at ad;omega
 |int a=>unfold qF at ad;omega
 |str a=>unfold qF at ad;omega
 | @lst a vs ds h hs=>
  obtain⟨its,rv,p,_⟩:=I.list h;cases (show v=Value.ref a from rx);have hd':mK ds<=20:=by unfold qF at hd;omega
  cases h2 with
  |non=>cases (show u=Value.none from ry);exact aa _ (SeqAt.RcNeAt.list_none p.isList hu') (by unfold gZ;rfl)
  |bl b=>cases (show u=Value.bool b from ry);exact aa _ (SeqAt.RcNeAt.list_bool b p.isList hu') (by unfold gZ;rfl)
  |int i=>obtain⟨t,e⟩:=(show∃t,u=Value.int i t from ry);subst e;exact aa _ (SeqAt.RcNeAt.list_int i t p.isList hu') (by unfold gZ;rfl)
  |str z=>obtain⟨t,e⟩:=(show∃t,u=Value.str z t from ry);subst e;exact aa _ (SeqAt.RcNeAt.list_str z t p.isList hu') (by unfold gZ;rfl)
  | @tup a2 vs2 ds2 h' hs'=>
   obtain⟨ab,ac,p2,_⟩:=I.tuple h';cases (show u=Value.ref a2 from ry);exact aa _ (SeqAt.RcNeAt.list_tuple p.isList p2 hu') (by unfold gZ;rfl)
  | @lst a2 vs2 ds2 h' hs'=>
   obtain⟨ab,ac,p2,_⟩:=I.list h';cases (show u=Value.ref a2 from ry);have l1:=rv.length;have l2:=ac.length;have m1:=hs.length;have m2:=hs'.length;by_cases hz:ds.length=ds2.length
   ·refine aa _ (SeqAt.RcNeAt.lists (A:=X.A) (e:=λj=>gZ (ds.getD j .non) (ds2.getD j .non)) p.isList p2.isList (by simp only[zzf];omega) hu'
     (kJ rv ac hs hs' λd1 d2 v1 v2 u1 u2 af g1 g2 q1 q2=>QK I 20 X.A.in1 d1 d2 v1 v2 u1 u2 (by omega) ae g1 g2 q1 q2)) ?_
    rw[RP,lE _ _ hz,zzf,show its.length=ds.length by omega]
   ·refine aa _ (SeqAt.RcNeAt.lists_lengths p.isList p2.isList (by simp only[zzf,bne_iff_ne];omega) hu') ?_
    unfold gZ;rw[kZ _ _ hz]
    all_goals rfl
 | @tup a vs ds h hs=>
  obtain⟨its,rv,p,_⟩:=I.tuple h;cases (show v=Value.ref a from rx);have hd':mK ds<=20:=by unfold qF at hd;omega
  cases h2 with
  |non=>cases (show u=Value.none from ry);exact aa _ (SeqAt.RcNeAt.tuple_none p hu') (by unfold gZ;rfl)
  |bl b=>cases (show u=Value.bool b from ry);exact aa _ (SeqAt.RcNeAt.tuple_bool b p hu') (by unfold gZ;rfl)
  |int i=>obtain⟨t,e⟩:=(show∃t,u=Value.int i t from ry);subst e;exact aa _ (SeqAt.RcNeAt.tuple_int i t p hu') (by unfold gZ;rfl)
  |str z=>obtain⟨t,e⟩:=(show∃t,u=Value.str z t from ry);subst e;exact aa _ (SeqAt.RcNeAt.tuple_str z t p hu') (by unfold gZ;rfl)
  | @lst a2 vs2 ds2 h' hs'=>
   obtain⟨ab,ac,p2,_⟩:=I.list h';cases (show u=Value.ref a2 from ry);exact aa _ (SeqAt.RcNeAt.tuple_list p p2.isList hu') (by unfold gZ;rfl)
  | @tup a2 vs2 ds2 h' hs'=>
   obtain⟨ab,ac,p2,_⟩:=I.tuple h';cases (show u=Value.ref a2 from ry);have l1:=rv.length;have l2:=ac.length;have m1:=hs.length;have m2:=hs'.length
   refine aa _ (SeqAt.RcNeAt.tuples (A:=X.A) (e:=λj=>gZ (ds.getD j .non) (ds2.getD j .non)) p p2 hu'
     (kJ rv ac hs hs' λd1 d2 v1 v2 u1 u2 af g1 g2 q1 q2=>QK I 20 X.A.in1 d1 d2 v1 v2 u1 u2 (by omega) ae g1 g2 q1 q2)) ?_
   rw[Rp];simp only[zzf];by_cases hz:ds.length=ds2.length
   ·rw[lE _ _ hz,show its.length=ds.length by omega,show ab.length=ds.length by omega,Nat.min_self,beq_self_eq_true,Bool.and_true]
   ·rw[kZ _ _ hz,show(its.length==ab.length)=false from beq_eq_false_iff_ne.mpr (by omega),Zr]
theorem Ad(K:Fg_)(H:Hp):∀ns:List Int,lu K H (ns.map V.int) (ns.map DV.int)
 |[]=> .nil
 |n::r=> .cons (.int n) (Ad K H r)
theorem HD:∀xs:List Int,mK (xs.map DV.int)=0
 |[]=>by simp[mK]
 |x::xs=>by simp[mK,qF,HD xs]
end
end L2
namespace L2
open PySem PySem.Spec PyProof.Rows
section
variable{X:Cx}{K:Fg_}{a b o e:Expr}{ta tb to te:TE}{pos:Pos}{tg:Expr}
def iM(q:X.K=K:=by rfl):IxR X (aga K):=q▸adu
def jT(q:X.K=K:=by rfl):IxR X (afO K):=q▸aeh
def Ig(q:X.K=K:=by rfl):SlR X (afN K):=q▸acv
def Xp{k:Nat}(z:lq k X.A)(q:X.K=K:=by rfl):OpR X (compareOp .Eq) (afX K):=q▸aec z
def acD{k:Nat}(z:lq k X.A)(q:X.K=K:=by rfl):OpR X (compareOp .NotEq) (agt K):=q▸aeU z
noncomputable def agd(K:Fg_):List V->Hp->VK->Prop:=λxs H Q=>∃p ys,xs=[.ref p]/\(SqL K H p ys\/SqT K H p ys)/\Q (.int ys.length) H
def ji(q:X.K=K:=by rfl):jz X (.builtin "len") (agd K):=q▸LC
noncomputable def afL(K:Fg_):List V->Hp->VK->Prop:=λxs H Q=>∃(a:Addr)(ns:List Int),xs=[.ref a]/\SqL K H a (ns.map V.int)/\Q (.int ns.sum) H
def jE(z:X.calm=true)(q:X.K=K:=by rfl):jz X (.builtin "sum") (afL K):=q▸Va z
noncomputable def afG(K:Fg_):List V->Hp->VK->Prop:=λxs H Q=>∃(a:Addr)(bs:List Bool),xs=[.ref a]/\SqL K H a (bs.map V.bl)/\Q (.bl (bs.any id)) H
def Nh(z:X.calm=true)(q:X.K=K:=by rfl):jz X (.builtin "any") (afG K):=q▸XX z
noncomputable def afV(K:Fg_):List V->Hp->VK->Prop:=λxs H Q=>∃(a:Addr)(bs:List Bool),xs=[.ref a]/\SqL K H a (bs.map V.bl)/\Q (.bl (bs.all id)) H
def KQ(z:X.calm=true)(q:X.K=K:=by rfl):jz X (.builtin "all") (afV K):=q▸Vl z
noncomputable def Eh(K:Fg_):List V->Hp->VK->Prop:=λxs H Q=>∃p ys,xs=[.ref p]/\(SqL K H p ys\/SqT K H p ys)/\∀l,H l=none->Q (.ref l) (upd H l (.lst ys))
def ql(q:X.K=K:=by rfl):jz X (.type "list") (Eh K):=q▸LQ
noncomputable def Wf(K:Fg_):List V->Hp->VK->Prop:=λxs H Q=>∃p ys,xs=[.ref p]/\((SqL K H p ys/\∀l,H l=none->Q (.ref l) (upd H l (.tup ys)))\/(SqT K H p ys/\Q (.ref p) H))
def Qa(q:X.K=K:=by rfl):jz X (.type "tuple") (Wf K):=q▸Jo
noncomputable def agu(K:Fg_):List V->Hp->VK->Prop:=λxs H Q=>∃x n t k,xs=[x,.ty n]/\Gp K H x t/\PySem.W.kitOne K t (.type n)=some k/\Q (.bl k) H
def nR(q:X.K=K:=by rfl):jz X (.builtin "isinstance") (agu K):=q▸Nb
noncomputable def adP(K:Fg_):List V->Hp->VK->Prop:=λxs H Q=>∃x C t k,xs=[x,.ref C]/\Gp K H x t/\PySem.W.kitOne K t (.ref C)=some k/\Q (.bl k) H
def nU(q:X.K=K:=by rfl):jz X (.builtin "isinstance") (adP K):=q▸Nv
noncomputable def ago:List V->Hp->VK->Prop:=λxs H Q=>∃i j,xs=[.int i,.int j]/\Q (.int (if j>i then j else i)) H
def Xb(q:X.calm=true):jz X (.builtin "max") ago:=Wa q
noncomputable def afz:List V->Hp->VK->Prop:=λxs H Q=>∃i j,xs=[.int i,.int j]/\Q (.int (if j<i then j else i)) H
def pH(q:X.calm=true):jz X (.builtin "min") afz:=VB q
def oK(z:PE X o to)(q:X.K=K:=by rfl):PI X tg o (Xe K to):=q▸acl z
def jV{es:List Expr}{k:Nat}{t:TGs}{n:Nat}(q:X.calm=true)(h:PGs X es t)(hn:(assignEach es X.env).length=n:=by rfl)(hst:(assignEach es X.env).findIdx? (·.1)=none:=by rfl)(hK:X.K=K:=by rfl):PG X (.Tuple es k pos) (afJ K n t):=hK▸aei q h hn hst
def acz{f:Str}(z:PE X e ta)(hb:attributeBase e f X.env (eval e X.env)=eval e X.env)(q:X.K=K:=by rfl):PE X (.Attribute e f pos) (aeS K ta f):=q▸aen z hb
def lW{T:String}{name:Str}{id:String}{r:V->List V->Hp->VK->Prop}{es:List Expr}{t:TA}{apos cpos:Pos}(pa:PlainAttrs T)(slot:Slot T name id)(z:typeOf (.builtin id)=pure (.type "method_descriptor")) (hm:MtR X id r) (ho:PE X o to) (ha:PA X (e::es) t)
  (q:attributeBase o name X.env (eval o X.env)=eval o X.env:=by rfl)
  (hfew:((backTo cpos (starEach (e::es) X.env)).all (λx=>!x.1) && (backToKw cpos (keywordEach [] X.env)).all (λx=>x.1.isSome)
   && decide ((e::es).length+([]:List Keyword).length+(if([]:List Keyword).isEmpty then 0 else 1)<30))=true:=by rfl)
  (hline:(apos.endLine==cpos.line)=true:=by rfl) (hs:starEach (e::es) X.env=(false,eval e X.env)::starEach es X.env:=by rfl) (hplain:(backTo cpos (starEach es X.env)).any (·.1)=false:=by rfl) (hK:X.K=K:=by rfl):
  PE X (.Call (.Attribute o name apos) (e::es) [] cpos) (tBM K T r to t):=hK▸afP pa slot z hm ho ha q hfew hline hs hplain
def Oq{T:String}{name:Str}{id:String}{r:V->List V->Hp->VK->Prop}{apos cpos:Pos}(pa:PlainAttrs T)(slot:Slot T name id)(z:typeOf (.builtin id)=pure (.type "method_descriptor")) (hm:MtR X id r) (ho:PE X o to)
  (q:attributeBase o name X.env (eval o X.env)=eval o X.env:=by rfl) (hline:(apos.endLine==cpos.line)=true:=by rfl) (hK:X.K=K:=by rfl):PE X (.Call (.Attribute o name apos) [] [] cpos) (afM K T r to):=hK▸aeB pa slot z hm ho q hline
end
section
variable{K:Fg_}{H:Hp}{Q:VK}{p:Addr}{x y:V}
def ap_noIf{σ:St}{QB:Bool->Hp->Prop}:Tv σ H QB=QB true H:=rfl
def ap_rLen:agd K [.ref p] H Q=∃ys,(SqL K H p ys\/SqT K H p ys)/\Q (.int (ys.length:Int)) H:=by simp[agd]
def ap_rSum:afL K [.ref p] H Q=∃ns:List Int,SqL K H p (ns.map V.int)/\Q (.int ns.sum) H:=by simp[afL]
def ap_rAny:afG K [.ref p] H Q=∃bs:List Bool,SqL K H p (bs.map V.bl)/\Q (.bl (bs.any id)) H:=by simp[afG]
def ap_rAll:afV K [.ref p] H Q=∃bs:List Bool,SqL K H p (bs.map V.bl)/\Q (.bl (bs.all id)) H:=by simp[afV]
def ap_rListOf:Eh K [.ref p] H Q=∃ys,(SqL K H p ys\/SqT K H p ys)/\∀l,H l=none->Q (.ref l) (upd H l (.lst ys)):=by simp[Eh]
def ap_rIsT{n:String}:agu K [x,.ty n] H Q=∃t k,Gp K H x t/\PySem.W.kitOne K t (.type n)=some k/\Q (.bl k) H:=propext ⟨fun⟨q,z,t,k,e,h⟩=>by
  injection e with e1 e2
  injection e2 with e2 _
  injection e2 with e2
  subst e1 e2;exact⟨t,k,h⟩,fun⟨t,k,h⟩=>⟨x,n,t,k,rfl,h⟩⟩
def ap_append:JK (.ref p) [y] H Q=∃xs,H p=some (.lst xs)/\xs.length<sizeLine/\Q .non (upd H p (.lst (xs++[y]))):=by simp[JK]
def ap_rCat{l b:Addr}:afK (.ref l) (.ref b) H Q=∃xs zs,H l=some (.lst xs)/\H b=some (.lst zs)/\xs.length+zs.length<=sizeLine/\∀p,H p=none->Q (.ref p) (upd H p (.lst (xs++zs))):=by simp[afK]
def ap_rMax{i j:Int}:ago [.int i,.int j] H Q=Q (.int (if j>i then j else i)) H:=propext ⟨fun⟨q,z,e,h⟩=>by cases e;exact h,λh=>⟨i,j,rfl,h⟩⟩
def ap_rMin{i j:Int}:afz [.int i,.int j] H Q=Q (.int (if j<i then j else i)) H:=propext ⟨fun⟨q,z,e,h⟩=>by cases e;exact h,λh=>⟨i,j,rfl,h⟩⟩
end
end L2
namespace L2
open PySem PySem.Spec PyProof.Rows
section
variable{K:Fg_}{a:Addr}{xs:List V}{g:TG}{tb:TS}{D:Ends}{σ:St}{H:Hp}{wi:TI}{cap:List (Option Nat)}{tt:TT}{te tl:TE}{Q:VK}{ta:TA}{R:It->Hp->Prop}
noncomputable def CN(J:It)(g:TG)(tb:TS)(D:Ends)(σ:St)(H1:Hp):Prop:=∃W:Nat->Nat->St->Hp->Prop,(∃m,W 0 m σ H1)/\∀i m σ H,W i m σ H->
 (J.stop i H/\D.nx σ H)\/(J.go i H/\∃N:St->Hp->Prop,(∀σ' H',N σ' H'->∃m',m'<m/\W (i+1) m' σ' H')/\∀x H',J.yld i H x H'->g x σ H' λσ2 H2=>tb {D with nx:=N,ct:=N,bk:=D.nx} σ2 H2)
def ap_for:afw wi g tb D σ H=wi σ H λJ H1=>CN J g tb D σ H1:=rfl
def mZ(q:Nat->St->Hp->Prop)(h0:q 0 σ H)(z:∀i σ H,i<=xs.length->q i σ H->SqL K H a xs)
  (hs:∀i x σ H,xs[i]? =some x->q i σ H->g x σ H λσ2 H2=>tb {D with nx:=q (i+1),ct:=q (i+1),bk:=D.nx} σ2 H2) (hd:∀σ H,q xs.length σ H->D.nx σ H):CN (Itl K a) g tb D σ H:=aai q h0 z hs hd
def CN.range{lo:Int}{n:Nat}(q:Nat->St->Hp->Prop)(h0:q 0 σ H)
  (hs:∀i σ H,i<n->q i σ H->g (.int (lo+i)) σ H λz H2=>tb {D with nx:=q (i+1),ct:=q (i+1),bk:=D.nx} z H2) (hd:∀σ H,q n σ H->D.nx σ H):CN (Itr lo n) g tb D σ H:=Vj q h0 hs hd
def ap_iList:Xe K tl σ H R=tl σ H λx H1=>∃a,x=.ref a/\(∃xs,SqL K H1 a xs)/\R (Itl K a) H1:=rfl
def ap_iRng1:aeW ta σ H R=ta σ H λvs H1=>∃j:Int,vs=[.int j]/\ -(2^62)<=j/\j<2^62/\R (Itr 0 j.toNat) H1:=rfl
noncomputable def iK(cap:List (Option Nat))(J:It)(g:TG)(tt:TT)(te:TE)(σ:St)(H1:Hp)(Q:VK):Prop:=∀D,H1 D=Option.none->
 ∃W:Nat->Nat->List V->St->Hp->Prop,(∃m,W 0 m [] (nA σ cap) (upd H1 D (.lst [])))/\∀i m acc σ1 H2,W i m acc σ1 H2->H2 D=some (.lst acc)->
  (J.stop i H2/\Q (.ref D) H2)\/(J.go i H2/\∀x H3,J.yld i H2 x H3->g x σ1 H3 λσ4 H4=>tt σ4 H4 λb H5=>
   if b=true then te σ4 H5 λv H6=>∃acc',H6 D=some (.lst acc')/\acc'.length<sizeLine/\∃m',m'<m/\W (i+1) m' (acc'++[v]) σ4 (upd H6 D (.lst (acc'++[v])))
   else∃m',m'<m/\∃acc',H5 D=some (.lst acc')/\W (i+1) m' acc' σ4 H5)
def ap_comp:adm cap wi g tt te σ H Q=wi σ H λJ H1=>iK cap J g tt te σ H1 Q:=rfl
def iK.list(Sσ:St->Prop)(p:V->Bool)(F:V->V)(hS:SqL K H a xs)(h0:Sσ (nA σ cap))(hz:xs.length<=sizeLine)
  (hs:∀x∈xs,∀(σ:St)(z:Hp)(R1:St->VK)(R2:St->Hp->Prop),Sσ σ->Same H z->(p x=true->∀q H6,Sσ q->Same z H6->R1 q (F x) H6)->(p x=false->∀q H6,Sσ q->Same z H6->R2 q H6)->
   g x σ z λq H4=>tt q H4 λb z=>if b=true then te q z (R1 q)else R2 q z)
  (k:∀D H',H D=Option.none->Same H H'->H' D=some (.lst ((xs.filter p).map F))->Q (.ref D) H'):iK cap (Itl K a) g tt te σ H Q:=
 λD hD=>Yh Sσ p F hS hD h0 hz hs λH' s e=>k D H' hD s e
theorem iK.range{lo:Int}{n:Nat}(Sσ:St->Prop)(p:V->Bool)(F:V->V)(h0:Sσ (nA σ cap))(hz:n<=sizeLine)
  (hs:∀i:Nat,i<n->∀(σ:St)(z:Hp)(R1:St->VK)(R2:St->Hp->Prop),Sσ σ->Same H z->(p (.int (lo+i))=true->∀q H6,Sσ q->Same z H6->R1 q (F (.int (lo+i))) H6)->(p (.int (lo+i))=false->∀q H6,Sσ q->Same z H6->R2 q H6)->
   g (.int (lo+i)) σ z λq H4=>tt q H4 λb z=>if b=true then te q z (R1 q)else R2 q z)
  (k:∀D H',H D=Option.none->Same H H'->H' D=some (.lst ((((List.range n).map fun(i:Nat)=>V.int (lo+i)).filter p).map F))->Q (.ref D) H'):iK cap (Itr lo n) g tt te σ H Q:=
 λD hD=>Tj Sσ p F hD h0 hz hs λH' s e=>k D H' hD s e
def aag(xs:List V)(n:Nat):Ny xs none (some (n:Int))=xs.take n:=by
 unfold Ny;rw[HT.sIx_none,HT.sIx_nat,List.drop_zero,Nat.sub_zero];rcases Nat.le_total n xs.length with h|h
 ·rw[Nat.min_eq_left h]
 ·rw[Nat.min_eq_right h,zz8 h,zz8 (zzc _)]
end
end L2
namespace L2
open PySem PySem.Spec PyProof.Rows
structure LeE(D D':Ends):Prop where
 nx:∀σ H,D.nx σ H->D'.nx σ H
 rt:∀v H,D.rt v H->D'.rt v H
 bk:∀σ H,D.bk σ H->D'.bk σ H
 ct:∀σ H,D.ct σ H->D'.ct σ H
end L2
namespace L2
open PySem PySem.Spec PyProof.Rows
section
variable{X:Cx}{pins:List (Addr×Obj)}{σ:St}{H:Hp}{s:Shared}{h':Heap}
def Inv.turnedN{t':Nat}{fp:List Addr}(I:Inv X pins σ H s)(hf:∀b∈fp,Qo X pins H b)(k:∀b o,b∉fp->s.heap.get? b=some o->h'.get? b=some o):Inv X pins σ H {s with heap:=h',toks:=t'}:=by
 have aa:∀b u,H b=some u->b∉fp:=λb u e z=>by rw[(hf b z).1]at e;cases e
 refine I.step (g':=s.gens) (d':=s.drawn) (ch:=fp) (λb hb=>⟨(hf b hb).2.2.2.1,(hf b hb).2.1,(hf b hb).2.2.2.2.1,(hf b hb).2.2.2.2.2⟩) (λb o _ _ hc e _=>k b o hc e) (λb o _ _ hc e _=>⟨o.slots,k b o hc e⟩) (λ_ _ _ _ n=>n)
  (λb o hc e=>⟨o,k b o hc e⟩) (λ_ _ e=>e) (λ_ _ _ e=>e) (λb ps e=>⟨#[],by rw[e];simp⟩) (λm hm=>?_) (λb u e=>?_) I.bare
 ·obtain⟨o,es,ep,ho,r⟩:=hm
  exact⟨o,es,ep,k _ o (λz=>(hf _ z).2.1 rfl) ho,r⟩
 ·refine(I.hok b u e).stay (λc v hc q=>k c v ?_ q) (λ_ q=>q) λ_ _ q=>q
  rcases hc with z|z
  ·rw[z];exact aa b u e
  ·exact aa c _ z
def Inv.turnedT{t':Nat}{fp:List Addr}{T:Addr}{o:HO}(I:Inv X pins σ H s)(hf:∀b∈fp,Qo X pins H b)(hT:s.heap.objs.size<=T)(k:∀b o,b∉fp->s.heap.get? b=some o->h'.get? b=some o)
  (ab:iJ X.prog X.w (upd H T o) h' T o):Inv X pins σ (upd H T o) {s with heap:=h',toks:=t'}:=by
 have aa:∀b u,H b=some u->b∉fp:=λb u e z=>by rw[(hf b z).1]at e;cases e
 have hn:H T=none:=I.hok.fresh hT
 refine I.step (g':=s.gens) (d':=s.drawn) (ch:=fp) (λb hb=>⟨(hf b hb).2.2.2.1,(hf b hb).2.1,(hf b hb).2.2.2.2.1,(hf b hb).2.2.2.2.2⟩) (λb o _ _ hc e _=>k b o hc e) (λb o _ _ hc e _=>⟨o.slots,k b o hc e⟩)
  (λb o _ e n=>by rw[fC (zzv (zzC (zzn e) hT))];exact n)
  (λb o hc e=>⟨o,k b o hc e⟩) (λb xs e=>by rw[fC (fU e hn)];exact e) (λb o xs e=>by rw[fC (fU e hn)];exact e) (λb ps e=>⟨#[],by rw[fC (fU e hn),e];simp⟩) (λm hm=>?_) (λb u e=>?_) I.bare
 ·obtain⟨o,es,ep,ho,r⟩:=hm
  exact⟨o,es,ep,k _ o (λz=>(hf _ z).2.1 rfl) ho,r⟩
 ·by_cases hb:b=T
  ·subst hb;rw[eX]at e;cases e;exact ab
  ·rw[fC hb]at e
   refine(I.hok b u e).stay (λc v hc q=>k c v ?_ q) (λc q=>by rw[fC (fU q hn)];exact q) λc xs q=>by rw[fC (fU q hn)];exact q
   rcases hc with z|z
   ·rw[z];exact aa b u e
   ·exact aa c _ z
end
def kh{h:Heap}{a b:Addr}{q ob:Obj}{ca z:Value}(ha:h.get? a=some q)(hb:h.get? b=some ob)(ea:q.cls=ca)(eb:ob.cls=z)(hc:ca≠z):a≠b:=by
 intro e;subst e;rw[ha]at hb;cases hb;exact hc (ea.symm.trans eb)
noncomputable def Itz(K:Fg_)(a b:Addr):It:=
 ⟨λi H=>∃xs ys x y,SqL K H a xs/\SqL K H b ys/\xs[i]? =some x/\ys[i]? =some y,
   λi H v H'=>∃p x y,H p=none/\v=.ref p/\H'=upd H p (.tup [x,y])/\(∀xs,SqL K H a xs->xs[i]? =some x)/\∀ys,SqL K H b ys->ys[i]? =some y,
   λi H=>∃xs ys,SqL K H a xs/\SqL K H b ys/\(xs.length<=i\/ys.length<=i)⟩
def Dd{h:Heap}{z TI TO i1 i2 a b:Addr}{f0 u v:Value}{xs ys:Array Value}{j1 j2:Nat}(ac:TI≠TO)(ab:i1≠i2)(hz:IsZip h z TI TO f0)(aa:IsPair h TI (.ref i1) (.ref i2))(q:IsPair h TO u v)
  (h1:h.IsListIter i1 a j1) (h2:h.IsListIter i2 b j2) (p1:h.IsList a xs) (p2:h.IsList b ys):ZipApart z TI TO i1 i2 a b:=by
 obtain⟨o1,e1,c1,_⟩:=h1;obtain⟨o2,e2,c2,_⟩:=h2;obtain⟨l1,f1,d1,_⟩:=p1;obtain⟨l2,f2,d2,_⟩:=p2
 exact ⟨kh aa hz rfl rfl (by simp),kh q hz rfl rfl (by simp),kh e1 hz c1 rfl (by simp),kh e2 hz c2 rfl (by simp),ac,kh aa e1 rfl c1 (by simp),kh aa e2 rfl c2 (by simp),kh q e1 rfl c1 (by simp),kh q e2 rfl c2 (by simp),ab,
  kh f1 hz d1 rfl (by simp),kh f1 q d1 rfl (by simp),kh f1 e1 d1 c1 (by simp),kh f1 e2 d1 c2 (by simp),kh f2 hz d2 rfl (by simp),kh f2 q d2 rfl (by simp),kh f2 e1 d2 c1 (by simp),kh f2 e2 d2 c2 (by simp)⟩
def aaL{P:Program}{w:World}{K:Fg_}{elts:List Expr}{x1:Nat}{pos:Pos}(a b z TI TO i1 i2:Addr)(ak:TI≠TO)(aj:i1≠i2):
  Turn P w K (.Tuple elts x1 pos) (Itz K a b) [z,TI,TO,i1,i2] z (λi h=>IsZip h z TI TO .none/\IsPair h TI (.ref i1) (.ref i2)/\(∃u v,IsPair h TO u v)/\h.IsListIter i1 a i/\h.IsListIter i2 b i) where
 mem:=by simp
 obj:=λi h st c hb=>by
  obtain⟨hz,aa,⟨u,v,ab⟩,⟨o1,e1,c1,d1⟩,⟨o2,e2,c2,d2⟩⟩:=st;simp only[zzb,zzd,or_false]at hb;rcases hb with rfl|rfl|rfl|rfl|rfl
  ·exact⟨_,hz,λv z=>by cases z⟩
  ·exact⟨_,aa,λv z=>by cases z⟩
  ·exact⟨_,ab,λv z=>by cases z⟩
  ·exact⟨_,e1,λv z=>by rw[d1]at z;cases z⟩
  ·exact⟨_,e2,λv z=>by rw[d2]at z;cases z⟩
 keep:=λi h h' st k=>by
  obtain⟨hz,aa,⟨u,v,ab⟩,h1,h2⟩:=st;exact⟨k _ (by simp) _ hz,k _ (by simp) _ aa,⟨u,v,k _ (by simp) _ ab⟩,h1.at λo e=>k _ (by simp) o e,h2.at λo e=>k _ (by simp) o e⟩
 item:=by
  intro X hP hw hK hc i pins s σ H E I hf st hg;subst hP hw hK;obtain⟨xs,ys,x,y,ad,ac,hx,hy⟩:=hg;obtain⟨ai,ae,p1,_⟩:=I.list ad;obtain⟨ah,af,p2,_⟩:=I.list ac;obtain⟨u1,ap,an⟩:=ae.get hx;obtain⟨u2,ao,am⟩:=af.get hy;obtain⟨hz,aa,⟨ua,ub,ab⟩,h1,h2⟩:=st;have D:=Dd ak aj hz aa ab h1 h2 p1.isList p2.isList;refine wpAny_pyNext_zip_item D hz aa ab h1 h2 p1.isList p2.isList (x:=u1) (y:=u2) (by simpa using ap) (by simpa using ao) λh' a1 a2 a3 a4 a5 a6 a7=>?_;refine⟨_,rfl,wpAny_letOwnedTupleGo_zip (s:={s with heap:=h'}) a1 λal b1 b2=>?_⟩;have nz:s.heap.objs.size≠z:=yyy (zzn hz)
  have k:∀c o,c∉[z,TI,TO,i1,i2]->s.heap.get? c=some o->al.get? c=some o:=λc o hc e=>by
   simp only[zzb,zzd,or_false,not_or]at hc;exact(b2.2 c hc.1).trans (a7 c o hc.1 hc.2.2.1 hc.2.2.2.1 hc.2.2.2.2 e)
  have ag:al.get? s.heap.objs.size=some {cls:=.type "tuple",data:=.seq #[u1,u2]}:=(b2.2 _ nz).trans a5
  refine ⟨.ref s.heap.objs.size,upd H s.heap.objs.size (.tup [x,y]),I.turnedT (t':=s.toks) hf (zzc _) k ⟨by rw[zzk];simp,[u1,u2],.cons an (.cons am .nil),_,ag,rfl,_,rfl⟩,rfl,
   ⟨_,x,y,I.hok.fresh (zzc _),rfl,rfl,λaq q=>by rw[I.list_inj q ad];exact hx,λar q=>by rw[I.list_inj q ac];exact hy⟩,?_,λc hb=>?_⟩
  ·exact⟨b1,(b2.2 _ D.TIz).trans (a7 _ _ D.TIz D.TITO D.TIi1 D.TIi2 aa),⟨_,_,(b2.2 _ D.TOz).trans a2⟩,a3.at λo e=>(b2.2 _ D.i1z).trans e,a4.at λo e=>(b2.2 _ D.i2z).trans e⟩
  ·obtain ⟨o,e⟩:∃o,s.heap.get? c=some o:=by
    simp only[zzb,zzd,or_false]at hb;rcases hb with rfl|rfl|rfl|rfl|rfl
    ·exact⟨_,hz⟩
    ·exact⟨_,aa⟩
    ·exact⟨_,ab⟩
    ·obtain⟨o,e,_⟩:=h1;exact⟨o,e⟩
    ·obtain⟨o,e,_⟩:=h2;exact⟨o,e⟩
   rw[fC (zzv (zzn e))];exact(hf c hb).1
 done:=by
  intro X hP hw hK hc i pins s σ H E I hf st hg;subst hP hw hK;obtain⟨xs,ys,ad,ac,hx⟩:=hg;obtain⟨ai,ae,p1,_⟩:=I.list ad;obtain⟨ah,af,p2,_⟩:=I.list ac;obtain⟨hz,aa,⟨ua,ub,ab⟩,h1,h2⟩:=st;have D:=Dd ak aj hz aa ab h1 h2 p1.isList p2.isList;have l1:=ae.length;have l2:=af.length;refine wpAny_pyNext_zip_end (I.ok.hd hc) D hz aa ab h1 h2 p1.isList p2.isList (hx.elim (λh=> .inl (by simp;omega)) λh=> .inr (by simp;omega)) λh' k=>⟨rfl,I.turnedN (t':=s.toks) hf λc o hc e=>?_⟩;simp only[zzb,zzd,or_false,not_or]at hc;exact k c o hc.1 hc.2.2.1 hc.2.2.2.1 hc.2.2.2.2 e
 self:=λ_ _ _ _ _ st h=>wpAny_pyIter_zip st.1 h
noncomputable def Ite(K:Fg_)(a:Addr):It:=
 ⟨λi H=>∃xs x,SqL K H a xs/\xs[i]? =some x,
   λi H v H'=>∃p x,H p=none/\v=.ref p/\H'=upd H p (.tup [.int i,x])/\∀xs,SqL K H a xs->xs[i]? =some x,
   λi H=>∃xs,SqL K H a xs/\xs.length<=i⟩
def Vt{P:Program}{w:World}{K:Fg_}{elts:List Expr}{x1:Nat}{pos:Pos}(a e it:Addr)(af:e≠it):
  Turn P w K (.Tuple elts x1 pos) (Ite K a) [e,it] e (λi h=>(∃aa,IsEnum h e it i aa)/\h.IsListIter it a i) where
 mem:=by simp
 obj:=λi h st c hb=>by
  obtain⟨⟨aa,he⟩,⟨o1,e1,c1,d1⟩⟩:=st;simp only[zzb,zzd,or_false]at hb;rcases hb with rfl|rfl
  ·exact⟨_,he,λv z=>by cases z⟩
  ·exact⟨_,e1,λv z=>by rw[d1]at z;cases z⟩
 keep:=λi h h' st k=>by
  obtain⟨⟨aa,he⟩,h1⟩:=st;exact⟨⟨aa,k _ (by simp) _ he⟩,h1.at λo e=>k _ (by simp) o e⟩
 item:=by
  intro X hP hw hK hc i pins s σ H E I hf st hg;subst hP hw hK;obtain⟨xs,x,ab,hx⟩:=hg;obtain⟨ae,ac,p1,_⟩:=I.list ab;obtain⟨u1,ai,ah⟩:=ac.get hx;obtain⟨⟨aa,he⟩,h1⟩:=st;refine wpAny_pyNext_enum_item he h1 p1.isList (x:=u1) (by simpa using ai) af λh' a1 a2 a3 a4 a5=>?_;refine⟨_,rfl,wpAny_letOwnedTupleGo_enum (s:={s with heap:=h',toks:=s.toks+1}) a1 λag b1 b2=>?_⟩;have ne:s.heap.objs.size≠e:=yyy (zzn he)
  have k:∀c o,c∉[e,it]->s.heap.get? c=some o->ag.get? c=some o:=λc o hc q=>by
   simp only[zzb,zzd,or_false,not_or]at hc;exact(b2.2 c hc.1).trans (a5 c o hc.1 hc.2 q)
  have ad:ag.get? s.heap.objs.size=some {cls:=.type "tuple",data:=.seq #[.int i s.toks,u1]}:=(b2.2 _ ne).trans a3
  refine ⟨.ref s.heap.objs.size,upd H s.heap.objs.size (.tup [.int i,x]),I.turnedT (t':=s.toks+1) hf (zzc _) k ⟨by rw[zzk];simp,[.int i s.toks,u1],.cons ⟨_,rfl⟩ (.cons ah .nil),_,ad,rfl,_,rfl⟩,rfl,
   ⟨_,x,I.hok.fresh (zzc _),rfl,rfl,λaj q=>by rw[I.list_inj q ab];exact hx⟩,⟨⟨u1,by simpa using b1⟩,a2.at λo q=>(b2.2 _ (Ne.symm af)).trans q⟩,λc hb=>?_⟩
  obtain ⟨o,q⟩:∃o,s.heap.get? c=some o:=by
   simp only[zzb,zzd,or_false]at hb;rcases hb with rfl|rfl
   ·exact⟨_,he⟩
   ·obtain⟨o,q,_⟩:=h1;exact⟨o,q⟩
  rw[fC (zzv (zzn q))];exact(hf c hb).1
 done:=by
  intro X hP hw hK hc i pins s σ H E I hf st hg;subst hP hw hK;obtain⟨xs,ab,hx⟩:=hg;obtain⟨ae,ac,p1,_⟩:=I.list ab;obtain⟨⟨aa,he⟩,h1⟩:=st;have l1:=ac.length;refine wpAny_pyNext_enum_end (I.ok.hd hc) he h1 p1.isList (by simp;omega) λh' k=>⟨rfl,I.turnedN (t':=s.toks) hf λc o hc q=>?_⟩;simp only[zzb,zzd,or_false,not_or]at hc;exact k c o hc.2 q
 self:=λ_ _ _ _ _ st h=>by
  obtain⟨⟨aa,he⟩,_⟩:=st;exact wpAny_pyIter_enum he h
section
variable{X:Cx}{K:Fg_}{ta:TA}{elts:List Expr}{x1:Nat}{tpos:Pos}
noncomputable def agy(K:Fg_)(ta:TA):TI:=λσ H R=>ta σ H λvs H1=>∃a b,vs=[.ref a,.ref b]/\(∃xs,SqL K H1 a xs)/\(∃ys,SqL K H1 b ys)/\R (Itz K a b) H1
noncomputable def adW(K:Fg_)(ta:TA):TI:=λσ H R=>ta σ H λvs H1=>∃a,vs=[.ref a]/\(∃xs,SqL K H1 a xs)/\R (Ite K a) H1
def Xg{a b:Expr}{p pos:Pos}(hg:Gl X "zip") (hm:X.mg "zip" =none) (ha:PA X [a,b] ta) (hs:starEach [a,b] X.env=[(false,eval a X.env),(false,eval b X.env)]:=by rfl) (hs2:starEach [b] X.env=[(false,eval b X.env)]:=by rfl) (hK:X.K=K:=by rfl):
  PI X (.Tuple elts x1 tpos) (.Call (.Name "zip" p) [a,b] [] pos) (agy K ta):=by
 subst hK;intro pins s σ H R I h;refine Call_ (oX I hg hm (by decide+kernel) (PyProof.Rows.callWith_type1 (T:= "zip") (thn (ha pos pins s σ H _ I h) λus z ⟨vs,H1,I1,r1,q1⟩=>?_) (by rw[hs,hs2]) (by rw[hs2];rfl)));obtain⟨l1,l2,e,⟨xs,hx⟩,⟨ys,hy⟩,q⟩:=q1;subst e;obtain⟨u,v,rfl,ru,rv⟩:=vals2 r1;cases ru;cases rv;obtain⟨ac,_,p1,_⟩:=I1.list hx;obtain⟨ab,_,p2,_⟩:=I1.list hy;refine call_zip_2 p1.isList p2.isList λh' g1 g2 g3 g4 g5 g6 k=>?_;have I2:Inv X pins σ H1 {z with heap:=h'}:=I1.kept (t':=z.toks) k;refine wpAny_pyIter_zip (s:={z with heap:=h'}) g1 ⟨_,[z.heap.objs.size+4,z.heap.objs.size+2,z.heap.objs.size+3,z.heap.objs.size,z.heap.objs.size+1],_,_,H1,rfl,I2,aaL l1 l2 _ _ _ _ _ (show((z.heap.objs.size:Nat)+2≠z.heap.objs.size+3) by omega) (show((z.heap.objs.size:Nat)≠z.heap.objs.size+1) by omega),⟨g1,g2,⟨_,_,g3⟩,g4,g5⟩,λc hc=>?_,q⟩
 have hc':z.heap.objs.size<=c:=by
  simp only[zzb,zzd,or_false]at hc
  have aa:∃k:Nat,c=z.heap.objs.size+k:=by
   rcases hc with rfl|rfl|rfl|rfl|rfl
   ·exact⟨4,rfl⟩
   ·exact⟨2,rfl⟩
   ·exact⟨3,rfl⟩
   ·exact⟨0,rfl⟩
   ·exact⟨1,rfl⟩
  obtain⟨k,rfl⟩:=aa;exact Nat.le_add_right _ k
 exact I1.fpOk hc' (I1.hok.fresh hc')
def adh{a:Expr}{p pos:Pos}(hg:Gl X "enumerate") (hm:X.mg "enumerate" =none) (ha:PA X [a] ta) (hs:starEach [a] X.env=[(false,eval a X.env)]:=by rfl) (hK:X.K=K:=by rfl):
  PI X (.Tuple elts x1 tpos) (.Call (.Name "enumerate" p) [a] [] pos) (adW K ta):=by
 subst hK;intro pins s σ H R I h;refine Call_ (oX I hg hm (by decide+kernel) (PyProof.Rows.callWith_type1 (T:= "enumerate") (thn (ha pos pins s σ H _ I h) λus z ⟨vs,H1,I1,r1,q1⟩=>?_) (by rw[hs];rfl) rfl));obtain⟨l1,e,⟨xs,hx⟩,q⟩:=q1;subst e;obtain⟨u,rfl,ru⟩:=vals1 r1;cases ru;obtain⟨ab,_,p1,_⟩:=I1.list hx;refine call_enumerate_list p1.isList λh' g1 g2 g3 k=>?_;have I2:Inv X pins σ H1 {z with heap:=h'}:=I1.kept (t':=z.toks) k;refine wpAny_pyIter_enum (s:={z with heap:=h'}) g1 ⟨_,[z.heap.objs.size+1,z.heap.objs.size],_,_,H1,rfl,I2,Vt l1 _ _ (show((z.heap.objs.size:Nat)+1≠z.heap.objs.size) by omega),⟨⟨_,g1⟩,g2⟩,λc hc=>?_,q⟩
 have hc':z.heap.objs.size<=c:=by
  simp only[zzb,zzd,or_false]at hc
  have aa:∃k:Nat,c=z.heap.objs.size+k:=by
   rcases hc with rfl|rfl
   ·exact⟨1,rfl⟩
   ·exact⟨0,rfl⟩
  obtain⟨k,rfl⟩:=aa;exact Nat.le_add_right _ k
 exact I1.fpOk hc' (I1.hok.fresh hc')
variable{σ:St}{H:Hp}{R:It->Hp->Prop}{g:TG}{tb:TS}{D:Ends}{a b:Addr}{xs ys:List V}
def ap_iZip:agy K ta σ H R=ta σ H λvs H1=>∃a b,vs=[.ref a,.ref b]/\(∃xs,SqL K H1 a xs)/\(∃ys,SqL K H1 b ys)/\R (Itz K a b) H1:=rfl
def ap_iEnum:adW K ta σ H R=ta σ H λvs H1=>∃a,vs=[.ref a]/\(∃xs,SqL K H1 a xs)/\R (Ite K a) H1:=rfl
def CN.zip(q:Nat->St->Hp->Prop)(aa:xs.length=ys.length)(h0:q 0 σ H)(hl:∀i σ H,i<=xs.length->q i σ H->SqL K H a xs/\SqL K H b ys)
  (hs:∀i x y σ H p,xs[i]? =some x->ys[i]? =some y->q i σ H->H p=none->g (.ref p) σ (upd H p (.tup [x,y])) λσ2 H2=>tb {D with nx:=q (i+1),ct:=q (i+1),bk:=D.nx} σ2 H2) (hd:∀σ H,q xs.length σ H->D.nx σ H):CN (Itz K a b) g tb D σ H:=by
 refine⟨λi m σ H=>m=xs.length - i/\i<=xs.length/\q i σ H,⟨xs.length,by simp,zzB _,h0⟩,?_⟩;rintro i m σ H ⟨rfl,hi,p⟩;obtain⟨q1,q2⟩:=hl i σ H hi p;by_cases z:i<xs.length
 ·refine .inr ⟨⟨xs,ys,xs[i],ys[i],q1,q2,by simp[z],by simp[aa▸z]⟩,q (i+1),λσ' H' p'=>⟨xs.length - (i+1),by omega,rfl,z,p'⟩,λv H' y=>?_⟩
  obtain⟨pp,x,y,hp,rfl,rfl,e1,e2⟩:=y;exact hs i x y σ _ pp (e1 xs q1) (e2 ys q2) p hp
 ·have e:i=xs.length:=by omega
  subst e;exact .inl ⟨⟨xs,ys,q1,q2,.inl (zzc _)⟩,hd σ H p⟩
end
end L2
namespace L2
open PySem PySem.Spec PyProof.Rows
noncomputable def DK(h h':Heap):Prop:=∀b o,h.get? b=some o->∃o',h'.get? b=some o'/\o'.dict=o.dict
theorem DK.trans{h h1 h2:Heap}(a:DK h h1)(b:DK h1 h2):DK h h2:=λc o e=>by
 obtain⟨o1,q,d1⟩:=a c o e;obtain⟨z,e2,d2⟩:=b c o1 q;exact⟨z,e2,d2.trans d1⟩
structure KD{α:Type}(t:Sem α):Prop where
 out:∀(M:Model)(Γ:PySem.Ctx)(P:α->Pos->Shared->Prop)(E:Value->Pos->Shared->Prop)(p:Pos)(s:Shared),Sem.wp M Γ t P E p s->Sem.wp M Γ t (λa p' s'=>P a p' s'/\DK s.heap s'.heap) E p s
end L2
namespace L2
open PySem PySem.Spec PyProof.Rows
structure agL(K:Fg_)(C:Addr):Prop where
 ex:PySem.W.excIn K C [.type "ValueError",.type "Exception",.type "BaseException",.type "object"] "ValueError.__new__" =true
end L2
namespace L2
open PySem PySem.Spec PyProof.Rows
section
variable{prog:Program}{w:World}{A:Around}{E:Value->Shared->Prop}{h:Heap}{g:Array GenState}{d:Drawn}{t:Nat}{os:OsState}{a:Addr}{o:Obj}
 {nm q:Str} {C N:Addr} {bs bm:List Value} {hdct:Bool} {sn:List Str} {sub:List Value} {ab:Bool} {col:Option Bool} {dd:Option Addr} {k0 k1 k2 k3 k5:Option Value} {newId:String} {K:Fg_}
structure agN(K:Fg_)(C:Addr):Prop where
 cl:PySem.W.findIn K (.ref C) "__class__" =some (some (.builtin "object.__class__"))
 ga:PySem.W.findIn K (.ref C) "__getattribute__" =some (some (.builtin "BaseException.__getattribute__"))
 gh:PySem.W.findIn K (.ref C) "__getattr__" =some none
end
end L2
namespace L2
open PySem PySem.Spec PyProof.Rows
abbrev TX:=St->Hp->VK->XK->Prop
end L2
namespace L2
open PySem PySem.Spec PyProof.Rows
section
variable{κ:Type} [DecidableEq κ]
noncomputable def jo(kvs:List (κ×V))(k:κ):Option V:=(kvs.find? λkv=>decide (kv.1=k)).map (·.2)
noncomputable def putK(kvs:List (κ×V))(k:κ)(v:V):List (κ×V):=
 if(kvs.any λkv=>decide (kv.1=k))=true then kvs.map (λkv=>if kv.1=k then(kv.1,v)else kv)else kvs++[(k,v)]
noncomputable def Eo(kvs:List (κ×V))(k:κ):List (κ×V):=kvs.filter λkv=>decide (kv.1≠k)
def gC{p:κ×V}{r:List (κ×V)}{k:κ}(e:p.1=k):jo (p::r) k=some p.2:=by simp[jo,yy3,e]
def gD{p:κ×V}{r:List (κ×V)}{k:κ}(e:¬p.1=k):jo (p::r) k=jo r k:=by simp[jo,yy3,e]
theorem jn(k:κ):∀kvs:List (κ×V),(kvs.any λq=>decide (q.1=k))=(jo kvs k).isSome
 |[]=>rfl
 |p::r=>by
  rw[List.any_cons];by_cases e:p.1=k
  ·simp only[gC e,zzx e,Bool.true_or,Option.isSome_some]
  ·rw[gD e,zzH e,Bool.false_or];exact jn k r
theorem Ru(k j:κ)(y:V):∀kvs:List (κ×V),jo (kvs.map λq=>if q.1=k then(q.1,y)else q) j=(jo kvs j).map λx=>if j=k then y else x
 |[]=>rfl
 |p::r=>by
  have ih:=Ru k j y r;rw[z6];by_cases h:p.1=k
  ·rw[z8 h]
   by_cases e:p.1=j
   ·rw[gC (p:=(p.1,y)) e,gC e,ZG,z8 (e.symm.trans h)]
   ·rw[gD (p:=(p.1,y)) e,gD e,ih]
  ·rw[z4 h]
   by_cases e:p.1=j
   ·rw[gC (p:=p) e,gC e,ZG,z4 (λz=>h (e.trans z))]
   ·rw[gD (p:=p) e,gD e,ih]
theorem Mq(k j:κ)(y:V):∀kvs:List (κ×V),jo kvs k=none->jo (kvs++[(k,y)]) j=if j=k then some y else jo kvs j
 |[],_=>by
  by_cases e:k=j
  ·rw[z8 e.symm];exact gC (p:=(k,y)) e
  ·rw[z4 (λz=>e z.symm)];exact gD (p:=(k,y)) e
 |p::r,hn=>by
  rw[List.cons_append];have q:¬p.1=k:=λz=>by rw[gC z]at hn;cases hn
  rw[gD q]at hn;have ih:=Mq k j y r hn;by_cases e:p.1=j
  ·rw[gC e,gC e,z4 (λz=>q (e.trans z))]
  ·rw[gD e,gD e,ih]
def Rm(kvs:List (κ×V))(k j:κ)(y:V):jo (putK kvs k y) j=if j=k then some y else jo kvs j:=by
 unfold putK;by_cases a:(kvs.any λkv=>decide (kv.1=k))=true
 ·rw[z8 a,Ru]
  rw[jn]at a;by_cases e:j=k
  ·obtain⟨x,z⟩:=yyO.mp a
   rw[z8 e,e,z,ZG,z8 rfl]
  ·rw[z4 e]
   cases jo kvs j with
   |none=>rfl
   |some x=>rw[ZG,z4 e]
 ·rw[z4 a]
  refine Mq k j y kvs ?_;rw[jn]at a
  cases q:jo kvs k with
  |none=>rfl
  |some x=>rw[q]at a;exact(a rfl).elim
def rJ(kvs:List (κ×V))(k:κ)(v:V):(putK kvs k v).length<=kvs.length+1:=by
 unfold putK;split
 ·rw[z0];omega
 ·rw[zzt,zzu,yyJ];omega
def JH{kvs:List (κ×V)}{k:κ}(v:V)(h:jo kvs k=none):putK kvs k v=kvs++[(k,v)]:=by
 unfold putK;rw[jn,h];exact z4 (by decide)
def Gj.isSome_eq{o:Option V}{u:Option Value}(r:Gj o u):o.isSome=u.isSome:=by
 cases o with
 |none=>cases u with
  |none=>rfl
  |some _=>exact(show False from r).elim
 |some _=>cases u with
  |none=>exact(show False from r).elim
  |some _=>rfl
theorem Gj.getD{o:Option V}{u:Option Value}{d:V}{d':Value}(r:Gj o u)(rd:RelV d d'):RelV (o.getD d) (u.getD d'):=by
 cases o with
 |none=>cases u with
  |none=>exact rd
  |some _=>exact(show False from r).elim
 |some _=>cases u with
  |none=>exact(show False from r).elim
  |some _=>exact r
def KV.val{kvs:List (κ×V)}{vs:List (κ×Value)}(r:KV kvs vs)(k:κ):Gj (jo kvs k) (valueAt vs k):=by
 unfold KV at r
 induction r with
 |nil=>exact True.intro
 | @cons p q ps qs h t ih=>
  obtain⟨h1,h2⟩:=h;by_cases e:p.1=k
  ·have e':q.1=k:=h1.symm.trans e
   have b:valueAt (q::qs) k=some q.2:=by simp[valueAt,yy3,e']
   rw[gC e,b];exact h2
  ·have e':¬q.1=k:=λz=>e (h1.trans z)
   have b:valueAt (q::qs) k=valueAt qs k:=by simp[valueAt,yy3,e']
   rw[gD e,b];exact ih
theorem KV.any{kvs:List (κ×V)}{vs:List (κ×Value)}(r:KV kvs vs)(k:κ):(kvs.any λq=>decide (q.1=k))=vs.any λq=>decide (q.1=k):=by
 unfold KV at r
 induction r with
 |nil=>rfl
 |cons h t ih=>rw[List.any_cons,List.any_cons,ih,h.1]
def KV.repl{kvs:List (κ×V)}{vs:List (κ×Value)}(r:KV kvs vs)(k:κ){y:V}{u:Value}(ry:RelV y u):
  KV (kvs.map λkv=>if kv.1=k then(kv.1,y)else kv) (vs.map λkv=>if kv.1=k then(kv.1,u)else kv):=by
 unfold KV at r⊢
 induction r with
 |nil=>exact .nil
 | @cons p q ps qs h t ih=>
  rw[z6,z6];refine .cons ?_ ih;obtain⟨h1,h2⟩:=h;by_cases e:p.1=k
  ·rw[z8 e,z8 (h1.symm.trans e)];exact⟨h1,ry⟩
  ·rw[z4 e,z4 (λz=>e (h1.trans z))];exact⟨h1,h2⟩
def KV.put{kvs:List (κ×V)}{vs:List (κ×Value)}(r:KV kvs vs)(k:κ){y:V}{u:Value}(q:RelV y u):KV (putK kvs k y) (stored vs k u):=by
 unfold putK stored;rw[r.any k];by_cases e:(vs.any λz=>decide (z.1=k))=true
 ·rw[z8 e,z8 e];exact r.repl k q
 ·rw[z4 e,z4 e];exact Paired.snoc r ⟨rfl,q⟩
def KV.drop{kvs:List (κ×V)}{vs:List (κ×Value)}(r:KV kvs vs)(k:κ):KV (Eo kvs k) (without vs k):=by
 unfold KV at r⊢;unfold Eo without
 induction r with
 |nil=>exact .nil
 | @cons p q ps qs h t ih=>
  obtain⟨h1,h2⟩:=h;rw[Ya5,Ya5];by_cases e:p.1=k
  ·have a:¬decide (p.1≠k)=true:=by simp[e]
   have b:¬decide (q.1≠k)=true:=by simp[h1.symm.trans e]
   rw[z4 a,z4 b];exact ih
  ·have e':¬q.1=k:=λz=>e (h1.trans z)
   have a:decide (p.1≠k)=true:=by simp[e]
   have b:decide (q.1≠k)=true:=by simp[e']
   rw[z8 a,z8 b];exact .cons ⟨h1,h2⟩ ih
def KV.keys{kvs:List (κ×V)}{vs:List (κ×Value)}(r:KV kvs vs):kvs.map (·.1)=vs.map (·.1):=by
 unfold KV at r
 induction r with
 |nil=>rfl
 |cons h t ih=>rw[z6,z6,ih,h.1]
theorem KV.length{kvs:List (κ×V)}{vs:List (κ×Value)}(r:KV kvs vs):kvs.length=vs.length:=zzV r
def aas(kvs:List (κ×V))(k:κ):(Eo kvs k).length<=kvs.length:=yym _ _
end
def Gu{P:Program}{w:World}{k:Key}{u:Value}(r:RelV (kV k) u):(gb P w).is k u=true:=by
 cases k with
 |inl i=>obtain⟨t,e⟩:=(show∃t,u=Value.int i t from r);subst e;exact Oo P w i t
 |inr x=>obtain⟨t,e⟩:=(show∃t,u=Value.str x t from r);subst e;exact Oa P w x t
theorem Ma{P:Program}{w:World}:∀{ks:List Key}{us:List Value},Vals (ks.map kV) us->ItemsAre (gb P w) ks us
 |[],_,r=>by rw[Zd]at r;cases r;exact .nil
 |k::ks,_,r=>by
  rw[z6]at r
  cases r with
  |cons h t=>exact .cons (Gu h) (Ma t)
abbrev KT(H:Hp):List (List Key×V)->List (List Key×Addr×Value)->Prop:=Paired λp q=>p.1=q.1/\H q.2.1=some (.tup (p.1.map kV))/\RelV p.2 q.2.2
def KT.val{H:Hp}{kvs:List (List Key×V)}{xs:List (List Key×Addr×Value)}(r:KT H kvs xs)(k:List Key):Gj (jo kvs k) ((atKey xs k).map (·.2)):=by
 induction r with
 |nil=>exact True.intro
 | @cons p q ps qs h t ih=>
  obtain⟨h1,_,h2⟩:=h;by_cases e:p.1=k
  ·have e':q.1=k:=h1.symm.trans e
   have b:atKey (q::qs) k=some q.2:=by simp[atKey,yy3,e']
   rw[gC e,b];exact h2
  ·have e':¬q.1=k:=λz=>e (h1.trans z)
   have b:atKey (q::qs) k=atKey qs k:=by simp[atKey,yy3,e']
   rw[gD e,b];exact ih
def KT.repl{H:Hp}{kvs:List (List Key×V)}{xs:List (List Key×Addr×Value)}(r:KT H kvs xs)(k:List Key){y:V}{u:Value}(ry:RelV y u):
  KT H (kvs.map λkv=>if kv.1=k then(kv.1,y)else kv) (xs.map (putAt k u)):=by
 induction r with
 |nil=>exact .nil
 | @cons p q ps qs h t ih=>
  rw[z6,z6];refine .cons ?_ ih;obtain⟨h1,h2,h3⟩:=h;unfold putAt;by_cases e:p.1=k
  ·rw[z8 e,z8 (h1.symm.trans e)];exact⟨h1,h2,ry⟩
  ·rw[z4 e,z4 (λz=>e (h1.trans z))];exact⟨h1,h2,h3⟩
def KT.put{H:Hp}{kvs:List (List Key×V)}{xs:List (List Key×Addr×Value)}(r:KT H kvs xs)(k:List Key){b:Addr}{y:V}{u:Value}(hb:H b=some (.tup (k.map kV)))(z:RelV y u):
  KT H (putK kvs k y) (storedH xs k b u):=by
 have e:(kvs.any λkv=>decide (kv.1=k))=(atKey xs k).isSome:=by
  rw[jn,(r.val k).isSome_eq,Option.isSome_map]
 unfold putK storedH;rw[e];by_cases q:(atKey xs k).isSome=true
 ·rw[z8 q,z8 q];exact r.repl k z
 ·rw[z4 q,z4 q];exact Paired.snoc r ⟨rfl,hb,z⟩
def KT.keeps{H H':Hp}{kvs:List (List Key×V)}{xs:List (List Key×Addr×Value)}(r:KT H kvs xs)(q:∀b ys,H b=some (.tup ys)->H' b=some (.tup ys)):KT H' kvs xs:=
 Paired.mapP r λ_ _ z=>⟨z.1,q _ _ z.2.1,z.2.2⟩
section
variable{P:Program}{w:World}{H:Hp}{h:Heap}{a:Addr}
def aeK{u:HO}(ok:HOk P w H h)(e:Rd H a u):iJ P w H h a u:=e.ok ok
def Bt{kvs:List (Key×V)}(ok:HOk P w H h)(e:Rd H a (.dK kvs)):kvs.length<=sizeLine/\(a==sysModules)=false/\∃vs,KV kvs vs/\h.DictOf (gb P w) a vs:=
 show iJ P w H h a (.dK kvs)from aeK ok e
def Uk{kvs:List (Key×V)}(ok:HOk P w H h)(e:H a=some (.dK kvs)):kvs.length<=sizeLine/\(a==sysModules)=false/\∃vs,KV kvs vs/\h.DictOf (gb P w) a vs:=Bt ok (.inl e)
def Ho{ks:List Key}(ok:HOk P w H h)(e:H a=some (.tup (ks.map kV))):(tupleKind (gb P w)).is h ks a:=by
 obtain⟨_,its,r,o,h1,h2,n,q⟩:=(show iJ P w H h a (.tup (ks.map kV))from ok a _ e);exact⟨o,its.toArray,n,h1,h2,q,by simpa using Ma r⟩
def Nz{kvs:List (List Key×V)}(ok:HOk P w H h)(e:Rd H a (.dT kvs)):kvs.length<=sizeLine/\(a==sysModules)=false/\
  ∃xs,KT H kvs xs/\h.DictOfH (tupleKind (gb P w)) a xs:=by
 obtain⟨z,y,xs,r,o,es,ep,h1,h2,h3,h4,h5⟩:=(show iJ P w H h a (.dT kvs)from aeK ok e);refine⟨z,y,xs,r,o,es,ep,h1,h2,h3,h4,λx hx=>?_,h5⟩
 have aa:∀{l:List (List Key×V)}{m:List (List Key×Addr×Value)},KT H l m->∀x∈m,(tupleKind (gb P w)).is h x.1 x.2.1:=by
  intro l m q
  induction q with
  |nil=>intro x hx;exact nomatch hx
  | @cons p q ps qs hq t ih=>
   intro x hx;rcases zzb.mp hx with e|hx
   ·subst e
    exact Ho ok (by rw[<-hq.1];exact hq.2.1)
   ·exact ih x hx
 exact aa r x hx
def afI{kvs:List (List Key×V)}(ok:HOk P w H h)(e:H a=some (.dT kvs)):kvs.length<=sizeLine/\(a==sysModules)=false/\
  ∃xs,KT H kvs xs/\h.DictOfH (tupleKind (gb P w)) a xs:=Nz ok (.inl e)
end
noncomputable def Ir(H:Hp)(a:Addr)(y:V)(r:Option V):Prop:=
 (∃kvs k,Rd H a (.dK kvs)/\y=kV k/\r=jo kvs k)\/∃kvs k b,Rd H a (.dT kvs)/\y=.ref b/\H b=some (.tup (k.map kV))/\r=jo kvs k
noncomputable def afx(H:Hp)(a:Addr)(y v:V)(H':Hp):Prop:=
 (∃kvs k,H a=some (.dK kvs)/\y=kV k/\kvs.length<sizeLine/\H'=upd H a (.dK (putK kvs k v)))\/
 ∃kvs k b,H a=some (.dT kvs)/\y=.ref b/\H b=some (.tup (k.map kV))/\kvs.length<sizeLine/\H'=upd H a (.dT (putK kvs k v))
def nH{H:Hp}{a:Addr}{kvs:List (Key×V)}{k:Key}(e:H a=some (.dK kvs)):Ir H a (kV k) (jo kvs k):=.inl ⟨kvs,k,.inl e,rfl,rfl⟩
def qD{H:Hp}{a:Addr}{kvs:List (Key×V)}{k:Key}{v:V}(e:H a=some (.dK kvs))(q:kvs.length<sizeLine):afx H a (kV k) v (upd H a (.dK (putK kvs k v))):=.inl ⟨kvs,k,e,rfl,q,rfl⟩
section
variable{X:Cx}{pins:List (Addr×Obj)}{σ:St}{H:Hp}{s:Shared}{a:Addr}{y v:V}{u r:Value}{o:Option V}{A:Around}{E:Value->Shared->Prop}
def Inv.big(I:Inv X pins σ H s):sysModules<s.heap.objs.size:=by
 have h:mainGlobals<s.heap.objs.size:=(I.mod.glob.keeps I.bk).lt;exact yyM (by decide) h
def XD{Q:Value->Shared->Prop}(hu:A.units+1<cLine)(I:Inv X pins σ H s)(g:Ir H a y (some v))(ry:RelV y u)(h:∀w' s',Inv X pins σ H s'->RelV v w'->Q w' s'):
  wpAny (model X.prog X.w) A (getItem (.ref a) u) Q E s:=by
 rcases g with⟨kvs,k,e,ey,l⟩|⟨kvs,k,b,e,ey,eb,l⟩
 ·subst ey
  obtain⟨z,hd,vs,rel,dd⟩:=Bt I.hok e;obtain⟨w',hw,q⟩:=Gj.some_of (v:=v) (o:=valueAt vs k) (by rw[l];exact rel.val k);exact wpAny_getItem_of (Gu ry) dd.mapOf hw (h w' _ (I.tok _) q)
 ·subst ey
  cases (show u=Value.ref b from ry);obtain⟨z,hd,xs,rel,dd⟩:=Nz I.hok e;obtain⟨w',hw,q⟩:=Gj.some_of (v:=v) (o:=(atKey xs k).map (·.2)) (by rw[l];exact rel.val k);obtain⟨p,hp,aa⟩:=Zs.mp hw;refine wpAny_getItem_heap (tupleKind_room_in1 hu) (Ho I.hok eb) dd hp ?_;rw[aa];exact h w' _ (I.tok _) q
def agC{Q:Value->Shared->Prop}(hu:A.units+1<cLine)(I:Inv X pins σ H s)(g:Ir H a y o)(ry:RelV y u)(h:∀s',Inv X pins σ H s'->Q (.bool o.isSome) s'):
  wpAny (model X.prog X.w) A (compareOp .In u (.ref a)) Q E s:=by
 rcases g with⟨kvs,k,e,ey,l⟩|⟨kvs,k,b,e,ey,eb,l⟩
 ·subst ey
  obtain⟨z,hd,vs,rel,dd⟩:=Bt I.hok e;refine wpAny_in_of (Gu ry) hd dd.mapOf ?_;rw[<-(rel.val k).isSome_eq,<-l];exact h _ (I.tok _)
 ·subst ey
  cases (show u=Value.ref b from ry);obtain⟨z,hd,xs,rel,dd⟩:=Nz I.hok e;refine wpAny_in_heap (tupleKind_room_in1 hu) (Ho I.hok eb) hd dd ?_;have q:=(rel.val k).isSome_eq;rw[Option.isSome_map]at q;rw[<-q,<-l];exact h _ (I.tok _)
def Jj{h':Heap}{t':Nat}{ob:HO}(I:Inv X pins σ H s)(mu:Mut (H a))(hs:Heap.SameBut a s.heap h')(he:∃q,h'.get? a=some q)(aa:iJ X.prog X.w (upd H a ob) h' a ob):
  Inv X pins σ (upd H a ob) {s with heap:=h',toks:=t'}:=
 I.write (x:=a) (e:=a) mu (.inl rfl) (λb q hb z=>(hs.2 b hb).trans z) he aa
def Mr{P:Program}{w:World}{H':Hp}{h':Heap}{kvs:List (Key×V)}{vs:List (Key×Value)}(z:kvs.length<=sizeLine)(hd:(a==sysModules)=false)(rel:KV kvs vs)(q:h'.DictOf (gb P w) a vs):
  iJ P w H' h' a (.dK kvs):=⟨z,hd,vs,rel,q⟩
def XJ{H':Hp}{Q:Unit->Shared->Prop}(hu:A.units+1<cLine)(I:Inv X pins σ H s)(g:afx H a y v H')(ry:RelV y u)(rv:RelV v r)(h:∀s',Inv X pins σ H' s'->Q () s'):
  wpAny (model X.prog X.w) A (setItem (.ref a) u r) Q E s:=by
 rcases g with⟨kvs,k,e,ey,l,eH⟩|⟨kvs,k,b,e,ey,eb,l,eH⟩
 ·subst ey eH
  obtain⟨z,hd,vs,rel,dd⟩:=Uk I.hok e;have hz:vs.length<=sizeLine:=by rw[<-rel.length];exact z
  have hl:(putK kvs k v).length<=sizeLine:=by have:=rJ kvs k v;omega
  refine wpAny_setItem_pairs (hsz:=hz) (Gu ry) dd λh' aa hs=>h _ ?_;have he:∃q,h'.get? a=some q:=let⟨q,_,_,hq,_⟩:=aa;⟨q,hq⟩
  exact Jj I (by rw[e];exact True.intro) hs he (Mr hl hd (rel.put k rv) aa)
 ·subst ey eH
  cases (show u=Value.ref b from ry);obtain⟨z,hd,xs,rel,dd⟩:=afI I.hok e;have hz:xs.length<=sizeLine:=by rw[<-zzV rel];exact z
  have hl:(putK kvs k v).length<=sizeLine:=by have:=rJ kvs k v;omega
  refine wpAny_setItem_heap (hsz:=hz) (tupleKind_room_in1 hu) (Ho I.hok eb) dd λh' aa hs=>h _ ?_;obtain⟨q,es,ep,hq,h2,h3,h4,_,h5⟩:=aa;refine Jj I (by rw[e];exact True.intro) hs ⟨q,hq⟩ ⟨hl,hd,_,(rel.put k eb rv).keeps λc ys ec=>?_,q,es,ep,hq,h2,h3,h4,h5⟩;rw[fC (afS ec e (λz=>nomatch z))];exact ec
end
section
variable{X:Cx}{pins:List (Addr×Obj)}{σ:St}{H:Hp}{s:Shared}{a:Addr}{kvs:List (Key×V)}{k:Key}{u:Value}{A:Around}{E:Value->Shared->Prop}
def afj{v:V}{more:List Value}{Q:Value->Shared->Prop}(I:Inv X pins σ H s)(e:H a=some (.dK kvs))(ry:RelV (kV k) u)(l:jo kvs k=some v)(hm:more=[]\/∃x,more=[x])
  (h:∀w' s',Inv X pins σ (upd H a (.dK (Eo kvs k))) s'->RelV v w'->Q w' s'):wpAny (model X.prog X.w) A (call (.builtin "dict.pop") (.ref a::u::more)) Q E s:=by
 obtain⟨z,hd,vs,rel,dd⟩:=Uk I.hok e;obtain⟨w',hw,ab⟩:=Gj.some_of (v:=v) (o:=valueAt vs k) (by rw[<-l];exact rel.val k)
 have hp:(keyPart u).isSome=true:=by
  cases k with
  |inl i=>obtain⟨t,q⟩:=(show∃t,u=Value.int i t from ry);subst q;rfl
  |inr x=>obtain⟨t,q⟩:=(show∃t,u=Value.str x t from ry);subst q;rfl
 have ha:argsOk "dict.pop" ⟨.ref a::u::more,[]⟩:=by
  rcases hm with q|⟨x,q⟩
  ·subst q;exact PySem.F.args_dict_pop_2 _ _
  ·subst q;exact PySem.F.args_dict_pop_3 _ _ _
 refine yy1 yy4 dd.typeIs PySem.F.entry_dict_pop ha (meets_dict_pop_there (gb X.prog X.w) a (Gu ry) more hm hp)
  ⟨vs,w',dd,by rw[<-rel.length];exact z,hw,λh' aa hs=>h w' _ ?_ ab⟩
 have he:∃q,h'.get? a=some q:=let⟨q,_,_,hq,_⟩:=aa;⟨q,hq⟩
 exact Jj I (by rw[e];exact True.intro) hs he (Mr (zzK (aas kvs k) z) hd (rel.drop k) aa)
def afq{r:Value}{Q:Value->Shared->Prop}(I:Inv X pins σ H s)(e:H a=some (.dK kvs))(ry:RelV (kV k) u)(l:jo kvs k=none)(h:∀s',Inv X pins σ H s'->Q r s'):
  wpAny (model X.prog X.w) A (call (.builtin "dict.pop") [.ref a,u,r]) Q E s:=by
 obtain⟨z,hd,vs,rel,dd⟩:=Uk I.hok e;have hn:valueAt vs k=none:=Gj.none_of (by rw[<-l];exact rel.val k)
 have hp:(keyPart u).isSome=true:=by
  cases k with
  |inl i=>obtain⟨t,q⟩:=(show∃t,u=Value.int i t from ry);subst q;rfl
  |inr x=>obtain⟨t,q⟩:=(show∃t,u=Value.str x t from ry);subst q;rfl
 exact yy1 yy4 dd.typeIs PySem.F.entry_dict_pop (PySem.F.args_dict_pop_3 _ _ _) (meets_dict_pop_default (gb X.prog X.w) a (Gu ry) hd hp r) ⟨vs,dd,hn,h _ (I.tok _)⟩
end
noncomputable def agw(i:Expr):Prop:=∀ov iv,subscripted i false ov iv=operate [ov,iv] (getItem ov iv)
def acR{prog:Program}{w:World}{A:Around}{E:Value->Shared->Prop}{s:Shared}{env:Env}{value q:Expr}{pos:Pos}{T id:String}{Q:Value->Shared->Prop}
  (hl:typeLookup (.type T) "__getitem__" =pure (some (.builtin id))) (hs:agw q)
  (h:wpAny (model prog w) A (eval value env) (λo s₁=>wpAny (model prog w) A (eval q env) (λi s₂=>s₂.TypeIs o T/\wpAny (model prog w) A (getItem o i) Q E s₂) E s₁) E s):
  wpAny (model prog w) A (eval (.Subscript value q pos) env) Q E s:=by
 refine Subscript_ (yyg h (λo s₁ h₁=>yyg h₁ (λi s₂ h₂=>?_) λ_ _ x=>x) λ_ _ x=>x);obtain⟨hT,h₂⟩:=h₂;unfold subscriptTail;refine z5 ?_;rw[getitemInPython_of_ne hT.not_modules];refine z5 (ZI hT hl ?_)
 have z:wpAny (model prog w) A (subscripted q false o i) (λr s₃=>wpAny (model prog w) A (letTemporaryGo value o r>>=λ_=>pure r) Q E s₃) E s₂:=by
  rw[hs o i];exact wpAny_operating (yyg h₂ (λr s₃ h₃=>z5 (wpAny_letTemporaryGo (zzi h₃))) λ_ _ x=>x)
 first
  |exact zzi (z5 z)
  |exact z5 (zzi (z5 z))
  |exact z5 z
def Om{X:Cx}{pins:List (Addr×Obj)}{σ:St}{H:Hp}{s:Shared}{a:Addr}{y:V}{o:Option V}(I:Inv X pins σ H s)(g:Ir H a y o):s.TypeIs (.ref a) "dict" :=by
 rcases g with⟨kvs,k,e,_,_⟩|⟨kvs,k,b,e,_,_,_⟩
 ·obtain⟨_,_,vs,_,q⟩:=Bt I.hok e
  exact q.typeIs
 ·obtain⟨_,_,xs,_,q⟩:=Nz I.hok e
  exact q.typeIs
noncomputable def aer(td ty:TE):TE:=λσ H Q=>td σ H λx H1=>ty σ H1 λy H2=>∃a v,x=.ref a/\Ir H2 a y (some v)/\Q v H2
noncomputable def aeG(td ty tv:TE):TS:=λD σ H=>tv σ H λv H1=>td σ H1 λx H2=>ty σ H2 λy H3=>∃a H4,x=.ref a/\afx H3 a y v H4/\D.nx σ H4
section
variable{X:Cx}{o i e value:Expr}{pos pos' tpos:Pos}{td ty tv:TE}
def jA(hu:X.A.units+1<cLine)(ho:PE X o td)(hi:PE X i ty)(hs:agw i):PE X (.Subscript o i pos) (aer td ty):=by
 intro pins s σ H Q I h;refine acR PySem.F.slot_dict_getitem.lookup hs (thn (ho pins s σ H _ I h) λu s1 ⟨x,H1,I1,rx,q1⟩=>thn (hi pins s1 σ H1 _ I1 q1) λiv s2 ⟨y,H2,z,ry,a,v,ex,g,q2⟩=>?_);subst ex;obtain rfl:u=Value.ref a:=rx;exact⟨Om z g,XD hu z g ry λw' s3 I3 q=>⟨v,H2,I3,q,q2⟩⟩
def lJ(hu:X.A.units+1<cLine)(ho:PE X o td)(hi:PE X i ty)(q:PE X value tv)(hs:swapsWith value (some (.Subscript o i pos')) pos.line X.env=pure false):
  PS X (.Assign [.Subscript o i pos'] value pos) (aeG td ty tv):=by
 intro pins s σ H D I h;refine wpAny_Assign_Subscript (thn (q pins s σ H _ I h) λr s1 ⟨v,H1,I1,rv,q1⟩=>thn (ho pins s1 σ H1 _ I1 q1) λu s2 ⟨x,H2,I2,rx,q2⟩=>thn (hi pins s2 σ H2 _ I2 q2) λiv s3 ⟨y,H3,I3,ry,a,H4,ex,g,z⟩=>?_) hs;subst ex;obtain rfl:u=Value.ref a:=rx;exact XJ hu I3 g ry rv λs4 I4=>⟨σ,H4,I4,z⟩
end
def QQ{P:Program}{w:World}{H:Hp}(h:Heap)(q:sysModules<h.objs.size):iJ P w H (h.push {cls:=.type "dict",data:=.dict #[]}) h.objs.size (.dK []):=
 ⟨zzB _,beq_eq_false_iff_ne.mpr (Ne.symm (zzv q)),[],.nil,Heap.DictOf.new h⟩
noncomputable def abm:TE:=λ_ H Q=>∀p,H p=none->Q (.ref p) (upd H p (.dK []))
section
variable{X:Cx}{pos:Pos}
def nZ:PE X (.Dict [] [] pos) abm:=λpins s σ H Q I h=>
 wpAny_Dict_empty ⟨.ref s.heap.objs.size,_,I.laid (a:=s.heap.objs.size) (o:=.dK []) (t':=s.toks) (λ_ _ q=>z7 _ q) (zzc _) (QQ s.heap I.big),rfl,h _ (I.hok.fresh (zzc _))⟩
end
noncomputable def Rz:List (TE×TE)->St->Hp->(List (V×V)->Hp->Prop)->Prop
 |[],_,H,Q=>Q [] H
 |(tk,tv)::r,σ,H,Q=>tk σ H λx H1=>tv σ H1 λy H2=>Rz r σ H2 λps H3=>Q ((x,y)::ps) H3
abbrev VV:List (V×V)->List (Value×Value)->Prop:=Paired λp q=>RelV p.1 q.1/\RelV p.2 q.2
noncomputable def PPs(X:Cx)(pos:Pos)(keys:List (Option Expr))(values:List Expr)(trs:List (TE×TE)):Prop:=
 ∀(pins:List (Addr×Obj)) (s:Shared) (σ:St) (H:Hp) (Q:List (V×V)->Hp->Prop),Inv X pins σ H s->Rz trs σ H Q->
  wpAny (model X.prog X.w) X.A (evalPairs (pairTrees keys values X.env pos)) (λvs s'=>∃ps H',Inv X pins σ H' s'/\VV ps vs/\Q ps H') X.xe s
def adx{X:Cx}{pos:Pos}:PPs X pos [] [] []:=λpins s σ H Q I h=>pairTrees_nil_walk ⟨[],H,I,.nil,h⟩
def Qz{X:Cx}{pos:Pos}{k v:Expr}{ks:List (Option Expr)}{vs:List Expr}{tk tv:TE}{q:List (TE×TE)}(hk:PE X k tk)(z:PE X v tv)(hr:PPs X pos ks vs q):
  PPs X pos (some k::ks) (v::vs) ((tk,tv)::q):=λpins s σ H Q I h=>
 pairTrees_cons_walk (thn (hk pins s σ H _ I h) λu s1 ⟨x,H1,I1,rx,q1⟩=>thn (z pins s1 σ H1 _ I1 q1) λw2 s2 ⟨y,H2,I2,ry,q2⟩=>
  thn (hr pins s2 σ H2 _ I2 q2) λws s3 ⟨ps,H3,I3,rel,q3⟩=>⟨(x,y)::ps,H3,I3,.cons ⟨rx,ry⟩ rel,q3⟩)
noncomputable def HB(kvs more:List (Key×V)):List (Key×V):=more.foldl (λacc kv=>putK acc kv.1 kv.2) kvs
def KV.merge:∀{more:List (Key×V)}{rs:List (Key×Value)}{kvs:List (Key×V)}{vs:List (Key×Value)},KV more rs->KV kvs vs->KV (HB kvs more) (merged vs rs):=by
 intro more rs kvs vs r;unfold KV at r
 induction r generalizing kvs vs with
 |nil=>intro q;exact q
 | @cons p q ps qs h t ih=>
  intro z
  have e:KV (putK kvs p.1 p.2) (stored vs q.1 q.2):=by
   have:=z.put p.1 h.2;rw[<-h.1];exact this
  exact ih e
theorem tE:∀(more kvs:List (Key×V)),(HB kvs more).length<=kvs.length+more.length
 |[],kvs=>by show kvs.length<=kvs.length+0;omega
 |p::r,kvs=>by
  have h1:=tE r (putK kvs p.1 p.2);have h2:=rJ kvs p.1 p.2;show(HB (putK kvs p.1 p.2) r).length<=_;rw[zzu];omega
theorem Hs{P:Program}{w:World}:∀{kvs:List (Key×V)}{ws:List (Value×Value)},VV (kvs.map λz=>(kV z.1,z.2)) ws->∃rs,Carries (gb P w) ws rs/\KV kvs rs
 |[],_,r=>by rw[Zd]at r;cases r;exact⟨[],True.intro,.nil⟩
 |p::kvs,_,r=>by
  rw[z6]at r
  cases r with
  | @cons a b as bs h t=>
   obtain⟨rs,c,q⟩:=Hs (P:=P) (w:=w) t;obtain⟨b1,b2⟩:=b;exact⟨(p.1,b2)::rs,⟨Gu h.1,rfl,c⟩,.cons ⟨rfl,h.2⟩ q⟩
noncomputable def afi(trs:List (TE×TE)):TE:=λσ H Q=>∀p,H p=none->Rz trs σ (upd H p (.dK [])) λps H2=>H2 p=some (.dK [])/\∃kvs:List (Key×V),ps=kvs.map (λkv=>(kV kv.1,kv.2))/\kvs.length<=15/\Q (.ref p) (upd H2 p (.dK (HB [] kvs)))
def adJ{X:Cx}{pos:Pos}{aa:List (Option Expr)}{ab:List Expr}{ad:List (TE×TE)}(h:PPs X pos aa ab ad)(ae:aa.all (·.isSome)=true)(hl:aa.length=ab.length)(h0:aa≠[])
  (af:aa.length<=15):PE X (.Dict aa ab pos) (afi ad):=by
 intro pins s σ H Q I q;have hn:=I.hok.fresh (zzc s.heap.objs.size);have I1:=I.laid (a:=s.heap.objs.size) (o:=.dK []) (h':=s.heap.push {cls:=.type "dict",data:=.dict #[]}) (t':=s.toks) (λ_ _ q=>z7 _ q) (zzc _) (QQ s.heap I.big);refine wpAny_Dict_walk (knd:=gb X.prog X.w) ae hl h0 af (thn (h pins _ σ _ _ I1 (q _ hn)) λws s2 ⟨ps,H2,I2,rel,e,kvs,ep,lk,q2⟩=>?_);subst ep;obtain⟨rs,c,rk⟩:=Hs (P:=X.prog) (w:=X.w) rel;obtain⟨z,hd,ag,r0,dd⟩:=Uk I2.hok e;cases r0;refine⟨rs,c,dd,λh' ac hs=>⟨.ref s.heap.objs.size,_,?_,rfl,q2⟩⟩
 have hz:(HB [] kvs).length<=sizeLine:=by
  have h1:=tE kvs [];rw[yyJ]at h1;rw[zzk];omega
 have he:∃q,h'.get? s.heap.objs.size=some q:=let⟨q,_,_,hq,_⟩:=ac;⟨q,hq⟩
 exact Jj I2 (by rw[e];exact True.intro) hs he (Mr hz hd (rk.merge .nil) ac)
structure M1(X:Cx)(o:Expr)(m:Str)(apos:Pos)(e:Expr)(cpos:Pos):Prop where
 base:attributeBase o m X.env (eval o X.env)=eval o X.env
 few:((backTo cpos (starEach [e] X.env)).all (λx=>!x.1) && (backToKw cpos (keywordEach [] X.env)).all (λx=>x.1.isSome)
  && decide (([e]:List Expr).length+([]:List Keyword).length+(if([]:List Keyword).isEmpty then 0 else 1)<30))=true
 line:(apos.endLine==cpos.line)=true
 trees:backTo cpos (starEach [e] X.env)=[(false,eval e X.env)]
structure M2(X:Cx)(o:Expr)(m:Str)(apos:Pos)(e f:Expr)(cpos:Pos):Prop where
 base:attributeBase o m X.env (eval o X.env)=eval o X.env
 few:((backTo cpos (starEach [e,f] X.env)).all (λx=>!x.1) && (backToKw cpos (keywordEach [] X.env)).all (λx=>x.1.isSome)
  && decide (([e,f]:List Expr).length+([]:List Keyword).length+(if([]:List Keyword).isEmpty then 0 else 1)<30))=true
 line:(apos.endLine==cpos.line)=true
 trees:backTo cpos (starEach [e,f] X.env)=[(false,eval e X.env),(false,eval f X.env)]
noncomputable def IsD(H:Hp)(a:Addr):Prop:=(∃kvs,Rd H a (.dK kvs))\/∃kvs,Rd H a (.dT kvs)
def QJ{X:Cx}{pins:List (Addr×Obj)}{σ:St}{H:Hp}{s:Shared}{a:Addr}(I:Inv X pins σ H s)(d:IsD H a):
  s.TypeIs (.ref a) "dict" /\(∀b,Value.ref a=.ref b->∃z,s.heap.get? b=some z/\z.dict=none)/\(a==sysModules)=false:=by
 rcases d with⟨kvs,e⟩|⟨kvs,e⟩
 ·obtain⟨_,hd,vs,_,dd⟩:=Bt I.hok e
  refine⟨dd.typeIs,λb q=>?_,hd⟩;cases q;obtain⟨z,_,_,h1,h2,_⟩:=dd;exact⟨z,h1,h2.2.1⟩
 ·obtain⟨_,hd,xs,_,dd⟩:=Nz I.hok e
  refine⟨dd.typeIs,λb q=>?_,hd⟩;cases q;obtain⟨z,_,_,h1,h2,_⟩:=dd;exact⟨z,h1,h2.2.1⟩
section
variable{X:Cx}{pins:List (Addr×Obj)}{σ:St}{H:Hp}{s:Shared}{a:Addr}{y d:V}{u r:Value}{o:Option V}{A:Around}{E:Value->Shared->Prop}
def adX{Q:Value->Shared->Prop}(hu:A.units+1<cLine)(I:Inv X pins σ H s)(g:Ir H a y o)(ry:RelV y u)(h:∀w' s',Inv X pins σ H s'->RelV (o.getD .non) w'->Q w' s'):
  wpAny (model X.prog X.w) A (call (.builtin "dict.get") [.ref a,u]) Q E s:=by
 rcases g with⟨kvs,k,e,ey,l⟩|⟨kvs,k,b,e,ey,eb,l⟩
 ·subst ey
  obtain⟨z,hd,vs,rel,q⟩:=Bt I.hok e;refine yy1 yyv q.typeIs yyX (PySem.F.args_dict_get_2 _ _) (meets_dict_get (gb X.prog X.w) a (Gu ry) hd) ⟨_,q.mapOf,h _ _ (I.tok _) ?_⟩;rw[l];exact(rel.val k).getD rfl
 ·subst ey
  cases (show u=Value.ref b from ry);obtain⟨z,hd,xs,rel,q⟩:=Nz I.hok e;refine yy1 yyv q.typeIs yyX (PySem.F.args_dict_get_2 _ _) (meetsH_dict_get (tupleKind (gb X.prog X.w)) a b hd) ⟨tupleKind_room_in1 hu,k,xs,Ho I.hok eb,q,h _ _ (I.tok _) ?_⟩;rw[l];exact(rel.val k).getD rfl
def aex{Q:Value->Shared->Prop}(hu:A.units+1<cLine)(I:Inv X pins σ H s)(g:Ir H a y o)(ry:RelV y u)(rd:RelV d r)(h:∀w' s',Inv X pins σ H s'->RelV (o.getD d) w'->Q w' s'):
  wpAny (model X.prog X.w) A (call (.builtin "dict.get") [.ref a,u,r]) Q E s:=by
 rcases g with⟨kvs,k,e,ey,l⟩|⟨kvs,k,b,e,ey,eb,l⟩
 ·subst ey
  obtain⟨z,hd,vs,rel,q⟩:=Bt I.hok e;refine yy1 yyv q.typeIs yyX (PySem.F.args_dict_get_3 _ _ _) (meets_dict_get_default (gb X.prog X.w) a (Gu ry) hd r) ⟨_,q.mapOf,h _ _ (I.tok _) ?_⟩;rw[l];exact(rel.val k).getD rd
 ·subst ey
  cases (show u=Value.ref b from ry);obtain⟨z,hd,xs,rel,q⟩:=Nz I.hok e;refine yy1 yyv q.typeIs yyX (PySem.F.args_dict_get_3 _ _ _) (meetsH_dict_get_default (tupleKind (gb X.prog X.w)) a b hd r) ⟨tupleKind_room_in1 hu,k,xs,Ho I.hok eb,q,h _ _ (I.tok _) ?_⟩;rw[l];exact(rel.val k).getD rd
end
noncomputable def aaX(td ty:TE):TE:=λσ H Q=>td σ H λx H1=>∃a,x=.ref a/\IsD H1 a/\ty σ H1 λy H2=>∃o,Ir H2 a y o/\Q (o.getD .non) H2
noncomputable def abM(td ty tx:TE):TE:=λσ H Q=>td σ H λx H1=>∃a,x=.ref a/\IsD H1 a/\ty σ H1 λy H2=>tx σ H2 λz H3=>∃o,Ir H3 a y o/\Q (o.getD z) H3
noncomputable def abO(td ty:TE):TE:=λσ H Q=>td σ H λx H1=>∃a,x=.ref a/\IsD H1 a/\ty σ H1 λy H2=>∃kvs k v,H2 a=some (.dK kvs)/\y=kV k/\jo kvs k=some v/\Q v (upd H2 a (.dK (Eo kvs k)))
noncomputable def abh(td ty tx:TE):TE:=λσ H Q=>td σ H λx H1=>∃a,x=.ref a/\IsD H1 a/\ty σ H1 λy H2=>tx σ H2 λz H3=>∃kvs k,H3 a=some (.dK kvs)/\y=kV k/\
 (∀v,jo kvs k=some v->Q v (upd H3 a (.dK (Eo kvs k))))/\(jo kvs k=none->Q z H3)
section
variable{X:Cx}{o e f:Expr}{apos cpos:Pos}{td ty tx:TE}
def YH(hu:X.A.units+1<cLine)(ho:PE X o td)(he:PE X e ty)(m:M1 X o "get" apos e cpos):PE X (.Call (.Attribute o "get" apos) [e] [] cpos) (aaX td ty):=by
 intro pins s σ H Q I h;refine Zx m.base m.few m.line yyd yyv PySem.F.type_dict_get (thn (ho pins s σ H _ I h) λu s1 ⟨x,H1,z,rx,a,ex,d,q1⟩=>?_);subst ex;obtain rfl:u=Value.ref a:=rx;obtain⟨t1,t2,_⟩:=QJ z d;refine⟨t1,t2,?_⟩;rw[m.trees];refine Calls.callWith_builtin rfl (Calls.evalArgs_plain (Calls.spliced_cons (thn (he pins s1 σ H1 _ z q1) λiv s2 ⟨y,H2,I2,ry,ov,g,q2⟩=>Calls.spliced_nil ?_)));exact adX hu I2 g ry λw' s3 I3 q=>⟨_,H2,I3,q,q2⟩
def CQ(hu:X.A.units+1<cLine)(ho:PE X o td)(he:PE X e ty)(hf:PE X f tx)(m:M2 X o "get" apos e f cpos):PE X (.Call (.Attribute o "get" apos) [e,f] [] cpos) (abM td ty tx):=by
 intro pins s σ H Q I h;refine Zx m.base m.few m.line yyd yyv PySem.F.type_dict_get (thn (ho pins s σ H _ I h) λu s1 ⟨x,H1,I1,rx,a,ex,d,q1⟩=>?_);subst ex;obtain rfl:u=Value.ref a:=rx;obtain⟨t1,t2,_⟩:=QJ I1 d;refine⟨t1,t2,?_⟩;rw[m.trees]
 refine Calls.callWith_builtin rfl (Calls.evalArgs_plain (Calls.spliced_cons (thn (he pins s1 σ H1 _ I1 q1) λiv s2 ⟨y,H2,I2,ry,q2⟩=>
  Calls.spliced_cons (thn (hf pins s2 σ H2 _ I2 q2) λfv s3 ⟨z,H3,I3,rz,ov,g,q3⟩=>Calls.spliced_nil ?_))))
 exact aex hu I3 g ry rz λw' s4 I4 q=>⟨_,H3,I4,q,q3⟩
def Ys(ho:PE X o td)(he:PE X e ty)(m:M1 X o "pop" apos e cpos):PE X (.Call (.Attribute o "pop" apos) [e] [] cpos) (abO td ty):=by
 intro pins s σ H Q I h;refine Zx m.base m.few m.line yyd yy4 PySem.F.type_dict_pop (thn (ho pins s σ H _ I h) λu s1 ⟨x,H1,z,rx,a,ex,d,q1⟩=>?_);subst ex;obtain rfl:u=Value.ref a:=rx;obtain⟨t1,t2,_⟩:=QJ z d;refine⟨t1,t2,?_⟩;rw[m.trees];refine Calls.callWith_builtin rfl (Calls.evalArgs_plain (Calls.spliced_cons (thn (he pins s1 σ H1 _ z q1) λiv s2 ⟨y,H2,I2,ry,kvs,k,v,ea,ey,l,q2⟩=>Calls.spliced_nil ?_)));subst ey;exact afj I2 ea ry l (.inl rfl) λw' s3 I3 q=>⟨v,_,I3,q,q2⟩
def Yp(ho:PE X o td)(he:PE X e ty)(hf:PE X f tx)(m:M2 X o "pop" apos e f cpos):PE X (.Call (.Attribute o "pop" apos) [e,f] [] cpos) (abh td ty tx):=by
 intro pins s σ H Q I h;refine Zx m.base m.few m.line yyd yy4 PySem.F.type_dict_pop (thn (ho pins s σ H _ I h) λu s1 ⟨x,H1,I1,rx,a,ex,d,q1⟩=>?_);subst ex;obtain rfl:u=Value.ref a:=rx;obtain⟨t1,t2,_⟩:=QJ I1 d;refine⟨t1,t2,?_⟩;rw[m.trees]
 refine Calls.callWith_builtin rfl (Calls.evalArgs_plain (Calls.spliced_cons (thn (he pins s1 σ H1 _ I1 q1) λiv s2 ⟨y,H2,I2,ry,q2⟩=>
  Calls.spliced_cons (thn (hf pins s2 σ H2 _ I2 q2) λfv s3 ⟨z,H3,I3,rz,kvs,k,ea,ey,q3,q4⟩=>Calls.spliced_nil ?_))))
 subst ey
 cases l:jo kvs k with
 |some v=>exact afj I3 ea ry l (.inr ⟨fv,rfl⟩) λw' s4 I4 q=>⟨v,_,I4,q,q3 v l⟩
 |none=>exact afq I3 ea ry l λs4 I4=>⟨z,H3,I4,rz,q4 l⟩
end
section
variable{X:Cx}{pins:List (Addr×Obj)}{σ:St}{H:Hp}{s:Shared}{a:Addr}{kvs:List (Key×V)}{A:Around}{E:Value->Shared->Prop}
def YF{Q:Value->Shared->Prop}(I:Inv X pins σ H s)(e:Rd H a (.dK kvs))(h:∀p s',H p=none->Inv X pins σ (upd H p (.dK kvs)) s'->Q (.ref p) s'):wpAny (model X.prog X.w) A (call (.type "dict") [.ref a]) Q E s:=by
 obtain⟨z,hd,vs,rel,dd⟩:=Bt I.hok e;refine kt_call_dict hd dd (by rw[<-rel.length];exact z) λh' aa hs=>?_;refine h _ _ (I.hok.fresh (zzc _)) (I.laid (a:=s.heap.objs.size) (o:=.dK kvs) (t':=s.toks) (λb q hq=>?_) (zzc _) (Mr z (beq_eq_false_iff_ne.mpr (Ne.symm (zzv I.big))) rel aa));exact(hs.2 b (zzv (zzn hq))).trans (z7 _ hq)
end
end L2
namespace L2
open PySem PySem.Spec PyProof.Rows
section
variable{κ:Type} [DecidableEq κ]
def aaH{kvs:List (κ×V)}{k:κ}(h:jo kvs k=none):¬k∈kvs.map (·.1):=by
 intro m;obtain⟨p,hp,e⟩:=z3.mp m;have q:(kvs.any λz=>decide (z.1=k))=true:=zzZ.mpr ⟨p,hp,zzx e⟩;rw[jn,h]at q;exact absurd q (by simp)
theorem Vb:∀{l:List κ}{k:κ},l.Nodup->¬k∈l->(l++[k]).Nodup
 |[],k,_,_=>by simp
 |a::r,k,h,hk=>by
  obtain⟨h1,h2⟩:=zzw.mp h;show(a::(r++[k])).Nodup;refine zzw.mpr ⟨λm=>?_,Vb h2 λm=>hk (zzb.mpr (Or.inr m))⟩;rcases zzs.mp m with q|q
  ·exact h1 q
  ·exact hk (zzb.mpr (Or.inl (z9.mp q).symm))
def adb{kvs:List (κ×V)}{k:κ}(v:V)(hn:(kvs.map (·.1)).Nodup)(h:jo kvs k=none):((putK kvs k v).map (·.1)).Nodup:=by
 rw[JH v h,zza];exact Vb hn (aaH h)
end
end L2
namespace L2
open PySem PySem.Spec PyProof.Rows
structure aae(K:Fg_)(x qual:Str)(st:Stmt)(f:Addr)(fd:FuncData)(dvs:List V):Prop where
 ex:∃(oc:Value)(od:Option Addr)(Td:Addr)(kV doc pm:Value)(an:Option Addr)(cdv ct:Value)(osl:Array (Option Value))(ot:Obj)(its:List Value)(nt:Nat),
  fd=PySem.W.fnOf x qual (jC st) (iW st) (fc st) (.ref Td) kV doc pm an cdv ct/\K.lookup f=some ⟨oc,od,.func fd,osl⟩/\PySem.W.codeIn K cdv qual=true/\K.lookup Td=some ot/\ot.data=.seq its.toArray nt/\Vals dvs its
 kp:PySem.W.keepIn K (.ref f)=true
section
variable{P:Program}{w:World}{K:Fg_}{mg:Str->Option Value}{base:Heap}
def aae.ok{x z:Str}{st:Stmt}{f:Addr}{fd:FuncData}{N ps:List Str}{k:Nat}{sp:Sp}{dvs:List V}(F:aae K x z st f fd dvs)(S:fD N ps (fc st))(len:∀vs H Q E,sp vs H Q E->vs.length=ps.length)
  (ab:∀(aa:Value)(A:Around)(outer:List Env)(s:Shared)(H:Hp)(vs:List V)(Q:VK)(E:XK),lq k (A.deeper (envOfC z (fc st) s.heap.objs.size f aa))->sp vs H Q E->
   ∃t,PSs (YX CX0 P w K mg base N z (fc st) f aa A outer s H E).nox (iW st) t/\t {nx:=λ_ H'=>Q .non H',rt:=Q} (start N vs) H):gJ P w K mg base CX0 (k+1) f fd ps sp:=by
 obtain⟨oc,od,Td,kV,ae,pm,an,aa,ct,af,ot,its,nt,rfl,lk,ad,_⟩:=F.ex;refine aem lk ad S len λA outer s H vs Q E hr ac=>?_;obtain⟨t,h,q⟩:=ab aa A outer s H vs Q E hr ac;exact⟨t,h.nox,q⟩
def Fun.okv{x q:Str}{st:Stmt}{f:Addr}{fd:FuncData}{N ps:List Str}{k:Nat}{sp:Sp}(F:Fun K x q st f fd)(S:fD N ps (fc st))
  (z:∀(cdv:Value)(A:Around)(outer:List Env)(s:Shared)(H:Hp)(vs:List V)(Q:VK)(E:XK),lq k (A.deeper (envOfC q (fc st) s.heap.objs.size f cdv))->sp vs H Q E->
   ∃t,PSs (YX CX0 P w K mg base N q (fc st) f cdv A outer s H E).nox (iW st) t/\t {nx:=λ_ H'=>Q .non H',rt:=Q} (start N vs) H) (len:∀vs H Q E,sp vs H Q E->vs.length=ps.length:=by walk_at "v"):gJ P w K mg base CX0 (k+1) f fd ps sp:=F.ok S len z
def aae.okv{x q:Str}{st:Stmt}{f:Addr}{fd:FuncData}{N ps:List Str}{k:Nat}{sp:Sp}{dvs:List V}(F:aae K x q st f fd dvs)(S:fD N ps (fc st))
  (z:∀(cdv:Value)(A:Around)(outer:List Env)(s:Shared)(H:Hp)(vs:List V)(Q:VK)(E:XK),lq k (A.deeper (envOfC q (fc st) s.heap.objs.size f cdv))->sp vs H Q E->
   ∃t,PSs (YX CX0 P w K mg base N q (fc st) f cdv A outer s H E).nox (iW st) t/\t {nx:=λ_ H'=>Q .non H',rt:=Q} (start N vs) H) (len:∀vs H Q E,sp vs H Q E->vs.length=ps.length:=by walk_at "v"):gJ P w K mg base CX0 (k+1) f fd ps sp:=F.ok S len z
def aae.binds{x q:Str}{st:Stmt}{f:Addr}{fd:FuncData}{ps:List Str}{dvs:List V}(F:aae K x q st f fd dvs)(n:Nat)
  (h:∀(Td:Addr)(kV z pm:Value)(an:Option Addr)(aa ct:Value)(its us:List Value),its.length=dvs.length->(us++its.drop n).length=ps.length->
   ∃k,bindArgs (PySem.W.fnOf x q (jC st) (iW st) (fc st) (.ref Td) kV z pm an aa ct) ⟨us,[]⟩=(seqItems? (.ref Td)>>=k)/\k (some its.toArray)=pure (ps.zip (us++its.drop n))):∃ds,Binds K fd ps ds/\Vals (dvs.drop n) ds:=by
 obtain⟨oc,od,Td,kV,z,pm,an,aa,ct,ad,ot,its,nt,rfl,lk,ac,lt,ab,hv⟩:=F.ex;refine⟨its.drop n,λs us X hl=>?_,hv.drop n⟩;obtain⟨k,e1,e2⟩:=h Td kV z pm an aa ct its us hv.length.symm hl;exact PySem.W.binds_K X rfl lt ab e1 e2
def Xr{x q:Str}{st:Stmt}{f Td:Addr}{oc:Value}{od an:Option Addr}{ab:Array (Option Value)}{kV aa pm z ct:Value}{dvs:List V}{ot:Obj}{its:List Value}{nt:Nat}(l:K.lookup f=some ⟨oc,od,.func (PySem.W.fnOf x q (jC st) (iW st) (fc st) (.ref Td) kV aa pm an z ct),ab⟩)
  (c:PySem.W.codeIn K z q=true) (k:PySem.W.keepIn K (.ref f)=true) (lt:K.lookup Td=some ot) (hd:ot.data=.seq its.toArray nt) (hv:Vals dvs its):aae K x q st f (PySem.W.fnOf x q (jC st) (iW st) (fc st) (.ref Td) kV aa pm an z ct) dvs:=
 ⟨⟨oc,od,Td,kV,aa,pm,an,z,ct,ab,ot,its,nt,rfl,l,c,lt,hd,hv⟩,k⟩
end
structure aeH(K:Fg_)(C:Addr)(m:Str)(f:Addr):Prop where
 ga:PySem.W.specialIn K (.ref C) "__getattribute__" =some (some (.builtin "type.__getattribute__"))
 rd:PySem.W.readsIn K C (.type "type")=true
 fi:PySem.W.findCls K (.ref C) (.type "type") m=some (.val (.ref f))
section
variable{X:Cx}{CX:CXT}{k:Nat}{f C:Addr}{fd:FuncData}{ps ks:List Str}{sp:Sp}{dvs:List V}{ds:List Value}{E:XK}{x m:Str}{p pos apos:Pos}{e o:Expr}{es:List Expr}{ta:TE}{t tk:TA}{kws:List Keyword}
def Ht{pl:Sem Bool}(Z:aeH X.K C m f)(F:gJ X.prog X.w X.K X.mg X.base CX k f fd ps sp)(hr:lq k X.A)(hg:Gl X x)(hm:X.mg x=some (.ref C))(hk:PySem.W.keepIn X.K (.ref f)=true)(hb:Binds X.K fd ps ds)(hd:Vals dvs ds)(hx:qJ CX X E)
  (ha:PA X (e::es) t) (z:(x==("__debug__" :Str))=false:=by decide) (he:starEach (e::es) X.env=(false,eval e X.env)::starEach es X.env:=by rfl) (hpl:(backTo pos (starEach es X.env)).any (·.1)=false:=by rfl)
  (ht:eval (.Call (.Attribute (.Name x p) m apos) (e::es) [] pos) X.env=(do
   let ov<-eval (.Name x p) X.env
   standAt apos.atName
   let(f,first)<-holding [ov] (getMethod ov m pl)
   callWith pos f first (backTo pos (starEach (e::es) X.env)) (backToKw pos (keywordEach [] X.env))):=by rfl):
  PE X (.Call (.Attribute (.Name x p) m apos) (e::es) [] pos) (Yq sp dvs E t):=by
 intro pins s σ H Q I h;refine Zz (pl:=pl) (Ej I hg hm ?_ z) ht;refine PySem.W.method_cls I.kIn Z.ga (PySem.W.cls_value I.kIn Z.rd Z.fi rfl ?_);have I':Inv X pins σ H {s with toks:=s.toks+1}:=I.tok _;refine Zk (first:=[]) (h₀:=X.base) I.ok.mod.kin hk (thn (ha pos pins _ σ H _ I' h) λus s1 ⟨vs,H1,I1,r,q⟩=>⟨I1.kIn,?_⟩) he hpl;exact RN F hr hb hd hx I1 r q
inductive XQ(X:Cx)(CX:CXT)(m:Str):List (Addr×Sp)->Prop
 |nil:XQ X CX m []
 |cons {C f:Addr} {fd:FuncData} {ps:List Str} {sp:Sp} {k:Nat} {r:List (Addr×Sp)} (c:Cls X.K C) (hm:Meth X.K C m f) (F:gJ X.prog X.w X.K X.mg X.base CX k f fd ps sp) (hr:lq k X.A) (hb:Binds X.K fd ps []) (t:XQ X CX m r):XQ X CX m ((C,sp)::r)
def XQ.get{tab:List (Addr×Sp)}(T:XQ X CX m tab){C:Addr}{sp:Sp}(h:(C,sp)∈tab):∃f fd ps k,Cls X.K C/\Meth X.K C m f/\gJ X.prog X.w X.K X.mg X.base CX k f fd ps sp/\lq k X.A/\Binds X.K fd ps []:=by
 induction T with
 |nil=>cases h
 |cons c hm F hr hb t ih=>
  rcases zzb.mp h with z|z
  ·cases z
   exact⟨_,_,_,_,c,hm,F,hr,hb⟩
  ·exact ih z
noncomputable def KY(tab:List (Addr×Sp))(m:Str)(E:XK)(ta:TE)(t:TA):TE:=λσ H Q=>ta σ H λx H1=>∃a C dx fs sp,x=.ref a/\H1 a=some (.ins C dx fs)/\(C,sp)∈tab/\fs.lookup m=none/\t σ H1 λvs H2=>sp (x::vs) H2 Q E
def aaJ{pl:Sem Bool}{tab:List (Addr×Sp)}(he:PE X o ta)(T:XQ X CX m tab)(hx:qJ CX X E)(ha:PA X (e::es) t)
  (aa:starEach (e::es) X.env=(false,eval e X.env)::starEach es X.env:=by rfl) (hpl:(backTo pos (starEach es X.env)).any (·.1)=false:=by rfl)
  (ht:eval (.Call (.Attribute o m apos) (e::es) [] pos) X.env=(do
   let ov<-eval o X.env
   standAt apos.atName
   let(f,first)<-holding [ov] (getMethod ov m pl)
   callWith pos f first (backTo pos (starEach (e::es) X.env)) (backToKw pos (keywordEach [] X.env))):=by rfl):
  PE X (.Call (.Attribute o m apos) (e::es) [] pos) (KY tab m E ta t):=by
 intro pins s σ H Q I h;refine Zz (pl:=pl) (thn (he pins s σ H _ I h) λu s1 ⟨y,H1,I1,rx,a,C,dx,fs,sp,ex,ea,z,l,q⟩=>?_) ht;subst ex;obtain rfl:u=Value.ref a:=rx;obtain⟨f,fd,ps,k,c,hm,F,hr,hb⟩:=T.get z;refine HY I1 ea c hm l ?_;refine Zk (first:=[.ref a]) (h₀:=X.base) I.ok.mod.kin hm.kp (thn (ha pos pins s1 σ H1 _ I1 q) λus s2 ⟨vs,H2,I2,r,q2⟩=>⟨I2.kIn,?_⟩) aa hpl;exact RN (us:=.ref a::us) (vs:=.ref a::vs) (dvs:=[]) (ds:=[]) F hr hb .nil hx I2 (.cons rfl r) (by rw[zz4];exact q2)
def WT{pl:Sem Bool}{tab:List (Addr×Sp)}(he:PE X o ta)(T:XQ X CX m tab)(hx:qJ CX X E)
  (ht:eval (.Call (.Attribute o m apos) [] [] pos) X.env=(do
   let ov<-eval o X.env
   standAt apos.atName
   let(f,first)<-holding [ov] (getMethod ov m pl)
   callWith pos f first (backTo pos (starEach [] X.env)) (backToKw pos (keywordEach [] X.env))):=by rfl):
  PE X (.Call (.Attribute o m apos) [] [] pos) (KY tab m E ta VL):=by
 intro pins s σ H Q I h;refine Zz (pl:=pl) (thn (he pins s σ H _ I h) λu s1 ⟨y,H1,I1,rx,a,C,dx,fs,sp,ex,ea,z,l,q⟩=>?_) ht;subst ex;obtain rfl:u=Value.ref a:=rx;obtain⟨f,fd,ps,k,c,hm,F,hr,hb⟩:=T.get z;refine HY I1 ea c hm l ?_;exact PySem.W.callWith_K0 (first:=[.ref a]) I1.kIn hm.kp (RN (us:=[.ref a]) (vs:=[.ref a]) (dvs:=[]) (ds:=[]) F hr hb .nil hx I1 (.cons rfl .nil) q)
variable{g:List Value->List Value->List Value}{gV:List V->List V->List V}
end
theorem qj(f:Str)(v:V):∀{fs:List (Str×V)},(fs.map (·.1)).contains f=false->Az f v fs=fs++[(f,v)]
 |[],_=>rfl
 |(g,x)::r,h=>by
  rw[z6,List.contains_cons]at h;have h1:¬g=f:=λe=>by rw[e]at h;simp at h
  have h2:(r.map (·.1)).contains f=false:=(Bool.or_eq_false_iff.mp h).2;show(if g=f then(g,v)::r else(g,x)::Az f v r)=_;rw[z4 h1,qj f v h2];rfl
structure aao(K:Fg_)(C:Addr):Prop where
 cl:Cls K C
 ha:PySem.W.findIn K (.ref C) "__class__" =some (some (.builtin "object.__class__"))
 hn:PySem.W.specialIn K (.builtin "object.__class__") "__get__" =some (some (.builtin "getset_descriptor.__get__"))
 htk:PySem.W.takesIn K (.builtin "object.__class__")=some true
 hm:PySem.W.mroIn K C (.type "object")=some true
def aao.of{K:Fg_}{C a dx:Addr}{H:Hp}{fs:List (Str×V)}(z:aao K C)(h:H a=some (.ins C dx fs)):Gp K H (.ref a) (.ref C):=.ins h z.cl z.ha z.hn z.htk z.hm
end L2
namespace L2
open PySem PySem.Spec PyProof.Rows
noncomputable def signs(x:Str):List V:=x.cps.toList.map λc=>V.str ⟨#[c]⟩
noncomputable def adS(x:Str):It:=⟨λi _=>i<x.cps.size,λi H v H'=>H'=H/\(signs x)[i]? =some v,λi _=>x.cps.size<=i⟩
def aap{P:Program}{w:World}{K:Fg_}{tg:Expr}{ty:String}(ab:ty= "str_ascii_iterator" \/ty= "str_iterator") (it:Addr) (x:Str) (t:Tok):Turn P w K tg (adS x) [it] it (λi h=>h.IsStrIter it ty x t i) where
 mem:=by simp
 obj:=λi h st b hb=>by
  have e:b=it:=by simpa using hb
  subst e;obtain⟨o,e,c,d⟩:=st;exact⟨o,e,λv z=>by rw[d]at z;cases z⟩
 keep:=λi h h' st k=>by
  obtain⟨o,e,r⟩:=st;exact⟨o,k it (by simp) o e,r⟩
 item:=by
  intro X hP hw hK hc i pins s σ H E I hf st hg;subst hP hw hK;have hi:i<x.cps.size:=hg;have hx:x.cps[i]? =some x.cps[i]:=zz7 hi
  have hs:(signs x)[i]? =some (.str ⟨#[x.cps[i]]⟩):=by
   unfold signs;rw[zzl,zzX,hx];rfl
  rcases ab with rfl|rfl
  ·refine wpAny_pyNext_ascii_item st hx λh' aa sb=>?_
   obtain⟨o,e,c,d⟩:=id aa;exact⟨_,rfl,Ub (s:={s with heap:=h',toks:=s.toks+1}) e c d (by decide) ⟨.str ⟨#[x.cps[i]]⟩,H,I.turnedN hf λb o hb q=>(sb.2 b (by simpa using hb)).trans q,⟨_,rfl⟩,⟨rfl,hs⟩,aa,λb hb=>(hf b hb).1⟩⟩
  ·refine wpAny_pyNext_wide_item st hx λh' aa sb=>?_
   obtain⟨o,e,c,d⟩:=id aa;exact⟨_,rfl,Ub (s:={s with heap:=h',toks:=s.toks+1}) e c d (by decide) ⟨.str ⟨#[x.cps[i]]⟩,H,I.turnedN hf λb o hb q=>(sb.2 b (by simpa using hb)).trans q,⟨_,rfl⟩,⟨rfl,hs⟩,aa,λb hb=>(hf b hb).1⟩⟩
 done:=by
  intro X hP hw hK hc i pins s σ H E I hf st hg;subst hP hw hK;have hx:x.cps[i]? =none:=Array.getElem?_eq_none hg;rcases ab with rfl|rfl
  ·exact wpAny_pyNext_ascii_end (I.ok.hd hc) st hx λh' eb=>⟨rfl,I.turnedN (t':=s.toks) hf λb o hb q=>eb b o (by simpa using hb) q⟩
  ·exact wpAny_pyNext_wide_end (I.ok.hd hc) st hx λh' eb=>⟨rfl,I.turnedN (t':=s.toks) hf λb o hb q=>eb b o (by simpa using hb) q⟩
 self:=λ_ _ _ _ _ st h=>by
  rcases ab with rfl|rfl
  ·exact wpAny_pyIter_striter_ascii st h
  ·exact wpAny_pyIter_striter_wide st h
section
variable{X:Cx}{K:Fg_}{tg:Expr}
noncomputable def agm(tl:TE):TI:=λσ H R=>tl σ H λx H1=>∃z,x=.str z/\R (adS z) H1
def afu{l:Expr}{tl:TE}(hl:PE X l tl):PI X tg l (agm tl):=by
 intro pins s σ H R I h;refine thn (hl pins s σ H _ I h) λv s1 ⟨x,H1,I1,r1,q1⟩=>?_;obtain⟨z,e,q⟩:=q1;subst e;obtain⟨t,rfl⟩:=r1
 have aa:∀(ty:String)(ab:ty= "str_ascii_iterator" \/ty= "str_iterator"),PIE X pins σ tg R (.ref s1.heap.objs.size) {s1 with heap:=s1.heap.push {cls:=.type ty,data:=.fields #[.str z t,.int 0 0]}}:=λty ab=>by
  refine⟨s1.heap.objs.size,[s1.heap.objs.size],_,_,H1,rfl,I1.kept (t':=s1.toks) λb o e=>z7 _ e,aap ab _ z t,⟨_,zzo _ rfl,rfl,rfl⟩,λb hb=>?_,q⟩;have e:b=s1.heap.objs.size:=by simpa using hb
  subst e;exact I1.fpOk (zzc _) (I1.hok.fresh (zzc _))
 cases ha:z.cps.all (·<128)
 ·exact wpAny_pyIter_wide ha (aa _ (.inr rfl))
 ·exact wpAny_pyIter_ascii ha (aa _ (.inl rfl))
variable{σ:St}{H:Hp}{R:It->Hp->Prop}{tl:TE}{cap:List (Option Nat)}{g:TG}{tt:TT}{te:TE}{Q:VK}{x:Str}
def ap_iStr:agm tl σ H R=tl σ H λx H1=>∃z,x=.str z/\R (adS z) H1:=rfl
def iK.str(Sσ:St->Prop)(p:V->Bool)(F:V->V)(h0:Sσ (nA σ cap))(hz:x.cps.size<=sizeLine)
  (hs:∀y∈signs x,∀(σ:St)(H5:Hp)(R1:St->VK)(R2:St->Hp->Prop),Sσ σ->Same H H5->(p y=true->∀q H6,Sσ q->Same H5 H6->R1 q (F y) H6)->(p y=false->∀q H6,Sσ q->Same H5 H6->R2 q H6)->
   g y σ H5 λq H4=>tt q H4 λb H5=>if b=true then te q H5 (R1 q)else R2 q H5)
  (k:∀D H',H D=Option.none->Same H H'->H' D=some (.lst (((signs x).filter p).map F))->Q (.ref D) H'):iK cap (adS x) g tt te σ H Q:=λD hD=>by
 have hl:(signs x).length=x.cps.size:=by simp[signs]
 refine rQ (xs:=signs x) (adS x) Sσ p F hD h0 (by omega) (λi y H' hy sm=>?_) (λH' sm=>?_) hs λH' s e=>k D H' hD s e
 ·have hi:i<(signs x).length:=(zzm.mp hy).1
  exact⟨by show i<x.cps.size;omega,λz H2 hz=>⟨zzq (hz.2.symm.trans hy),hz.1⟩⟩
 ·show x.cps.size<=_
  omega
noncomputable def agx:R2:=λx y H Q=>∃i j,x=.str i/\y=.str j/\Q (.bl (!decide (j.cps.toList<i.cps.toList))) H
def Kf:OpR X (compareOp .LtE) agx:=by
 intro pins s σ H x y v u Q I rx z h;obtain⟨i,j,rfl,rfl,q⟩:=h;obtain⟨t,rfl⟩:=rx;obtain⟨t',rfl⟩:=z;exact PySem.P.le_str ⟨.bl _,H,I,rfl,q⟩
noncomputable def agj(neg:Bool):R2:=λy x H Q=>∃a o,x=.ref a/\Ir H a y o/\Q (.bl (if neg then !o.isSome else o.isSome)) H
def Wq(hu:X.A.units+1<cLine):OpR X (compareOp .In) (agj false):=by
 intro pins s σ H y x v u Q I z rx h;obtain⟨a,o,rfl,g,q⟩:=h;cases rx;exact agC hu I g z λs' I'=>⟨.bl _,H,I',rfl,q⟩
noncomputable def Ob:List V->Hp->VK->Prop:=λxs H Q=>∃a kvs,xs=[.ref a]/\Rd H a (.dK kvs)/\∀p,H p=none->Q (.ref p) (upd H p (.dK kvs))
def Ot:jz X (.type "dict") Ob:=by
 intro pins s σ H xs us Q I r h;obtain⟨a,kvs,rfl,e,q⟩:=h;obtain⟨u,rfl,z⟩:=vals1 r;cases z;exact YF I e λp s' hp I'=>⟨.ref p,_,I',rfl,q p hp⟩
def adn{o value:Expr}{f:Str}{ta tv:TE}{pos pos':Pos}(ha:PE X o ta)(q:PE X value tv)(z:swapsWith value (some (.Attribute o f pos')) pos.line X.env=pure false)(hK:X.K=K:=by rfl):PS X (.Assign [.Attribute o f pos'] value pos) (aey K ta tv f):=hK▸adT ha q z
variable{ta tv ty td tx:TE}{f:Str}{D:Ends}{C:Addr}{tab:List (Addr×Sp)}{m:Str}{E:XK}{t tk:TA}{sp:Sp}{dvs:List V}{gV:List V->List V->List V}
def ap_fldK:aeS K ta f σ H Q=ta σ H λx H1=>∃a C dx fs v,x=.ref a/\H1 a=some (.ins C dx fs)/\Cls K C/\fW K C f/\fs.lookup f=some v/\Q v H1:=rfl
def ap_sFld:aey K ta tv f D σ H=tv σ H λy H1=>ta σ H1 λx H2=>∃a C dx fs,x=.ref a/\H2 a=some (.ins C dx fs)/\Cls K C/\fW K C f/\fs.length<1000/\D.nx σ (upd H2 a (.ins C dx (Az f y fs))):=rfl
def ap_methD:KY tab m E ta t σ H Q=ta σ H λx H1=>∃a C dx fs sp,x=.ref a/\H1 a=some (.ins C dx fs)/\(C,sp)∈tab/\fs.lookup m=none/\t σ H1 λvs H2=>sp (x::vs) H2 Q E:=rfl
def ap_make:aeL C sp dvs E t σ H Q=t σ H λvs H1=>∀x dx,H1 x=none->H1 dx=none->dx≠x->sp (.ref x::(vs++dvs)) (upd (upd H1 dx (.own x)) x (.ins C dx [])) (λv H2=>v=.non/\Q (.ref x) H2) E:=rfl
def ap_dget2:abM td ty tx σ H Q=td σ H λx H1=>∃a,x=.ref a/\IsD H1 a/\ty σ H1 λy H2=>tx σ H2 λz q=>∃o,Ir q a y o/\Q (o.getD z) q:=rfl
def ap_dget:aer td ty σ H Q=td σ H λx H1=>ty σ H1 λy H2=>∃a v,x=.ref a/\Ir H2 a y (some v)/\Q v H2:=rfl
def ap_dput:aeG td ty tv D σ H=tv σ H λv H1=>td σ H1 λx H2=>ty σ H2 λy z=>∃a q,x=.ref a/\afx z a y v q/\D.nx σ q:=rfl
def ap_dnewK:abm σ H Q=∀p,H p=none->Q (.ref p) (upd H p (.dK [])):=rfl
def ap_dpop1:abO td ty σ H Q=td σ H λx H1=>∃a,x=.ref a/\IsD H1 a/\ty σ H1 λy H2=>∃kvs k v,H2 a=some (.dK kvs)/\y=kV k/\jo kvs k=some v/\Q v (upd H2 a (.dK (Eo kvs k))):=rfl
def ap_dictOf{p:Addr}:Ob [.ref p] H Q=∃kvs,Rd H p (.dK kvs)/\∀q,H q=none->Q (.ref q) (upd H q (.dK kvs)):=by simp[Ob]
def ap_inD{q:Bool}{x y:V}:agj q y x H Q=∃a o,x=.ref a/\Ir H a y o/\Q (.bl (if q then !o.isSome else o.isSome)) H:=rfl
def ap_leS{i j:Str}:agx (.str i) (.str j) H Q=Q (.bl (!decide (j.cps.toList<i.cps.toList))) H:=propext ⟨fun⟨i',j',z,e2,q⟩=>by cases z;cases e2;exact q,λq=>⟨i,j,rfl,rfl,q⟩⟩
def ap_rIsC{y:V}:adP K [y,.ref C] H Q=∃t k,Gp K H y t/\PySem.W.kitOne K t (.ref C)=some k/\Q (.bl k) H:=propext ⟨fun⟨q,C',t,k,e,r⟩=>by cases e;exact⟨t,k,r⟩,fun⟨t,k,r⟩=>⟨y,C,t,k,rfl,r⟩⟩
def ap_ixT{x y:V}:afO K x y H Q=∃p xs i v,x=.ref p/\y=.int i/\SqT K H p xs/\atI xs i=some v/\Q v H:=rfl
def ap_ixS{x y:V}:agz x y H Q=∃z i c,x=.str z/\y=.int i/\z.length<=sizeLine/\atI z.cps.toList i=some c/\Q (.str ⟨#[c]⟩) H:=rfl
def ap_rTupOf{p:Addr}:Wf K [.ref p] H Q=∃ys,((SqL K H p ys/\∀l,H l=none->Q (.ref l) (upd H l (.tup ys)))\/(SqT K H p ys/\Q (.ref p) H)):=by simp[Wf]
def ap_lenS{z:Str}:(fun(xs:List V)(H:Hp)(Q:VK)=>∃z,xs=[V.str z]/\z.length<=sizeLine/\Q (.int z.length) H) [.str z] H Q=(z.length<=sizeLine/\Q (.int z.length) H):=propext ⟨fun⟨q,e,r⟩=>by cases e;exact r,λr=>⟨z,rfl,r⟩⟩
end
end L2
namespace L2
open PySem PySem.W PySem.Spec PyProof.Rows
section
variable{α β:Type}{lt:Nat->Nat->Bool}{n:Nat}
noncomputable def Kok(lt:Nat->Nat->Bool)(n:Nat)(R:α->Prop):KasT α->Prop
 |.ret a=>R a
 |.ask i j k=>i<n/\j<n/\Kok lt n R (k (lt i j))
theorem Kok.bind{R:α->Prop}{S:β->Prop}{f:α->KasT β}:∀{t:KasT α},Kok lt n R t->(∀a,R a->Kok lt n S (f a))->Kok lt n S (t.bind f)
 |.ret a,h,k=>k a h
 |.ask i j q,h,k=>⟨h.1,h.2.1,Kok.bind (t:=q (lt i j)) h.2.2 k⟩
theorem Kok.wp{R:α->Prop}{z:Nat->Nat->(Bool->Shared->Prop)->Shared->Prop}{s:Shared}{Q:α->Shared->Prop}(hc:∀i j (C:Bool->Shared->Prop),i<n->j<n->C (lt i j) s->z i j C s):
  ∀{t:KasT α},Kok lt n R t->(∀a,R a->Q a s)->t.kasWp z Q s
 |.ret a,h,k=>k a h
 |.ask i j q,h,k=>hc i j _ h.1 h.2.1 (Kok.wp hc (t:=q (lt i j)) h.2.2 k)
noncomputable def Prm(n:Nat)(p:Array Nat):Prop:=p.toList.Perm (List.range n)
def Prm.ltn{p:Array Nat}(h:Prm n p)(hn:0<n)(i:Nat):p.getD i 0<n:=by
 by_cases hi:i<p.size
 ·have hm:p.getD i 0∈p.toList:=by simp[Array.getD,hi]
  exact zzU.mp (h.mem_iff.mp hm)
 ·simp[Array.getD,hi,hn]
def Prm.rev{p:Array Nat}(h:Prm n p)(i j:Nat):Prm n (kas_rev p i j):=(ZL.mp (mirror_perm p i j _)).trans h
def Prm.bub{p:Array Nat}(h:Prm n p)(k d:Nat):Prm n (bubble p k d):=(ZL.mp (bubble_perm p k d)).trans h
theorem Qs{p:Array Nat}(h:Prm n p)(hn:0<n):∀f m,Kok lt n (λ_=>True) (kas_asc p f m)
 |0,_=>trivial
 |f+1,m=>⟨Prm.ltn h hn _,Prm.ltn h hn _,by
  dsimp only;by_cases q:lt (p.getD m 0) (p.getD (m - 1) 0)=true
  ·rw[z8 q];trivial
  ·rw[z4 q];exact Qs h hn f (m+1)⟩
theorem CG(hn:0<n):∀f {p:Array Nat} m q,Prm n p->Kok lt n (λr:Array Nat×Nat×Nat=>Prm n r.1) (kas_desc f p m q)
 |0,_,_,_,h=>h
 |f+1,p,m,q,h=>⟨Prm.ltn h hn _,Prm.ltn h hn _,by
  dsimp only;by_cases hc:lt (p.getD m 0) (p.getD (m - 1) 0)=true
  ·rw[z8 hc]
   by_cases z:q>0
   ·rw[z8 z];exact CG hn f _ _ (h.rev _ _)
   ·rw[z4 z];exact CG hn f _ _ h
  ·rw[z4 hc]
   refine⟨Prm.ltn h hn _,Prm.ltn h hn _,?_⟩;dsimp only;by_cases hd:lt (p.getD (m - 1) 0) (p.getD m 0)=true
   ·rw[z8 hd];exact h
   ·rw[z4 hd];exact CG hn f _ _ h⟩
def Rw{p:Array Nat}(h:Prm n p)(hn:0<n)(m r:Nat):Kok lt n (λr:Nat×Array Nat=>Prm n r.2) (kas_tail3 m r p):=
 Kok.bind (Qs (h.rev _ _) hn _ _) λ_ _=>h.rev 0 m
def Qv{p:Array Nat}(h:Prm n p)(hn:0<n)(m r:Nat):Kok lt n (λr:Nat×Array Nat=>Prm n r.2) (kas_descPart m r p):=
 Kok.bind (CG hn _ _ _ h) λa ha=>by
  by_cases q:a.2.2>0
  ·rw[z8 q];exact Rw (ha.rev _ _) hn _ _
  ·rw[z4 q];exact Rw ha hn _ _
def XM{p:Array Nat}(h:Prm n p)(hn:0<n)(r:Nat):Kok lt n (λr:Nat×Array Nat=>Prm n r.2) (kas_count r p):=
 Kok.bind (Qs h hn _ _) λm _=>by
  by_cases h1:(m==r)=true
  ·rw[z8 h1];exact h
  ·rw[z4 h1]
   by_cases h2:m>1
   ·rw[z8 h2]
    refine⟨Prm.ltn h hn _,Prm.ltn h hn _,?_⟩;dsimp only;by_cases q:lt (p.getD 0 0) (p.getD (m - 1) 0)=true
    ·rw[z8 q];exact h
    ·rw[z4 q];exact Qv (h.rev _ _) hn _ _
   ·rw[z4 h2];exact Qv h hn _ _
theorem Ed{p:Array Nat}(h:Prm n p)(hn:0<n)(k:Nat):∀f l r,Kok lt n (λ_=>True) (kas_place p k f l r)
 |0,_,_=>trivial
 |f+1,l,r=>by
  show Kok lt n _ (if l>=r then _ else _);by_cases h1:l>=r
  ·rw[z8 h1];trivial
  ·rw[z4 h1]
   refine⟨Prm.ltn h hn _,Prm.ltn h hn _,?_⟩;dsimp only;by_cases q:lt (p.getD k 0) (p.getD ((l+r)/2) 0)=true
   ·rw[z8 q];exact Ed h hn k f _ _
   ·rw[z4 q];exact Ed h hn k f _ _
theorem Xf(hn:0<n):∀f {p:Array Nat} k,Prm n p->Kok lt n (Prm n) (kas_bin f p k)
 |0,_,_,h=>h
 |f+1,p,k,h=>Kok.bind (Ed h hn k k 0 k) λl _=>Xf hn f _ (h.bub _ _)
def aaF(hn:0<n):Kok lt n (Prm n) (kas_sort n):=
 Kok.bind (XM (p:=(List.range n).toArray) (by unfold Prm;simp) hn n) λa ha=>by
  by_cases h1:a.1<n
  ·rw[z8 h1];exact Xf hn _ _ ha
  ·rw[z4 h1];exact ha
end
section
variable{key:Nat->Int}{n:Nat}
noncomputable def Up(key:Nat->Int)(p:Array Nat)(m:Nat):Prop:=∀a b,a<b->b<m->key (p.getD a 0)<key (p.getD b 0)
noncomputable def Dn(key:Nat->Int)(p:Array Nat)(m:Nat):Prop:=∀a b,a<b->b<m->key (p.getD b 0)<key (p.getD a 0)
def oG(p:Array Nat)(k:Nat):p.getD k 0=(p[k]?).getD 0:=by
 by_cases h:k<p.size
 ·simp[Array.getD,h]
 ·simp[Array.getD,h]
theorem Prm.size{p:Array Nat}(h:Prm n p):p.size=n:=by
 have:=h.length_eq
 simpa using this
def Prm.unlike{p:Array Nat}(h:Prm n p)(hk:∀i j,i<n->j<n->key i=key j->i=j){a b:Nat}(ha:a<n)(hb:b<n)(aa:a≠b):key (p.getD a 0)≠key (p.getD b 0):=λe=>by
 have q:=h.size;have hn:0<n:=by omega
 have e1:=hk _ _ (h.ltn hn a) (h.ltn hn b) e;have z:p.toList.Nodup:=h.nodup_iff.mpr List.nodup_range
 have e2:p.toList[a]'(by simpa [q] using ha)=p.toList[b]'(by simpa [q] using hb):=by
  have q1:p.getD a 0=p[a]'(by omega):=by simp[Array.getD,q,ha]
  have q2:p.getD b 0=p[b]'(by omega):=by simp[Array.getD,q,hb]
  rw[q1,q2]at e1
  simpa using e1
 exact aa ((List.getElem_inj z).mp e2)
def WD{p:Array Nat}{i j:Nat}(q:j<=p.size)(k:Nat):(kas_rev p i j).getD k 0=if i<=k/\k<j then p.getD (i+j - 1 - k) 0 else p.getD k 0:=by
 unfold kas_rev;rw[oG,getElem?_mirror_all q];by_cases c:i<=k/\k<j
 ·rw[z8 c,z8 c,oG]
 ·rw[z4 c,z4 c,oG]
def Xn{p:Array Nat}{k l:Nat}(hk:k<p.size)(hl:l<=k)(a:Nat):(bubble p k (k - l)).getD a 0=if a=l then p.getD k 0 else if l<a/\a<=k then p.getD (a - 1) 0 else p.getD a 0:=by
 rw[oG,getElem?_bubble hk (k - l) (by omega),show k - (k - l)=l by omega];by_cases z:a=l
 ·rw[z8 z,z8 z,oG]
 ·rw[z4 z,z4 z]
  by_cases q:l<a/\a<=k
  ·rw[z8 q,z8 q,oG]
  ·rw[z4 q,z4 q,oG]
theorem Kok.mono{α:Type}{lt:Nat->Nat->Bool}{R S:α->Prop}(h:∀a,R a->S a):∀{t:KasT α},Kok lt n R t->Kok lt n S t
 |.ret a,q=>h a q
 |.ask i j k,q=>⟨q.1,q.2.1,Kok.mono h q.2.2⟩
def Up.snoc{p:Array Nat}{m:Nat}(h:Up key p m)(h1:1<=m)(z:key (p.getD (m - 1) 0)<key (p.getD m 0)):Up key p (m+1):=λa b q hb=>by
 by_cases e:b=m
 ·subst e
  by_cases e2:a=b - 1
  ·subst e2;exact z
  ·exact Ya9 (h a (b - 1) (by omega) (by omega)) z
 ·exact h a b q (by omega)
def Dn.snoc{p:Array Nat}{m:Nat}(h:Dn key p m)(h1:1<=m)(z:key (p.getD m 0)<key (p.getD (m - 1) 0)):Dn key p (m+1):=λa b q hb=>by
 by_cases e:b=m
 ·subst e
  by_cases e2:a=b - 1
  ·subst e2;exact z
  ·exact Ya9 z (h a (b - 1) (by omega) (by omega))
 ·exact h a b q (by omega)
theorem acZ(hk:∀i j,i<n->j<n->key i=key j->i=j){p:Array Nat}(h:Prm n p):∀f m,1<=m->m+f<=n->Up key p m->
  Kok (λi j=>decide (key i<key j)) n (λr=>m<=r/\r<=m+f/\Up key p r/\(r<m+f->key (p.getD r 0)<key (p.getD (r - 1) 0))) (kas_asc p f m)
 |0,m,h1,h2,hu=>⟨zzc _,zzc _,hu,λz=>absurd z (by omega)⟩
 |f+1,m,h1,h2,hu=>⟨Prm.ltn h (by omega) _,Prm.ltn h (by omega) _,by
  dsimp only;by_cases q:key (p.getD m 0)<key (p.getD (m - 1) 0)
  ·rw[z8 (by simpa using q)]
   exact⟨zzc _,by omega,hu,λ_=>q⟩
  ·rw[z4 (by simpa using q)]
   have aa:=h.unlike hk (show m - 1<n by omega) (show m<n by omega) (by omega);refine Kok.mono (λr hr=>?_) (acZ hk h f (m+1) (by omega) (by omega) (hu.snoc h1 (by omega)));exact⟨by omega,by omega,hr.2.2.1,λz=>hr.2.2.2 (by omega)⟩⟩
theorem abK(hk:∀i j,i<n->j<n->key i=key j->i=j){p:Array Nat}(h:Prm n p):∀f m,1<=m->m+f<=n->Dn key p m->
  Kok (λi j=>decide (key i<key j)) n (λr:Array Nat×Nat×Nat=>r.1=p/\r.2.2=0/\m<=r.2.1/\r.2.1<=m+f/\Dn key p r.2.1) (kas_desc f p m 0)
 |0,m,h1,h2,hu=>⟨rfl,rfl,zzc _,zzc _,hu⟩
 |f+1,m,h1,h2,hu=>⟨Prm.ltn h (by omega) _,Prm.ltn h (by omega) _,by
  dsimp only;by_cases z:key (p.getD m 0)<key (p.getD (m - 1) 0)
  ·rw[z8 (by simpa using z),z4 (by omega)]
   refine Kok.mono (λr q=>?_) (abK hk h f (m+1) (by omega) (by omega) (hu.snoc h1 z));exact⟨q.1,q.2.1,by omega,by omega,q.2.2.2.2⟩
  ·rw[z4 (by simpa using z)]
   have aa:=h.unlike hk (show m - 1<n by omega) (show m<n by omega) (by omega);refine⟨Prm.ltn h (by omega) _,Prm.ltn h (by omega) _,?_⟩;dsimp only;rw[z8 (zzx (by omega))];exact⟨rfl,rfl,zzc _,by show m<=_;omega,hu⟩⟩
def aeQ(hk:∀i j,i<n->j<n->key i=key j->i=j){p:Array Nat}(h:Prm n p){m:Nat}(h1:1<=m)(h2:m<=n)(hd:Dn key p m):
  Kok (λi j=>decide (key i<key j)) n (λr:Nat×Array Nat=>Prm n r.2/\1<=r.1/\r.1<=n/\Up key r.2 r.1) (kas_tail3 m n p):=by
 have hs:=h.size
 have z:Up key (kas_rev p 0 m) m:=λa b q hb=>by
  rw[WD (by omega),WD (by omega),z8 (by omega),z8 (by omega)];exact hd _ _ (by omega) (by omega)
 refine Kok.bind (acZ hk (h.rev 0 m) (n - m) m h1 (by omega) z) λr hr=>?_;exact⟨h.rev 0 m,by show 1<=r;omega,by show r<=n;omega,hr.2.2.1⟩
def afn(hk:∀i j,i<n->j<n->key i=key j->i=j){p:Array Nat}(h:Prm n p){m:Nat}(h2:m+1<=n)(hd:Dn key p (m+1)):
  Kok (λi j=>decide (key i<key j)) n (λr:Nat×Array Nat=>Prm n r.2/\1<=r.1/\r.1<=n/\Up key r.2 r.1) (kas_descPart m n p):=by
 refine Kok.bind (abK hk h (n - (m+1)) (m+1) (by omega) (by omega) hd) λr hr=>?_;obtain⟨r1,r2,r3⟩:=r;obtain⟨q,z,e3,e4,e5⟩:=hr;dsimp only at q z e3 e4 e5⊢;subst q z;rw[z4 (by omega)];exact aeQ hk h (by omega) (by omega) e5
def acH(hk:∀i j,i<n->j<n->key i=key j->i=j){p:Array Nat}(h:Prm n p)(hn:1<=n):
  Kok (λi j=>decide (key i<key j)) n (λr:Nat×Array Nat=>Prm n r.2/\1<=r.1/\r.1<=n/\Up key r.2 r.1) (kas_count n p):=by
 refine Kok.bind (acZ hk h (n - 1) 1 (by omega) (by omega) λa b h1 h2=>absurd h1 (by omega)) λm hm=>?_;obtain⟨z,m2,q,m4⟩:=hm;by_cases h1:(m==n)=true
 ·rw[z8 h1]
  exact⟨h,z,by show m<=n;omega,q⟩
 ·rw[z4 h1]
  have h1:m≠n:=by simpa using h1
  by_cases h2:m>1
  ·rw[z8 h2]
   refine⟨Prm.ltn h (by omega) _,Prm.ltn h (by omega) _,?_⟩;dsimp only;have:=q 0 (m - 1) (by omega) (by omega);rw[z8 (by simpa using this)];exact⟨h,z,by show m<=n;omega,q⟩
  ·rw[z4 h2]
   have e:m=1:=by omega
   subst e
   exact afn hk h (by omega) λa b aa hb=>by
    have:a=0:=by omega
    have:b=1:=by omega
    subst a b;exact m4 (by omega)
theorem Pz{p:Array Nat}(h:Prm n p){k:Nat}(q:k<n)(hu:Up key p k):∀f l r,l<=r->r<=k->r - l<=f->(∀a,a<l->key (p.getD a 0)<=key (p.getD k 0))->(∀a,r<=a->a<k->key (p.getD k 0)<key (p.getD a 0))->
  Kok (λi j=>decide (key i<key j)) n (λl'=>l'<=k/\(∀a,a<l'->key (p.getD a 0)<=key (p.getD k 0))/\(∀a,l'<=a->a<k->key (p.getD k 0)<key (p.getD a 0))) (kas_place p k f l r)
 |0,l,r,h1,h2,h3,ha,hb=>⟨by omega,ha,λa q1 z=>hb a (by omega) z⟩
 |f+1,l,r,h1,h2,h3,ha,hb=>by
  show Kok _ n _ (if l>=r then _ else _);by_cases hc:l>=r
  ·rw[z8 hc]
   exact⟨by omega,ha,λa q1 z=>hb a (by omega) z⟩
  ·rw[z4 hc]
   refine⟨Prm.ltn h (by omega) _,Prm.ltn h (by omega) _,?_⟩;dsimp only;by_cases hd:key (p.getD k 0)<key (p.getD ((l+r)/2) 0)
   ·rw[z8 (by simpa using hd)]
    refine Pz h q hu f _ _ (by omega) (by omega) (by omega) ha λa q1 z=>?_;by_cases e:a=(l+r)/2
    ·rw[e];exact hd
    ·exact Ya9 hd (hu _ _ (by omega) z)
   ·rw[z4 (by simpa using hd)]
    refine Pz h q hu f _ _ (by omega) (by omega) (by omega) (λa q1=>?_) hb;by_cases e:a=(l+r)/2
    ·rw[e];omega
    ·have:=hu a ((l+r)/2) (by omega) (by omega)
     omega
theorem aeZ(hk:∀i j,i<n->j<n->key i=key j->i=j):∀f {p:Array Nat} k,Prm n p->k+f=n->Up key p k->Kok (λi j=>decide (key i<key j)) n (λp'=>Prm n p'/\Up key p' n) (kas_bin f p k)
 |0,p,k,h,e,hu=>⟨h,by rwa [<-e]⟩
 |f+1,p,k,h,e,hu=>by
  refine Kok.bind (Pz h (by omega) hu k 0 k (by omega) (by omega) (by omega) (λa q=>absurd q (by omega)) (λa q1 q2=>absurd q2 (by omega))) λl hl=>?_;obtain⟨l1,l2,l3⟩:=hl;have hs:=h.size;refine aeZ hk f (k+1) (h.bub _ _) (by omega) λa b z hb=>?_
  have aa:∀x,x<l->key (p.getD x 0)<key (p.getD k 0):=λx hx=>by
   have:=l2 x hx;have:=h.unlike hk (show x<n by omega) (show k<n by omega) (by omega);omega
  rw[Xn (by omega) l1,Xn (by omega) l1];by_cases c1:a=l
  ·rw[z8 c1,z4 (by omega),z8 (by omega)]
   exact l3 _ (by omega) (by omega)
  ·rw[z4 c1]
   by_cases c2:b=l
   ·rw[z4 (by omega),z8 c2]
    exact aa _ (by omega)
   ·rw[z4 c2]
    by_cases c3:l<a
    ·rw[z8 (by omega),z8 (by omega)]
     exact hu _ _ (by omega) (by omega)
    ·rw[z4 (by omega)]
     by_cases c4:l<b
     ·rw[z8 (by omega)]
      by_cases c5:b - 1=a
      ·omega
      ·exact hu _ _ (by omega) (by omega)
     ·rw[z4 (by omega)]
      exact hu _ _ z (by omega)
def afm(q:∀i j,i<n->j<n->key i=key j->i=j)(hn:1<=n):Kok (λi j=>decide (key i<key j)) n (λp=>Prm n p/\Up key p n) (kas_sort n):=
 Kok.bind (acH q (p:=(List.range n).toArray) (by unfold Prm;simp) hn) λa ha=>by
  obtain⟨a1,a2,a3,a4⟩:=ha;by_cases h1:a.1<n
  ·rw[z8 h1,show max a.1 1=a.1 by omega]
   exact aeZ q _ _ a1 (by omega) a4
  ·rw[z4 h1]
   have e:a.1=n:=by omega
   exact⟨a1,by rwa [e]at a4⟩
end
section
variable{n:Nat}{lt:Nat->Nat->Bool}
theorem Sd{p q:Nat->Bool}:∀{l:List Nat}{i:Nat},i∈l->(∀x∈l,p x=true->q x=true)->p i=false->q i=true->l.countP p<l.countP q
 |[],_,h,_,_,_=>by cases h
 |a::l,i,h,hpq,hp,hq=>by
  rw[List.countP_cons,List.countP_cons];have hm:l.countP p<=l.countP q:=List.countP_mono_left λx z=>hpq x (zzh _ z);rcases zzb.mp h with rfl|h
  ·rw[hp,hq]
   simp;omega
  ·have ih:=Sd h (λx z=>hpq x (zzh _ z)) hp hq
   have:=hpq a zze
   cases aa:p a with
   |true=>rw[this aa];simp;exact ih
   |false=>simp;split<;>omega
theorem Kok.congr{α:Type}{z:Nat->Nat->Bool}{R:α->Prop}(h:∀i j,i<n->j<n->lt i j=z i j):∀{t:KasT α},Kok lt n R t->Kok z n R t
 |.ret a,q=>q
 |.ask i j k,q=>⟨q.1,q.2.1,h i j q.1 q.2.1▸Kok.congr h q.2.2⟩
def ach(ae:∀i,i<n->lt i i=false)(tr:∀i j k,i<n->j<n->k<n->lt i j=true->lt j k=true->lt i k=true)(ab:∀i j,i<n->j<n->i≠j->lt i j=true\/lt j i=true)(hn:1<=n):
  Kok lt n (λp=>Prm n p/\∀a b,a<b->b<n->lt (p.getD a 0) (p.getD b 0)=true) (kas_sort n):=by
 obtain⟨key,aa⟩:∃key:Nat->Int,∀i,key i=(((List.range n).countP λx=>lt x i:Nat):Int):=⟨_,λ_=>rfl⟩
 have up:∀i j,i<n->j<n->lt i j=true->key i<key j:=λi j hi hj h=>by
  rw[aa,aa];have:=Sd (p:=λx=>lt x i) (q:=λx=>lt x j) (l:=List.range n) (i:=i) (zzU.mpr hi) (λx hx ad=>tr x i j (zzU.mp hx) hi hj ad h) (ae i hi) h;omega
 have eq:∀i j,i<n->j<n->lt i j=decide (key i<key j):=λi j hi hj=>by
  cases h:lt i j with
  |true=>exact(zzx (up i j hi hj h)).symm
  |false=>
   refine(zzH λz=>?_).symm;by_cases e:i=j
   ·rw[e]at z;omega
   ·rcases ab i j hi hj e with t|t
    ·rw[h]at t;cases t
    ·have:=up j i hj hi t
     omega
 have hk:∀i j,i<n->j<n->key i=key j->i=j:=λi j hi hj e=>by
  by_cases h:i=j
  ·exact h
  ·rcases ab i j hi hj h with t|t
   ·have:=up i j hi hj t;omega
   ·have:=up j i hj hi t;omega
 refine Kok.congr (lt:=λi j=>decide (key i<key j)) (λi j hi hj=>(eq i j hi hj).symm) (Kok.mono (λp hp=>⟨hp.1,λa b ac hb=>?_⟩) (afm hk hn));rw[eq _ _ (hp.1.ltn (by omega) _) (hp.1.ltn (by omega) _)];exact zzx (hp.2 a b ac hb)
end
noncomputable def Bp:List Int->List Int->Bool->Bool
 |x::xs,y::ys,f=>if x=y then Bp xs ys f else decide (x<y)
 |[],_,f=>f
 |_::_,[],f=>f
theorem Vc:∀a:List Int,Bp a a false=false
 |[]=>rfl
 |x::a=>by rw[Bp,z8 rfl,Vc a]
theorem abn:∀{a b c:List Int},a.length=b.length->b.length=c.length->Bp a b false=true->Bp b c false=true->Bp a c false=true
 |[],_,_,_,_,h,_=>by simp[Bp]at h
 |x::a,[],_,h,_,_,_=>by simp at h
 |x::a,y::b,[],_,h,_,_=>by simp at h
 |x::a,y::b,z::c,h1,h2,h,h'=>by
  rw[Bp]at h h'⊢;by_cases e1:x=y
  ·subst e1
   rw[z8 rfl]at h;by_cases q:x=z
   ·subst q
    rw[z8 rfl]at h'⊢;exact abn (by simpa using h1) (by simpa using h2) h h'
   ·rw[z4 q]at h'⊢
    exact h'
  ·rw[z4 e1]at h
   have h:=zzW h;by_cases q:y=z
   ·subst q
    rw[z4 e1];exact zzx h
   ·rw[z4 q]at h'
    have h':=zzW h';rw[z4 (by omega)];exact zzx (by omega)
theorem Wu:∀{a b:List Int},a.length=b.length->a≠b->Bp a b false=true\/Bp b a false=true
 |[],[],_,h=>(h rfl).elim
 |[],y::b,h,_=>by simp at h
 |x::a,[],h,_=>by simp at h
 |x::a,y::b,h,hne=>by
  rw[Bp,Bp];by_cases e:x=y
  ·subst e
   rw[z8 rfl,z8 rfl];exact Wu (by simpa using h) λz=>hne (by rw[z])
  ·rw[z4 e,z4 (Ne.symm e)]
   rcases Int.lt_or_gt_of_ne e with q|q
   ·exact .inl (zzx q)
   ·exact .inr (zzx q)
section
variable{P:Program}{w:World}{A:Around}{E:Value->Shared->Prop}{s:Shared}
theorem RK{b f:Bool}{Q:Bool->Shared->Prop}:∀{ms ns:List Int}{xs ys:List Value},Vals (ms.map V.int) xs->Vals (ns.map V.int) ys->∀i,Q (Bp ms ns f) s->KatLex P w A b f Q (xs.zip ys) i s
 |[],_,_,_,r,_,i,h=>by
  cases r;exact h
 |m::ms,[],_,_,r,r',i,h=>by
  cases r';rw[List.zip_nil_right];exact h
 |m::ms,n::ns,_,_,r,r',i,h=>by
  rw[z6]at r r'
  cases r with
  |cons a1 a2=>
  cases r' with
  |cons b1 b2=>
  obtain⟨t,rfl⟩:=a1;obtain⟨t',rfl⟩:=b1;rw[ZM];refine kat_cons (wpAny_eqBool_int ?_);by_cases e:m=n
  ·rw[show(m==n)=true by simp[e]]
   refine kat_yes (RK a2 b2 (i+1) ?_)
   rwa [Bp,z8 e]at h
  ·rw[show(m==n)=false by simp[e]]
   refine kat_no ?_;rw[Bp,z4 e]at h
   cases q:(b && i==0)with
   |true=>exact oneLt_int h
   |false=>exact kat_one _ _ (lt_int h)
theorem Yc{h:Heap}:∀{us:List Value},(∀v∈us,∃b o xs m i t,v=.ref b/\h.get? b=some o/\o.cls=.type "tuple" /\o.data=.seq xs m/\xs[0]? =some (Value.int i t))->
  ∃fs,KatTups h us fs/\fs.length=us.length/\∀f∈fs,∃i t,f=Value.int i t
 |[],_=>⟨[],trivial,rfl,λ_ h=>by cases h⟩
 |v::us,hv=>by
  obtain⟨b,o,xs,m,i,t,rfl,h1,h2,z,h4⟩:=hv v (.head _);obtain⟨fs,k1,k2,k3⟩:=Yc (us:=us) λv hm=>hv v (.tail _ hm);exact⟨_::fs,KatTups.cons h1 h2 z h4 k1,by rw[zzu,zzu,k2],λf q=>(zzb.mp q).elim (λe=>⟨i,t,e⟩) (k3 f)⟩
end
section
variable{X:Cx}
theorem DR:∀{ys:List V}{us:List Value}{i:Nat},Vals ys us->i<ys.length->RelV (ys.getD i .non) (us.getD i Value.none)
 |_,_,_,.nil,h=>by simp at h
 |_,_,0,.cons r _,_=>r
 |_,_,i+1,.cons _ t,h=>by
  simp only[List.getD_cons_succ];exact DR t (by simpa using h)
theorem Ku{ys:List V}{us:List Value}(r:Vals ys us):∀{l:List Nat},(∀i∈l,i<ys.length)->Vals (l.map λi=>ys.getD i .non) (l.map λi=>us.getD i Value.none)
 |[],_=> .nil
 |i::l,h=> .cons (DR r (h i (.head _))) (Ku r λj q=>h j (.tail _ q))
def Qk(ys:List V):((List.range ys.length).map λi=>ys.getD i V.non)=ys:=by
 refine yyU (by simp) λi h1 h2=>?_;simp[h2]
noncomputable def abf(ys:List V)(ts:V->List Int)(p:Array Nat):Prop:=∀m,(∀y∈ys,(ts y).length=m)->(ys.map ts).Nodup->∀a b,a<b->b<ys.length->Bp (ts (ys.getD (p.getD a 0) .non)) (ts (ys.getD (p.getD b 0) .non)) false=true
def adC{ys:List V}{q:V->List Int}(hn:1<=ys.length):Kok (λi j=>Bp (q (ys.getD i .non)) (q (ys.getD j .non)) (decide ((q (ys.getD i .non)).length<(q (ys.getD j .non)).length))) ys.length (λp=>Prm ys.length p/\abf ys q p) (kas_sort ys.length):=by
 by_cases h:∃m,(∀y∈ys,(q y).length=m)/\(ys.map q).Nodup
 ·obtain⟨m,h1,h2⟩:=h
  have hm:∀i,i<ys.length->(q (ys.getD i .non)).length=m:=λi hi=>h1 _ (by simp[hi])
  have hf:∀i j,i<ys.length->j<ys.length->decide ((q (ys.getD i .non)).length<(q (ys.getD j .non)).length)=false:=λi j hi z=>by
   rw[hm i hi,hm j z];simp
  refine Kok.mono (λp hp=>⟨hp.1,λ_ _ _ a b aa hb=>?_⟩) (ach (n:=ys.length) (lt:=λi j=>Bp (q (ys.getD i .non)) (q (ys.getD j .non)) (decide ((q (ys.getD i .non)).length<(q (ys.getD j .non)).length))) (λi hi=>?_) (λi j k hi z hk h h'=>?_) (λi j hi z ab=>?_) hn)
  ·rw[hf i i hi hi];exact Vc _
  ·rw[hf i j hi z]at h
   rw[hf j k z hk]at h';rw[hf i k hi hk];exact abn ((hm i hi).trans (hm j z).symm) ((hm j z).trans (hm k hk).symm) h h'
  ·rw[hf i j hi z,hf j i z hi]
   refine Wu ((hm i hi).trans (hm j z).symm) λe=>ab ?_;refine(ZT (by rw[z0];exact hi) h2).mp ?_;rw[zzl,zzl,zzg hi,zzg z];have q1:ys.getD i .non=ys[i]:=by simp[hi]
   have q2:ys.getD j .non=ys[j]:=by simp[z]
   rw[q1,q2]at e;exact congrArg some e
  ·have:=hp.2 a b aa hb
   rwa [hf _ _ (hp.1.ltn (by omega) _) (hp.1.ltn (by omega) _)]at this
 ·exact Kok.mono (λp hp=>⟨hp,λm h1 h2=>absurd ⟨m,h1,h2⟩ h⟩) (aaF hn)
end
noncomputable def But(D:Addr)(H H':Hp):Prop:=∀b u,b≠D->H b=some u->H' b=some u
section
variable{K:Fg_}{a:Addr}{xs:List V}{g:TG}{te:TE}{σ:St}{H:Hp}{Q:VK}{cap:List (Option Nat)}
def iK.listE(Sσ:St->Prop)(F:Nat->V->Hp->Prop)(hS:SqL K H a xs)(h0:Sσ (nA σ cap))(hz:xs.length<=sizeLine)
  (hs:∀D i x,xs[i]? =some x->∀(σ:St)(H5:Hp)(R:St->VK),Sσ σ->Same H H5->H D=Option.none->(∃acc,H5 D=some (.lst acc))->(∀v z H6,Sσ z->Same H5 H6->(∀H',But D H6 H'->F i v H')->R z v H6)->
   g x σ H5 λz H4=>te z H4 (R z))
  (k:∀D H' acc,H D=Option.none->Same H H'->H' D=some (.lst acc)->acc.length=xs.length->(∀i v,acc[i]? =some v->F i v H')->Q (.ref D) H'):iK cap (Itl K a) g Tv te σ H Q:=by
 intro D hD;refine⟨λi m acc σ H2=>m=xs.length - i/\i<=xs.length/\Sσ σ/\Same H H2/\acc.length=i/\∀j v,acc[j]? =some v->∀H',But D H2 H'->F j v H',⟨xs.length,rfl,zzB _,h0,eZ hD,rfl,λj v e=>by simp at e⟩,?_⟩;rintro i m acc σ1 H2 ⟨rfl,hi,hσ,sm,aa,hF⟩ hA;by_cases ac:i<xs.length
 ·have hx:xs[i]? =some xs[i]:=by simp[ac]
  refine .inr ⟨⟨xs,xs[i],sm.seq hS,hx⟩,λy H3 hy=>?_⟩;obtain rfl:H3=H2:=hy.1;obtain rfl:y=xs[i]:=zzq ((hy.2 xs (sm.seq hS)).symm.trans hx);simp only[ap_noIf,if_true];refine hs D i _ hx σ1 H3 _ hσ sm hD ⟨_,hA⟩ λv z H6 ag s6 ad=>?_;have af:=s6 _ _ hA;refine⟨acc,af,by omega,xs.length - (i+1),by omega,rfl,ac,ag,(sm.trans s6).upd hD,by rw[zzt,aa];rfl,λj u hj H' hb=>?_⟩;have ab:But D H6 H':=λb o q e=>hb b o q ((fC q).trans e);by_cases ah:j<acc.length
  ·rw[yyj ah]at hj
   exact hF j u hj H' λb o q e=>ab b o q (s6 _ _ e)
  ·rw[yye (by omega)]at hj
   have ae:j - acc.length=0:=by
    have:=(zzm.mp hj).1;simp at this;omega
   rw[ae]at hj;cases hj;obtain rfl:j=i:=by omega
   exact ad H' ab
 ·obtain rfl:i=xs.length:=by omega
  exact .inl ⟨⟨xs,sm.seq hS,zzc _⟩,k D H2 acc hD sm hA aa λj v e=>hF j v e H2 λb o _ e=>e⟩
end
end L2
namespace L2
open PySem PySem.Spec PyProof.Rows
structure Mk0(K:Fg_)(C:Addr):Prop where
 makes:PySem.W.makesIn K C=true
 init:PySem.W.findIn K (.ref C) "__init__" =some (some (.builtin "object.__init__"))
 kp:PySem.W.keepIn K (.ref C)=true
noncomputable def aeV(C:Addr):TE:=λ_ H Q=>∀x dx,H x=none->H dx=none->dx≠x->Q (.ref x) (upd (upd H dx (.own x)) x (.ins C dx []))
def ap_new0{C:Addr}{σ:St}{H:Hp}{Q:VK}:aeV C σ H Q=∀x dx,H x=none->H dx=none->dx≠x->Q (.ref x) (upd (upd H dx (.own x)) x (.ins C dx [])):=rfl
def JM{X:Cx}{C:Addr}{x:Str}{p pos:Pos}(M:Mk0 X.K C)(hg:Gl X x)(hm:X.mg x=some (.ref C))(z:(x==("__debug__" :Str))=false:=by decide):PE X (.Call (.Name x p) [] [] pos) (aeV C):=by
 intro pins s σ H Q I h;refine zz2 (Ej I hg hm ?_ z);have q:=h (s.heap.objs.size+1) s.heap.objs.size (I.hok.fresh (yyE _)) (I.hok.fresh (zzc _)) (zzv (ZA _));have I2:=Inv.made (C:=C) I;have Y:=Ya3 (M:=model X.prog X.w) I.kIn M.makes;refine PySem.W.callWith_K0 I.kIn M.kp (ZR (Xy I.kIn M.makes M.init (λself=>PySem.W.Looks.of_pure (PySem.W.oi_bind self)) ?_))
 have g1:((s.heap.push PySem.W.emptyDict).push (PySem.W.instObj C s.heap.objs.size)).get? (s.heap.objs.size+1)=some (PySem.W.instObj C s.heap.objs.size):=by
  have e:=zzo (s.heap.push PySem.W.emptyDict) (o:=PySem.W.instObj C s.heap.objs.size) rfl;rw[size_push']at e;exact e
 have t1:PySem.W.Looks (model X.prog X.w) ((s.heap.push PySem.W.emptyDict).push (PySem.W.instObj C s.heap.objs.size)) (typeOf (.ref (s.heap.objs.size+1))) (.ref C):=(PySem.W.Looks.ld g1).andThen .now;have t2:PySem.W.Looks (model X.prog X.w) ((s.heap.push PySem.W.emptyDict).push (PySem.W.instObj C s.heap.objs.size)) (isInstance (.ref (s.heap.objs.size+1)) (.type "object")) true:=t1.andThen (Y.top.keeps λb o e=>z7 _ (z7 _ e));refine codeAny_call_builtin PySem.W.oi_plain PySem.W.entry_oi (@PySem.W.check_slot (model X.prog X.w) _ _ _ "object.__init__" "object" "__init__" (.ref (s.heap.objs.size+1)) [] [] _ PySem.W.oi_kind PySem.W.oi_split t2 (PySem.W.oi_args _) ?_);rw[PySem.W.oi_run];exact zzi ⟨rfl,.ref (s.heap.objs.size+1),_,I2,rfl,q⟩
section
variable{K:Fg_}{a b:Addr}{xs ys:List V}{g:TG}{te:TE}{σ:St}{H:Hp}{Q:VK}{cap:List (Option Nat)}
def iK.zipE(Sσ:St->Prop)(F:Nat->V->Hp->Prop)(hS:SqL K H a xs)(ab:SqL K H b ys)(aa:xs.length=ys.length)(h0:Sσ (nA σ cap))(hz:xs.length<=sizeLine)
  (hs:∀D i x y,xs[i]? =some x->ys[i]? =some y->∀(σ:St)(H5:Hp)(p:Addr)(R:St->VK),Sσ σ->Same H H5->H D=Option.none->(∃acc,H5 D=some (.lst acc))->H5 p=Option.none->
   (∀v σ4 H6,Sσ σ4->Same (upd H5 p (.tup [x,y])) H6->(∀H',But D H6 H'->F i v H')->R σ4 v H6)->g (.ref p) σ (upd H5 p (.tup [x,y])) λσ4 H4=>te σ4 H4 (R σ4))
  (k:∀D H' acc,H D=Option.none->Same H H'->H' D=some (.lst acc)->acc.length=xs.length->(∀i v,acc[i]? =some v->F i v H')->Q (.ref D) H'):iK cap (Itz K a b) g Tv te σ H Q:=by
 intro D hD;refine⟨λi m acc σ H2=>m=xs.length - i/\i<=xs.length/\Sσ σ/\Same H H2/\acc.length=i/\∀j v,acc[j]? =some v->∀H',But D H2 H'->F j v H',⟨xs.length,rfl,zzB _,h0,eZ hD,rfl,λj v e=>by simp at e⟩,?_⟩;rintro i m acc σ1 H2 ⟨rfl,hi,hσ,sm,ad,hF⟩ hA;by_cases z:i<xs.length
 ·have hx:xs[i]? =some xs[i]:=by simp[z]
  have hy:ys[i]? =some (ys[i]'(aa▸z)):=by simp[aa▸z]
  refine .inr ⟨⟨xs,ys,_,_,sm.seq hS,sm.seq ab,hx,hy⟩,λv H3 hv=>?_⟩;obtain⟨p,x,y,hp,rfl,rfl,e1,e2⟩:=hv;have e1:=e1 xs (sm.seq hS);have e2:=e2 ys (sm.seq ab);simp only[ap_noIf,if_true];refine hs D i x y e1 e2 σ1 H2 p _ hσ sm hD ⟨_,hA⟩ hp λv σ4 H6 ai s6 af=>?_;have ac:=(eZ (o:=.tup [x,y]) hp).trans s6;have ah:=ac _ _ hA;refine⟨acc,ah,by omega,xs.length - (i+1),by omega,rfl,z,ai,(sm.trans ac).upd hD,by rw[zzt,ad];rfl,λj u hj H' hb=>?_⟩;have ae:But D H6 H':=λb o q e=>hb b o q ((fC q).trans e);by_cases aj:j<acc.length
  ·rw[yyj aj]at hj
   exact hF j u hj H' λb o q e=>ae b o q (ac _ _ e)
  ·rw[yye (by omega)]at hj
   have ag:j - acc.length=0:=by
    have:=(zzm.mp hj).1;simp at this;omega
   rw[ag]at hj;cases hj;obtain rfl:j=i:=by omega
   exact af H' ae
 ·obtain rfl:i=xs.length:=by omega
  exact .inl ⟨⟨xs,ys,sm.seq hS,sm.seq ab,.inl (zzc _)⟩,k D H2 acc hD sm hA ad λj v e=>hF j v e H2 λb o _ e=>e⟩
end
end L2
namespace PySem
open PySem.Spec PyProof.Rows
def Ke:typeLookup (.type "list") "keys" =pure none:=by rw[typeLookup_type,builtinLookup_eq_fast];kernel_rfl
section
variable{prog:Program}{w:World}{A:Around}{E:Value->Shared->Prop}{a:Addr}{xs:Array Value}{k:Nat}{s:Shared}
def abY{Q:Option Value->Shared->Prop}{sl:Array (Option Value)}(hx:s.heap.get? a=some {cls:=.type "list",dict:=none,data:=.seq xs k,slots:=sl}) (hA:A.handled=none)
  (hq:∀h' tk,(∀b u,s.heap.get? b=some u->h'.get? b=some u)->Q none {s with heap:=h',toks:=tk}):wpAny (model prog w) A (getAttr? (.ref a) "keys") Q E s:=by
 obtain⟨hp,g,d,tk,os⟩:=s;have hT:∀q,(⟨hp,g,d,q,os⟩:Shared).TypeIs (.ref a) "list" :=λ_=>⟨_,hx,rfl⟩;have f1:=sub_AttributeError;have f3:=F.slot_list_getattribute.lookup;have f4:=F.slot_list_getattribute.bind (.ref a);have f5:=am_list_getattr_none;unfold getAttr? getAttrBy? getAttrBy
 repeat (any_goals (first|assumption|exact hT _|((with_reducible show wpAny _ _ (call (Value.builtin "list.__getattribute__") _ _) _ _ _);refine call_meets F.slot_list_getattribute (hT _) am_entry_list_getattribute (F.args_list_getattribute_2 _ _) (meets_getattribute_miss_list a xs k sl "keys" _ Ke (by decide+kernel) (by rw[zzk];decide+kernel)) ⟨hx,hA,λh' q e z=>?_⟩)|wp_step))
 obtain⟨t1,u1,hE⟩:=z.there;show wpAny _ _ (getattributeRaised _ _ _ _ _ _ _) _ _ _;unfold getattributeRaised
 repeat (any_goals (first|assumption|wp_step))
 exact hq _ _ z.keeps
end
end PySem
namespace L2
open PySem PySem.Spec PyProof.Rows
def Mp:entryFor table "dict.update.loop" =some Builtin.«dict.update.loop»:=entryFor_of_tree (by kernel_rfl)
section
variable{P:Program}{w:World}{A:Around}{E:Value->Shared->Prop}
abbrev acp(ps:List (Key×Value×Value)):List (Key×Value):=ps.foldl (λa p=>stored a p.1 p.2.2) []
def Tw(kvs:List (Key×Value))(k:Key)(v:Value):(stored kvs k v).length<=kvs.length+1:=by
 unfold stored;split
 ·simp
 ·simp
def QF(ps:List (Key×Value×Value)):(acp ps).length<=ps.length:=by
 have:∀(ps:List (Key×Value×Value))(a:List (Key×Value)),(ps.foldl (λa p=>stored a p.1 p.2.2) a).length<=a.length+ps.length:=by
  intro ps
  induction ps with
  |nil=>intro a;exact zzc _
  |cons p ps ih=>
   intro a;have h1:=ih (stored a p.1 p.2.2);have h2:=Tw a p.1 p.2.2;rw[yyi,zzu];omega
 simpa using this ps []
def Tn{d it l:Addr}{its:List Value}{ps:List (Key×Value×Value)}{R:Result->Shared->Prop}{s₀:Shared}(hA:A.handled=none)(ah:ps.length=its.length)(hz:its.length<=1000)(ab:d≠it)(ac:d≠l)(ad:it≠l)
  (hl:s₀.heap.IsList l its.toArray) (hp:∀(i:Nat) p,ps[i]? =some p->∃b,its[i]? =some (.ref b)/\b≠d/\b≠it/\IsTup s₀.heap b #[p.2.1,p.2.2]/\(gb P w).is p.1 p.2.1=true)
  (hR:∀h' tk,(∀b u,b≠d->b≠it->s₀.heap.get? b=some u->h'.get? b=some u)->h'.DictOf (gb P w) d (acp ps)->R (.ok (.ret .none)) {s₀ with heap:=h',toks:=tk}):
  ∀(m j:Nat) (h:Heap) (tk:Nat) (t:Tok),j+m=its.length->(∀b u,b≠d->b≠it->s₀.heap.get? b=some u->h.get? b=some u)->h.IsListIter it l j->h.DictOf (gb P w) d (acp (ps.take j))->
   codeAny (model P w) A (.builtin "dict.update.loop" ⟨[.ref d,.ref it,.int j t,.none],[]⟩) R {s₀ with heap:=h,toks:=tk}:=by
 intro m
 induction m with
 |zero=>
  intro j h tk t hj hk hi hd;refine codeAny_builtin Mp ?_;unfold Builtin.«dict.update.loop»;dsimp only
  have z:h.IsList l its.toArray:=by
   obtain⟨ol,e1,e2⟩:=hl;exact⟨ol,hk l ol ac.symm ad.symm e1,e2⟩
  refine z5 (wpAny_pyNext_list_end (by exact hA) hi z (by simp;omega) λh' eb=>?_);refine z5 (m:=Builtin.Dict.addKeywords d []) ?_;unfold Builtin.Dict.addKeywords;refine zzi (zzi (hR h' tk (λb u n1 n2 e=>eb b u n2 (hk b u n1 n2 e)) ?_));obtain⟨od,es,ep,h1,h2⟩:=hd;rw[zz8 (by omega)]at h2;exact⟨od,es,ep,eb d od ab h1,h2⟩
 |succ m ih=>
  intro j h tk t hj hk hi hd;refine codeAny_builtin Mp ?_;unfold Builtin.«dict.update.loop»;dsimp only
  have z:h.IsList l its.toArray:=by
   obtain⟨ol,e1,e2⟩:=hl;exact⟨ol,hk l ol ac.symm ad.symm e1,e2⟩
  have aa:ps[j]? =some (ps[j]'(by omega)):=by simp
  obtain⟨b,e1,n1,n2,ht,q⟩:=hp j _ aa;generalize ps[j]'(by omega)=p at aa ht q;refine z5 (wpAny_pyNext_list_item hi z (x:=.ref b) (by simpa using e1) λh' af sb=>?_);obtain⟨ot,t1,t2,t3,t4⟩:=ht;have ht':h'.get? b=some ot:=(sb.2 b n2).trans (hk b ot n1 n2 t1);have hT:({s₀ with heap:=h',toks:=tk}:Shared).TypeIs (.ref b) "tuple" :=⟨_,ht',t2⟩;dsimp only;refine z5 (yyp (z5 (Zb ?_)));unfold Builtin.Dict.pairItems;refine z5 (Yb2 hT ?_);rw[z8 (by decide)];unfold seqItems?;refine z5 (z5 (wpAny_load ht' ?_));rw[t4];refine zzi (zzi ?_);dsimp only[Option.getD_some];refine yyp (wpAny_dictSet_pairs (kvs:=acp (ps.take j)) q ?_ (λh2 ag ae=>?_) ?_)
  ·obtain⟨od,es,ep,q1,q2⟩:=hd
   exact⟨od,es,ep,(sb.2 d ab).trans q1,q2⟩
  ·refine zzi ⟨Code.quiet_builtin _ (by decide+kernel),?_⟩
   refine ih (j+1) h2 (tk+1) 0 (by omega) (λb u m1 m2 e=>(ae.2 b m1).trans ((sb.2 b m2).trans (hk b u m1 m2 e))) ?_ ?_
   ·obtain⟨oi,q1,q2⟩:=af
    exact⟨oi,(ae.2 it ab.symm).trans q1,q2⟩
   ·have e:ps.take (j+1)=ps.take j++[p]:=by rw[zzO,aa];rfl
    rw[acp,e,ZU];exact ag
  ·have:=QF (ps.take j)
   rw[zzR]at this;rw[zzk];omega
end
section
variable{X:Cx}
theorem MJ{α β:Type}{Pr:α->β->Prop}:∀{ys:List α},(∀y∈ys,∃p,Pr y p)->∃ps,Paired Pr ys ps
 |[],_=>⟨[],.nil⟩
 |y::ys,h=>by
  obtain⟨p,hp⟩:=h y zze;obtain⟨ps,q⟩:=MJ (ys:=ys) λz hz=>h z (zzh _ hz);exact⟨p::ps,.cons hp q⟩
theorem nP{α β:Type}{Pr:α->β->Prop}:∀{ys:List α}{ps:List β}{i:Nat}{p:β},Paired Pr ys ps->ps[i]? =some p->∃y,ys[i]? =some y/\Pr y p
 |_,_,_,_,.nil,h=>by simp at h
 |_,_,0,_,.cons r _,h=>by cases h;exact⟨_,rfl,r⟩
 |_,_,i+1,_,.cons _ t,h=>nP (i:=i) t h
noncomputable def JP(kf:V->Key)(vf:V->V)(ys:List V):List (Key×V):=ys.foldl (λa y=>putK a (kf y) (vf y)) []
theorem Xj{kf:V->Key}{q:V->V}{Pr:V->Key×Value×Value->Prop}(z:∀y p,Pr y p->p.1=kf y/\RelV (q y) p.2.2):∀{ys:List V}{ps:List (Key×Value×Value)}{a:List (Key×V)}{b:List (Key×Value)},Paired Pr ys ps->KV a b->
  KV (ys.foldl (λa y=>putK a (kf y) (q y)) a) (ps.foldl (λa p=>stored a p.1 p.2.2) b)
 |_,_,_,_,.nil,h=>h
 |y::ys,p::ps,a,b,.cons r t,h=>by
  obtain⟨e1,e2⟩:=z y p r;rw[yyi,yyi,e1];exact Xj z t (h.put (kf y) e2)
noncomputable def qw(K:Fg_):List V->Hp->VK->Prop:=λxs H Q=>∃(a:Addr)(ys:List V)(kf:V->Key)(vf:V->V),xs=[.ref a]/\SqL K H a ys/\ys.length<=1000/\(∀y∈ys,∃b,y=.ref b/\SqT K H b [kV (kf y),vf y])/\
 ∀p,H p=none->Q (.ref p) (upd H p (.dK (JP kf vf ys)))
def Gn(hc:X.calm=true):jz X (.type "dict") (qw X.K):=by
 intro pins s σ H xs us Q I r h;obtain⟨l,ys,kf,vf,rfl,hq,ap,hP,q⟩:=h;obtain⟨u,rfl,rx⟩:=vals1 r;cases rx;obtain⟨its,rv,pl,hz⟩:=I.list hq;have an:ys.length=its.length:=rv.length;have hl:=pl.isList
 obtain ⟨ps,ad⟩:=MJ (Pr:=fun(y:V)(p:Key×Value×Value)=>p.1=kf y/\RelV (vf y) p.2.2/\∃b,y=.ref b/\IsTup s.heap b #[p.2.1,p.2.2]/\(gb X.prog X.w).is p.1 p.2.1=true) (ys:=ys) λy hy=>by
  obtain⟨b,rfl,hb⟩:=hP y hy;obtain⟨tv,rt,it,aq⟩:=I.tuple hb
  cases rt with
  |cons r1 rt=>cases rt with
   |cons r2 rt=>
    cases rt;exact⟨(kf (.ref b),_,_),rfl,r2,b,rfl,it,Gu r1⟩
 have al:ps.length=its.length:=by rw[<-an];exact(zzV ad).symm
 obtain⟨⟨oc,od,oo,ar⟩,nl,g1,g2,g3,g4⟩:=id pl;simp only at g2 g3 g4;subst g2 g3 g4;have ai:l<s.heap.objs.size:=zzn g1;refine callType_codes (Q₁:=λob s1=>ob=.ref s.heap.objs.size/\s1={s with heap:=s.heap.push {cls:=.type "dict",data:=.dict #[]}}) F.kt_called_dict (F.kt_typeCall_dict_1 _) F.entry_dict_init (kt_code_dict_new _ ⟨rfl,rfl⟩) ?_;rintro ob s1 ⟨rfl,rfl⟩;have ac:(s.heap.push {cls:=.type "dict",data:=.dict #[]}).DictOf (gb X.prog X.w) s.heap.objs.size []:=Heap.DictOf.new s.heap;refine⟨ac.typeIs,F.args_dict_init_2 _ _,?_⟩;unfold Builtin.«dict.__init__» Builtin.Dict.selfAndRest;refine z5 (z5 (wpAny_notOrdered_dict ac.typeIs ?_));show wpAny _ _ (pure (s.heap.objs.size,[Value.ref l])) _ _ _;refine zzi ?_;show wpAny _ _ (Builtin.Dict.updateFrom "dict.__init__" s.heap.objs.size (.ref l) [] .none) _ _ _;have ae:∀b o,s.heap.get? b=some o->(s.heap.push {cls:=.type "dict",data:=.dict #[]}).get? b=some o:=λb o e=>z7 _ e;have hT:({s with heap:=s.heap.push {cls:=.type "dict",data:=.dict #[]}}:Shared).TypeIs (.ref l) "list" :=⟨_,ae _ _ g1,rfl⟩;unfold Builtin.Dict.updateFrom;refine z5 (Yb2 hT ?_);rw[z8 (by decide)];refine z5 (abY (ae _ _ g1) (by exact I.ok.hd hc) λh1 ag af=>?_);have z:∀b o,s.heap.get? b=some o->h1.get? b=some o:=λb o e=>af b o (ae b o e);have aj:h1.IsList l its.toArray:=⟨_,z _ _ g1,rfl,_,rfl⟩;obtain⟨o0,am,ao,q1,q2⟩:=ac;have q1':=af _ _ q1;have aa:s.heap.objs.size<h1.objs.size:=zzn q1';rw[z8 (show(none:Option Value).isNone=true from rfl)];refine z5 (wpAny_rule (z5 (yyN aj (zzi ⟨Code.quiet_builtin _ (by decide+kernel),?_⟩))));have ab:∀b o,h1.get? b=some o->(h1.push {cls:=.type "list_iterator",data:=.fields #[.ref l,.int 0 0]}).get? b=some o:=λb o e=>z7 _ e
 refine Tn (A:=X.A.in1) (s₀:={s with heap:=h1.push {cls:=.type "list_iterator",data:=.fields #[.ref l,.int 0 0]},toks:=ag}) (its:=its) (ps:=ps) (d:=s.heap.objs.size) (it:=h1.objs.size) (l:=l) (by exact I.ok.hd hc) al (by omega) (zzv aa) (yyy ai) (yyy (yyM ai aa))
  ⟨_,ab _ _ (z _ _ g1),rfl,_,rfl⟩ (λi p hi=>?_) (λh' tk kp hD=>⟨rfl,?_⟩) its.length 0 _ ag 0 (by omega) (λb o _ _ e=>e) ⟨_,zzo _ rfl,rfl,rfl⟩ ⟨o0,am,ao,ab _ _ q1',q2⟩
 ·obtain⟨y,hy,e1,e2,b,rfl,ht,hk⟩:=nP ad hi
  obtain⟨ot,t1,t2⟩:=ht;obtain⟨v,hv,rr⟩:=rv.get hy;cases rr;have hb:b<s.heap.objs.size:=zzn t1;exact⟨b,hv,zzv hb,zzv (yyM hb aa),⟨ot,ab _ _ (z _ _ t1),t2⟩,hk⟩
 ·have ah:KV (JP kf vf ys) (acp ps):=Xj (λy p h=>⟨h.1,h.2.1⟩) ad .nil
  have ak:(JP kf vf ys).length<=sizeLine:=by
   have e1:(JP kf vf ys).length=(acp ps).length:=zzV ah;have e2:=QF ps;rw[e1,zzk];omega
  exact⟨.ref s.heap.objs.size,_,I.laid (a:=s.heap.objs.size) (o:=.dK (JP kf vf ys)) (t':=tk) (λb o e=>kp b o (zzv (zzn e)) (zzv (yyM (zzn e) aa)) (ab _ _ (z b o e))) (zzc _) (Mr ak (beq_eq_false_iff_ne.mpr (Ne.symm (zzv I.big))) ah hD),rfl,q _ (I.hok.fresh (zzc _))⟩
end
end L2
namespace L2
open PySem PySem.Spec PyProof.Rows
noncomputable def sE(v a:Addr):HO:=.ext λh=>h.IsValuesView v a
noncomputable def Itv(a:Addr)(o:Obj)(kvs:List (Key×V)):It:=⟨λi H=>H a=some (.frz o (.dK kvs))/\i<kvs.length,λi H x H'=>H'=H/\(kvs.map (·.2))[i]? =some x,λi H=>H a=some (.frz o (.dK kvs))/\kvs.length<=i⟩
def YK:entryFor table "dict_valueiterator.__iter__" =some Builtin.«dict_keyiterator.__iter__»:=entryFor_alias (id':= "dict_keyiterator.__iter__") (by kernel_rfl) (by decide+kernel) (by decide+kernel) (by kernel_rfl)
def Xa{P:Program}{w:World}{A:Around}{E:Value->Shared->Prop}{s:Shared}{it d:Addr}{i n ep:Nat}{Q:Value->Shared->Prop}(q:s.heap.IsValIter it d i n ep)(h:Q (.ref it) s):wpAny (model P w) A (pyIter (.ref it)) Q E s:=by
 refine yy7 q.typeIs F.slot_dict_valueiterator_iter (yyG F.slot_dict_valueiterator_iter q.typeIs YK ?_ (F.args_dict_valueiterator_iter_1 _));show wpAny _ _ (ret (.ref it)) _ _ s;exact zzi ⟨_,rfl, "dict_valueiterator",_,q.typeIs,F.slot_dict_valueiterator_next.lookup,h⟩
def Hj{X:Cx}{pins:List (Addr×Obj)}{σ:St}{H:Hp}{s:Shared}{a:Addr}{o:Obj}{kvs:List (Key×V)}{es:Array DictEntry}{ep:Nat}(I:Inv X pins σ H s)(e:H a=some (.frz o (.dK kvs)))(q:o.data=.dict es ep):
  ∃vs,KV kvs vs/\s.heap.DictAt (gb X.prog X.w) a vs ep:=by
 obtain⟨h0,_,_,vs,rel,o',aa,ab,q1,q2,z,q4⟩:=(show iJ X.prog X.w H s.heap a (.frz o (.dK kvs))from I.hok a _ e);rw[h0]at q1;cases q1;rw[q]at z;cases z;exact⟨vs,rel,o,es,h0,q2,q,q4⟩
def Xm{P:Program}{w:World}{K:Fg_}{tg:Expr}{a it:Addr}{o:Obj}{kvs:List (Key×V)}{es:Array DictEntry}{ep:Nat}(aa:o.data=.dict es ep):Turn P w K tg (Itv a o kvs) [it] it (λi h=>h.IsValIter it a i kvs.length ep) where
 mem:=by simp
 obj:=λi h st b hb=>by
  obtain rfl:b=it:=by simpa using hb
  obtain⟨oi,e,c,dd⟩:=st;exact⟨oi,e,λv z=>by rw[dd]at z;cases z⟩
 keep:=λi h h' st k=>let⟨oi,e,r⟩:=st;⟨oi,k it (by simp) oi e,r⟩
 item:=by
  intro X hP hw hK hc i pins s σ H E I hf st hg;subst hP hw hK;obtain⟨ac,ae⟩:=hg;obtain⟨vs,rel,ab⟩:=Hj I ac aa;have q:kvs.length=vs.length:=zzV rel;obtain⟨f0,f1,f2,f3,f4,f5⟩:=hf it (by simp);have hx:vs[i]? =some (vs[i]'(by omega)):=by simp
  obtain⟨p,hp,e1,e2⟩:=nP rel hx;rw[q]at st;refine wpAny_pyNext_values_item st ab (k:=(vs[i]'(by omega)).1) (v:=(vs[i]'(by omega)).2) hx λh' ad sb=>?_;have I1:Inv X pins σ H {s with heap:=h'}:=I.turned (t':=s.toks) (λb o hb e=>(sb.2 b hb).trans e) f0 f1 f3 f4 f5;obtain⟨oi,e,c,dd⟩:=id ad;rw[<-q]at ad;exact⟨_,rfl,Ub (s:={s with heap:=h'}) e c dd (by decide) ⟨p.2,H,I1,e2,⟨rfl,by rw[zzl,hp];rfl⟩,ad,λb hb=>(hf b hb).1⟩⟩
 done:=by
  intro X hP hw hK hc i pins s σ H E I hf st hg;subst hP hw hK;obtain⟨ac,ae⟩:=hg;obtain⟨vs,rel,ab⟩:=Hj I ac aa;have q:kvs.length=vs.length:=zzV rel;obtain⟨f0,f1,f2,f3,f4,f5⟩:=hf it (by simp);rw[q]at st;exact wpAny_pyNext_values_end (I.ok.hd hc) st ab (by simp;omega) λh' eb=>⟨rfl,I.turned (t':=s.toks) (λb o hb e=>eb b o hb e) f0 f1 f3 f4 f5⟩
 self:=λ_ _ _ _ _ st h=>Xa st h
section
variable{X:Cx}{tg:Expr}
noncomputable def aeT(tl:TE):TI:=λσ H R=>tl σ H λx H1=>∃v a kvs,x=.ref v/\H1 v=some (sE v a)/\H1 a=some (.dK kvs)/\∀o,R (Itv a o kvs) (upd H1 a (.frz o (.dK kvs)))
def acO{l:Expr}{tl:TE}(hl:PE X l tl):PI X tg l (aeT tl):=by
 intro pins s σ H R I h;refine thn (hl pins s σ H _ I h) λu s1 ⟨x,H1,I1,r1,v,a,kvs,ex,hv,ha,q⟩=>?_;subst ex;cases r1;obtain⟨aa,_,_⟩:=(show iJ X.prog X.w H1 s1.heap v (sE v a)from I1.hok v _ hv);obtain⟨z,ab,vs,rel,o,es,ep,q1,q2,q3,q4⟩:=(show iJ X.prog X.w H1 s1.heap a (.dK kvs)from I1.hok a _ ha);have ac:kvs.length=vs.length:=zzV rel;have ad:s1.heap.DictAt (gb X.prog X.w) a vs ep:=⟨o,es,q1,q2,q3,q4⟩;refine wpAny_pyIter_values aa ad ?_;have I2:Inv X pins σ (upd H1 a (.frz o (.dK kvs))) s1:=I1.write (t':=s1.toks) (h':=s1.heap) (by rw[ha];exact True.intro) (.inl rfl) (λb u _ e=>e) ⟨o,q1⟩ (show iJ X.prog X.w _ s1.heap a (.frz o (.dK kvs))from⟨q1,z,ab,vs,rel,o,es,ep,q1,q2,q3,q4⟩);refine⟨s1.heap.objs.size,[s1.heap.objs.size],_,_,_,rfl,I2.kept (t':=s1.toks) λb o e=>z7 _ e,Xm q3,⟨_,zzo _ rfl,rfl,by rw[ac];rfl⟩,λb hb=>?_,q o⟩;obtain rfl:b=s1.heap.objs.size:=by simpa using hb
 exact I2.fpOk (zzc _) (I2.hok.fresh (zzc _))
noncomputable def adK:V->List V->Hp->VK->Prop:=λx vs H Q=>∃a kvs,x=.ref a/\vs=[]/\H a=some (.dK kvs)/\∀v,H v=none->Q (.ref v) (upd H v (sE v a))
def Vw:MtR X "dict.values" adK:=by
 intro pins s σ H x vs v us Q I rx rv h;obtain⟨a,kvs,rfl,rfl,ha,q⟩:=h;cases rx;have ab:=rv.zero;subst ab;obtain⟨z,aa,ws,rel,dd⟩:=Uk I.hok ha;refine yy1 PySem.F.slot_dict_values dd.typeIs PySem.F.entry_dict_values (PySem.F.args_dict_values_1 _) (meets_dict_values (gb X.prog X.w) a aa) ⟨⟨ws,dd⟩,?_⟩;have hg:(s.heap.push {cls:=.type "dict_values",data:=.fields #[.ref a]}).IsValuesView s.heap.objs.size a:=⟨_,zzo _ rfl,rfl,rfl⟩;exact⟨.ref s.heap.objs.size,_,I.laid (a:=s.heap.objs.size) (o:=sE s.heap.objs.size a) (t':=s.toks) (λb o e=>z7 _ e) (zzc _) ⟨hg,⟨_,zzo _ rfl⟩,λh1 h2 ⟨ov,e1,e2⟩ k=>⟨ov,k ov e1,e2⟩⟩,rfl,q _ (I.hok.fresh (zzc _))⟩
end
end L2
namespace L2
open PySem PySem.Spec PyProof.Rows
section
variable{X:Cx}{K:Fg_}{σ:St}{H:Hp}{Q:VK}{R:It->Hp->Prop}{tl td ty:TE}{g:TG}{tt:TT}{te:TE}{cap:List (Option Nat)}{a:Addr}{o:Obj}{kvs:List (Key×V)}
def lQ(z:X.calm=true)(q:X.K=K:=by rfl):jz X (.type "dict") (qw K):=q▸Gn z
def ap_dictPairs:qw K [.ref a] H Q=∃(ys:List V)(kf:V->Key)(vf:V->V),SqL K H a ys/\ys.length<=1000/\(∀y∈ys,∃b,y=.ref b/\SqT K H b [kV (kf y),vf y])/\∀p,H p=none->Q (.ref p) (upd H p (.dK (JP kf vf ys))):=by simp[qw]
def ap_iVals:aeT tl σ H R=tl σ H λx H1=>∃v a kvs,x=.ref v/\H1 v=some (sE v a)/\H1 a=some (.dK kvs)/\∀o,R (Itv a o kvs) (upd H1 a (.frz o (.dK kvs))):=rfl
def ap_rVals:adK (.ref a) [] H Q=∃kvs,H a=some (.dK kvs)/\∀v,H v=none->Q (.ref v) (upd H v (sE v a)):=by simp[adK]
def ap_dget1:aaX td ty σ H Q=td σ H λx H1=>∃a,x=.ref a/\IsD H1 a/\ty σ H1 λy H2=>∃o,Ir H2 a y o/\Q (o.getD .non) H2:=rfl
def iK.vals(Sσ:St->Prop)(p:V->Bool)(F:V->V)(hH:H a=some (.frz o (.dK kvs)))(h0:Sσ (nA σ cap))(hz:kvs.length<=sizeLine)
  (hs:∀x∈kvs.map (·.2),∀(σ:St)(z:Hp)(R1:St->VK)(R2:St->Hp->Prop),Sσ σ->Same H z->(p x=true->∀q H6,Sσ q->Same z H6->R1 q (F x) H6)->(p x=false->∀q H6,Sσ q->Same z H6->R2 q H6)->
   g x σ z λq H4=>tt q H4 λb z=>if b=true then te q z (R1 q)else R2 q z)
  (k:∀D H',H D=Option.none->Same H H'->H' D=some (.lst (((kvs.map (·.2)).filter p).map F))->Q (.ref D) H'):iK cap (Itv a o kvs) g tt te σ H Q:=
 λD hD=>rQ (xs:=kvs.map (·.2)) (Itv a o kvs) Sσ p F hD h0 (by rw[z0];exact hz) (λi x z hx sm=>⟨⟨sm _ _ hH,by simpa using (zzm.mp hx).1⟩,λy H' hy=>⟨zzq (hy.2.symm.trans hx),hy.1⟩⟩) (λz sm=>⟨sm _ _ hH,by simp⟩) hs λH' s e=>k D H' hD s e
end
end L2
namespace L2
open PySem PySem.W PySem.Spec PyProof.Rows
section
variable{X:Cx}{pins:List (Addr×Obj)}{σ:St}{H:Hp}{s:Shared}{h':Heap}
def Inv.adopt{t' c:Nat}{D:Addr}{zs:List V}{its:List Value}(I:Inv X pins σ H s)(hf:Qo X pins H D)(k:∀b o,b≠D->s.heap.get? b=some o->h'.get? b=some o)
  (hD:h'.get? D=some {cls:=.type "list",data:=.seq its.toArray c}) (hv:Vals zs its) (hz:zs.length<=sizeLine):Inv X pins σ (upd H D (.lst zs)) {s with heap:=h',toks:=t'}:=by
 obtain⟨hn,hL,ab,h1,h2,h3⟩:=hf;have aa:∀b u,H b=some u->b≠D:=λb u e z=>by rw[z,hn]at e;cases e
 refine I.step (g':=s.gens) (d':=s.drawn) (ch:=[D]) (λb hb=>?_) (λb o _ _ hc e _=>k b o (λz=>hc (by simp[z])) e) (λb o _ _ hc e _=>⟨o.slots,k b o (λz=>hc (by simp[z])) e⟩) (λb o hc e n=>(fC λz=>hc (by simp[z])).trans n)
  (λb o hc e=>⟨o,k b o (λz=>hc (by simp[z])) e⟩) (λb xs e=>(fC (aa b _ e)).trans e) (λb o u e=>(fC (aa b _ e)).trans e) (λb ps e=>⟨#[],by rw[fC (aa b _ e),e];simp⟩) (λm hm=>?_) (λb u e=>?_) I.bare
 ·have e:b=D:=by simpa using hb
  subst e;exact⟨h1,hL,h2,h3⟩
 ·obtain⟨o,es,ep,ho,r⟩:=hm
  exact⟨o,es,ep,k _ o (Ne.symm hL) ho,r⟩
 ·by_cases z:b=D
  ·subst z
   rw[eX]at e;cases e;exact⟨hz,its,c,hv,hD⟩
  ·rw[fC z]at e
   refine(I.hok b u e).stay (λc v hc q=>k c v ?_ q) (λc q=>?_) λc v q=>?_
   ·rcases hc with y|y
    ·rw[y];exact aa b u e
    ·exact aa c _ y
   ·exact(fC (aa c _ q)).trans q
   ·exact(fC (aa c _ q)).trans q
end
section
variable{X:Cx}{pins:List (Addr×Obj)}{σ:St}{H:Hp}{s:Shared}{k:Nat}{f:Addr}{fd:FuncData}{ps:List Str}{sp:Sp}
def aco{Q:VK}{v:V}{u:Value}(F:gJ X.prog X.w X.K X.mg X.base CX0 k f fd ps sp)(hr:lq (k+2) X.A)(hb:Binds X.K fd ps [])(I:Inv X pins σ H s)(r:RelV v u)(h:sp [v] H Q E0):
  wpAny (model X.prog X.w) X.A.in1.in1 (call (.ref f) [u]) (EP X pins σ Q) (λ_ _=>False) s:=by
 have r2:Vals [v] [u]:=.cons r .nil
 have z:([u]++([]:List Value)).length=ps.length:=by
  have:=F.len _ _ _ _ h;rw[<-this];rfl
 refine ZR (codeAny_mono (F.run X.A.in1.in1 X.stack s H ⟨[u],[]⟩ [u] [v] Q E0 hr.in1.in1 I.env0.in1.in1 (hb s [u] I.kIn z) r2 h) λr s' q=>?_)
 cases r with
 |error e=>exact q.elim
 |ok fl=>
  cases fl with
  |ret u=>exact I.after q
  |next=>exact False.elim q
  |brk=>exact False.elim q
  |cont=>exact False.elim q
theorem Paired.imp{α β:Type}{P P':α->β->Prop}(h:∀a b,P a b->P' a b):∀{xs:List α}{ys:List β},Paired P xs ys->Paired P' xs ys
 |_,_,.nil=> .nil
 |_,_,.cons a t=> .cons (h _ _ a) (Paired.imp h t)
noncomputable def Tc(kf:V->List Int)(H:Hp)(y v:V):Prop:=∃t,v=.ref t/\H t=some (.tup ((kf y).map V.int))
def Tc.same{kf:V->List Int}{H H':Hp}{y v:V}(h:Tc kf H y v)(e:∀t xs,H t=some (.tup xs)->H' t=some (.tup xs)):Tc kf H' y v:=let⟨t,a,b⟩:=h;⟨t,a,e _ _ b⟩
noncomputable def adf(sp:Sp)(kf:V->List Int)(H:Hp)(y:V):Prop:=∀H1,Same H H1->∀R:VK,(∀t H2,Same H1 H2->H2 t=some (.tup ((kf y).map V.int))->R (.ref t) H2)->sp [y] H1 R E0
theorem QR{E:Value->Shared->Prop}{kf:V->List Int}{H0:Hp}{kS:Addr}{Q':Shared->Prop}{ad:Value->PUnit->Sem (ForInStep PUnit)}(F:gJ X.prog X.w X.K X.mg X.base CX0 k f fd ps sp)(hr:lq (k+2) X.A)(hb:Binds X.K fd ps [])
  (ac:∀x s (D':Shared->Prop),wpAny (model X.prog X.w) X.A.in1.in1 (call (.ref f) [x]) (λk s'=>∃its n,s'.heap.get? kS=some {cls:=.type "list",data:=.seq its n}/\its.size<64/\D' {s' with heap:=s'.heap.update kS (Obj.mapSeq (·.push k))}) (λ_ _=>False) s->
   wpAny (model X.prog X.w) X.A.in1.in1 (ad x ⟨⟩) (λr s'=>r=.yield ⟨⟩/\D' s') E s) (hS0:H0 kS=none):
  ∀(ys:List V) (us:List Value) (ys0 kvs:List V) (H1:Hp) (s1:Shared),Vals ys us->ys0.length+ys.length<64->Inv X pins σ H1 s1->H1 kS=some (.lst kvs)->Same H0 H1->(∀y∈ys,adf sp kf H0 y)->Paired (Tc kf H1) ys0 kvs->
   (∀ab H2 s2,Inv X pins σ H2 s2->H2 kS=some (.lst ab)->Same H0 H2->Paired (Tc kf H2) (ys0++ys) ab->Q' s2)->wpAny (model X.prog X.w) X.A.in1.in1 (forIn us PUnit.unit ad) (λ_ s2=>Q' s2) E s1
 |_,_,ys0,kvs,H1,s1,.nil,hl,I,hH,sm,hk,hp,fin=>by
  rw[List.forIn_nil];rw[zz4]at fin;exact zzi (fin kvs H1 s1 I hH sm hp)
 |y::ys,u::us,ys0,kvs,H1,s1,.cons ru rus,hl,I,hH,sm,hk,hp,fin=>by
  rw[List.forIn_cons];rw[zzu]at hl;have am:ys0.length=kvs.length:=zzV hp;have h1:=aco F hr hb I ru (hk y zze H1 sm (λv H2=>∃t,v=.ref t/\Same H1 H2/\H2 t=some (.tup ((kf y).map V.int))) λt H2 s2 ht=>⟨t,rfl,s2,ht⟩);refine z5 (yyg (ac u s1 (λs2=>∃aa H3,Inv X pins σ H3 s2/\H3 kS=some (.lst aa)/\Same H0 H3/\Paired (Tc kf H3) (ys0++[y]) aa) (yyg h1 (λkv s2 hq=>?_) λ_ _ x=>x)) (λr s2 hq=>?_) λ_ _ x=>x)
  ·obtain⟨v,H2,I2,rv,t,rfl,af,ht⟩:=hq
   have ae:=af _ _ hH;obtain⟨z,its,n,r,an,e⟩:=I2.lstM ae;refine⟨its.toArray,n,e,by rw[zzf];omega,kvs++[.ref t],_,I2.lset (t':=s2.toks) (its':=its++[kv]) ae e (by simp) (r.append (.cons rv .nil)) (by rw[zzt,yyI,zzk];omega),eX,?_,?_⟩
   ·exact(sm.trans af).upd hS0
   ·have up:∀b xs,H2 b=some (.tup xs)->(upd H2 kS (.lst (kvs++[V.ref t]))) b=some (.tup xs):=λb xs q=>(fC λz=>by rw[z,ae]at q;cases q).trans q
    exact Paired.snoc (Paired.imp (λa b q=>q.same λt xs h=>up _ _ (af _ _ h)) hp) ⟨t,rfl,up _ _ ht⟩
  ·obtain⟨rfl,aa,H3,I3,ak,ag,aj⟩:=hq
   refine QR F hr hb ac hS0 ys us (ys0++[y]) aa H3 s2 rus (by rw[zzt,yyI];omega) I3 ak ag (λz hz=>hk z (zzh _ hz)) aj λab H4 s4 I4 al ai ah=>fin ab H4 s4 I4 al ai ?_
   rwa [yy6]at ah
end
section
variable{P:Program}{w:World}{A:Around}{E:Value->Shared->Prop}{s:Shared}
def Vv{G:Array Nat->Prop}{ks us:List Value}{a kS:Addr}{e1 nk:Nat}{R:PySem.Fin->Shared->Prop}(fs:Nat->List Int)(ab:ks.length=us.length)(af:us.length<64)(hk:s.heap.get? kS=some (seqObj "list" ks.toArray nk)) (ho:s.heap.get? a=some (seqObj "list" #[] e1)) (ak:a≠kS)
  (hT:∀i,i<us.length->fs i≠[]/\∃b o xs m,ks.getD i Value.none=.ref b/\s.heap.get? b=some o/\o.cls=.type "tuple" /\o.data=.seq xs m/\Vals ((fs i).map V.int) xs.toList)
  (hG:0<us.length->Kok (λi j=>Bp (fs i) (fs j) (decide ((fs i).length<(fs j).length))) us.length G (kas_sort us.length)) (am:us.length<2->G (List.range us.length).toArray) (ai:∀p,G p->Prm us.length p)
  (ao:∀p:Array Nat,G p->R (.done (.ret .none)) {s with heap:=(s.heap.update kS (Obj.mapSeq λ_=> #[])).update a (Obj.mapSeq λ_=>List.toArray (p.toList.map λi=>us.getD i Value.none))}):
  wpAny (model P w) A (ksk_end a false us.toArray e1 (.ref kS) ks.toArray) R E s:=by
 have an:us.toArray.size=us.length:=by simp
 have aa:∀q (p:Array Nat),arrOf q=p.map (kas_item (ks.toArray.zip us.toArray))->failedOf q=none->G p->wpAny (model P w) A (ksk_tail a false e1 (.ref kS) q) R E s:=λq p ac hf hp=>by
  have aj:(p.toList.map λi=>us.getD i Value.none).length=us.length:=by rw[z0,(ai p hp).length_eq];simp
  have ad:(s.heap.update kS (Obj.mapSeq λ_=> #[])).get? a=some (seqObj "list" #[] e1):=(yyS _ _ _ _ ak).trans ho;unfold ksk_tail
  try dsimp only
  rw[kat_snds ab ac];refine z5 (listUpdate_at hk rfl ?_ (by rw[zzf,zzk];omega) (zzB _));refine z5 (Ya0 ?_);refine z5 (seqEpoch_at ad rfl ?_);refine z5 (listUpdate_at ad rfl ?_ (zzB _) (by simp only[yyx,if_false];rw[zzf,aj,zzk];omega));rw[hf];simp only[bne_self_eq_false,yyx,if_false];exact zzi (ao p hp)
 unfold ksk_end
 try dsimp only
 rw[z4 (by decide)];by_cases h2:us.toArray.size<2
 ·rw[z8 h2,z8 h2]
  refine z5 (zzi ?_);rw[StateT.run_pure];refine z5 (zzi ?_);dsimp only;refine aa _ (List.range us.length).toArray ?_ rfl (am (by rw[<-an];exact h2));have e:=kas_range (ks.toArray.zip us.toArray);rw[show(ks.toArray.zip us.toArray).size=us.length by simp[ab]]at e;exact e.symm
 ·rw[z4 h2,z4 h2]
  have hn:0<us.length:=by omega
  obtain ⟨ff,k1,k2,k3⟩:=Yc (h:=s.heap) (us:=ks) (by
   intro v hv;obtain⟨i,hi,e⟩:=zzL hv;obtain⟨g0,b,o,xs,m,g1,g3,g4,g5,g6⟩:=hT i (by omega);have e2:ks.getD i Value.none=v:=by rw[<-e];simp[hi]
   cases hq:fs i with
   |nil=>exact(g0 hq).elim
   |cons z zs=>
    rw[hq,z6]at g6
    cases hx:xs.toList with
    |nil=>rw[hx]at g6;cases g6
    |cons u ur=>
     rw[hx]at g6
     cases g6 with
     |cons r1 r2=>
     obtain⟨t,rfl⟩:=r1;refine⟨b,o,xs,m,z,t,e2.symm.trans g1,g3,g4,g5,?_⟩;rw[<-zzX,hx];rfl)
  refine z5 (kat_kind k1 (by omega) (λv hv=>?_) (T:=.type "int") rfl ?_)
  ·obtain⟨i,t,rfl⟩:=k3 v hv
   exact Looks.of_pure rfl
  refine z5 (yyg (kat_run (ks:=ks) (vs:=us) (Q:=λq s'=>∃p:Array Nat,arrOf q=p.map (kas_item (ks.toArray.zip us.toArray))/\failedOf q=none/\G p/\s'=s)
   (G:=λp s'=>G p/\s'=s) ab (by omega) af (λp q s' a1 a2 a3 a4=>⟨p,a2,a3,a4.1,a4.2⟩)
   (Kok.wp (lt:=λi j=>Bp (fs i) (fs j) (decide ((fs i).length<(fs j).length))) (λi j C hi hj hC=>?_) (hG hn) λp hp=>⟨hp,rfl⟩)) ?_ λ_ _ e=>e)
  ·obtain⟨_,b,o,xs,m,g1,g3,g4,g5,g6⟩:=hT i hi
   obtain⟨_,b',o',ag,m',ap,ah,aq,al,ae⟩:=hT j hj;show wpAny _ _ (keyLt' _ (ks.getD i Value.none) (ks.getD j Value.none)) _ _ _;rw[g1,ap];refine kat_lt g3 g5 ah al (RK g6 ae 0 ?_);have z1:(fs i).length=xs.size:=by simpa using g6.length
   have z2:(fs j).length=ag.size:=by simpa using ae.length
   rw[<-z1,<-z2];exact hC
  ·rintro⟨⟨⟩,q⟩ s'⟨p,ac,hf,hp,rfl⟩
   dsimp only;exact aa q p ac hf hp
end
def acC(a v:Value):argsOk "list.sort" ⟨[a],[(Str.ofString "key",v)]⟩:=by unfold argsOk;kernel_rfl
section
variable{X:Cx}{pins:List (Addr×Obj)}{σ:St}{H:Hp}{s:Shared}{k:Nat}{f:Addr}{fd:FuncData}{ps:List Str}{sp:Sp}
noncomputable def Lj(K:Fg_)(sp:Sp):V->Hp->VK->Prop:=λx H Q=>∃(a:Addr)(ys:List V)(kf:V->List Int),x=.ref a/\SqL K H a ys/\ys.length<64/\(∀y∈ys,kf y≠[]/\adf sp kf H y)/\
 ∀p zs H',Same H H'->H p=none->H' p=some (.lst zs)->zs.Perm ys->(∀m,(∀y∈ys,(kf y).length=m)->(ys.map kf).Nodup->zs.Pairwise λy z=>Bp (kf y) (kf z) false=true)->Q (.ref p) H'
theorem Ft{α β:Type}{Pr:α->β->Prop}{d1:α}{d2:β}:∀{xs:List α}{ys:List β}{i:Nat},Paired Pr xs ys->i<xs.length->Pr (xs.getD i d1) (ys.getD i d2)
 |_,_,_,.nil,h=>by simp at h
 |_,_,0,.cons r _,_=>r
 |_,_,i+1,.cons _ t,h=>by
  simp only[List.getD_cons_succ];exact Ft t (by simpa using h)
def Ug{Q:VK}{x:V}{u:Value}(F:gJ X.prog X.w X.K X.mg X.base CX0 k f fd ps sp)(hr:lq (k+2) X.A)(hb:Binds X.K fd ps [])(I:Inv X pins σ H s)(rx:RelV x u)(h:Lj X.K sp x H Q):
  wpAny (model X.prog X.w) X.A (call (.builtin "sorted") [u] [(Str.ofString "key",.ref f)]) (EP X pins σ Q) X.xe s:=by
 obtain⟨a,ys,kf,rfl,hq,be,hK,q⟩:=h;cases rx;obtain⟨its,rv,pl,hz⟩:=I.list hq;have ae:ys.length=its.length:=rv.length;have hl:=pl.isList;refine call_function_entry_kw kind_sorted plain_sorted entry_sorted (ksk_s1 _ _) ?_;unfold Builtin.«sorted»;refine z5 (m:=checkCount "sorted" 1 1 _) (zzi ?_);refine z5 (collect_list hl ?_ (by omega));refine z5 (Ya2 ?_ (by omega));have hsz:((s.heap.push (seqObj "list" #[] 0)).update s.heap.objs.size (Obj.mapSeq (·++its.toArray))).objs.size=s.heap.objs.size+1:=by rw[Heap.size_update,size_push']
 have aa:(((s.heap.push (seqObj "list" #[] 0)).update s.heap.objs.size (Obj.mapSeq (·++its.toArray))).push (seqObj "list" its.toArray 0)).get? (s.heap.objs.size+1)=some (seqObj "list" its.toArray 0):=by rw[<-hsz];exact zzo _ rfl
 have keep:∀b o,s.heap.get? b=some o->(((s.heap.push (seqObj "list" #[] 0)).update s.heap.objs.size (Obj.mapSeq (·++its.toArray))).push (seqObj "list" its.toArray 0)).get? b=some o:=λb o e=>
  z7 _ ((yyS _ _ _ _ (zzv (zzn e))).trans (z7 _ e))
 have ag:(((s.heap.push (seqObj "list" #[] 0)).update s.heap.objs.size (Obj.mapSeq (·++its.toArray))).push (seqObj "list" its.toArray 0)).objs.size=s.heap.objs.size+2:=by rw[size_push',hsz]
 show wpAny _ _ _ _ _ {s with heap:=((s.heap.push (seqObj "list" #[] 0)).update s.heap.objs.size (Obj.mapSeq (·++its.toArray))).push (seqObj "list" its.toArray 0)};rw[hsz];generalize((s.heap.push (seqObj "list" #[] 0)).update s.heap.objs.size (Obj.mapSeq (·++its.toArray))).push (seqObj "list" its.toArray 0)=h2 at aa keep ag;obtain⟨D,ax⟩:∃D:Nat,s.heap.objs.size+1=D:=⟨_,rfl⟩;rw[ax]at aa⊢;refine z5 (yyp (wpAny_call_entry_kw slot_list_sort ⟨_,aa,rfl⟩ entry_list_sort ?body (acC _ _)))
 case body=>
  show wpAny (model X.prog X.w) X.A.in1.in1 (Builtin.«list.sort» ⟨[.ref D],[(Str.ofString "key",.ref f)]⟩) _ _ _;rw[ksk_t1];unfold ksk_tree;refine z5 (listItems_at aa rfl ?_);refine z5 (listUpdate_at aa rfl ?_ (by rw[zzf,zzk];omega) (zzB _));obtain⟨e1,af⟩:∃e1,(h2.update D (Obj.mapSeq λ_=> #[])).get? D=some (seqObj "list" #[] e1):=⟨_,get?_update_seq aa (λ_=> #[])⟩;refine z5 (seqEpoch_at af rfl ?_);refine z5 (wpAny_newTuple ?_ (by show its.length<=_;rw[zzk];omega));refine z5 (Ya2 ?_ (zzB _));refine yyp ?_;have am:((h2.update D (Obj.mapSeq λ_=> #[])).push (seqObj "tuple" its.toArray 0)).objs.size=s.heap.objs.size+3:=by rw[size_push',Heap.size_update,ag]
  have ab:∀b o,s.heap.get? b=some o->(((h2.update D (Obj.mapSeq λ_=> #[])).push (seqObj "tuple" its.toArray 0)).push (seqObj "list" #[] 0)).get? b=some o:=λb o e=>by
   have h9:b<s.heap.objs.size:=zzn e;have hb:b≠D:=zzv (yyM h9 (by omega));exact z7 _ (z7 _ ((yyS _ _ _ _ hb).trans (keep b o e)))
  have as:(((h2.update D (Obj.mapSeq λ_=> #[])).push (seqObj "tuple" its.toArray 0)).push (seqObj "list" #[] 0)).get? D=some (seqObj "list" #[] e1):=z7 _ (z7 _ af);have aj:(((h2.update D (Obj.mapSeq λ_=> #[])).push (seqObj "tuple" its.toArray 0)).push (seqObj "list" #[] 0)).get? (s.heap.objs.size+3)=some (seqObj "list" #[] 0):=by rw[<-am];exact zzo _ rfl
  show wpAny _ _ _ _ _ {s with heap:=((h2.update D (Obj.mapSeq λ_=> #[])).push (seqObj "tuple" its.toArray 0)).push (seqObj "list" #[] 0)};dsimp only;rw[am];generalize((h2.update D (Obj.mapSeq λ_=> #[])).push (seqObj "tuple" its.toArray 0)).push (seqObj "list" #[] 0)=h4 at ab as aj;obtain⟨kS,ar⟩:∃kS:Nat,s.heap.objs.size+3=kS:=⟨_,rfl⟩;rw[ar]at aj⊢;have ad:D≠kS:=zzv (by omega);have ak:H D=none:=I.hok.fresh (by omega);have ai:H kS=none:=I.hok.fresh (by omega);have I4:Inv X pins σ (upd H kS (.lst [])) {s with heap:=h4,toks:=s.toks}:=I.laid (t':=s.toks) ab (by omega) ⟨zzB _,[],0,.nil,aj⟩;have ac:Qo X pins (upd H kS (.lst [])) D:=I.fpOk (by omega) ((fC ad).trans ak)
  have I5:Inv X (pins++[(D,seqObj "list" #[] e1)]) σ (upd H kS (.lst [])) {s with heap:=h4,toks:=s.toks}:=I4.pins_of λp hp=>by
   rcases zzs.mp hp with hp|hp
   ·exact I4.pin p (zzD _ hp)
   ·obtain rfl:=z9.mp hp
    exact⟨as,ac.1,ac.2.1,ac.2.2.1,λv z=>by cases z⟩
  unfold ksk_rest;refine z5 (wpAny_rule ?_)
  first|rw[List.forIn_toArray]|rw[<-Array.forIn_toList]
  refine z5 (QR (kf:=kf) (H0:=H) (kS:=kS) F hr hb (λx s' D' hx=>?_) ai ys its [] [] _ _ rv (by rw[yyJ];omega) I5 eX (eZ ai) (λy hy=>(hK y hy).2) .nil λkvs H2 s2 I2 ao au ap=>?_)
  ·refine z5 (wpAny_attempt (yyg hx (λkv bi hk=>?_) λ_ _ hF=>hF.elim))
   obtain⟨its',n',e',bg,bb⟩:=hk
   try dsimp only
   refine z5 (listUpdate_at e' rfl ?_ (by rw[zzk];omega) (zzK (Ya8 (Yb4 ..)) (by rw[zzk];omega)));exact zzi ⟨rfl,bb⟩
  ·obtain⟨z,ks,n,rk,bd,e⟩:=I2.lstM ao
   have bf:ys.length=kvs.length:=zzV ap
   try dsimp only
   refine z5 (listItems_at e rfl ?_);have al:=I2.pin (D,seqObj "list" #[] e1) (zzD _ (zzD _ (z9.mpr rfl)));refine Vv (G:=λp=>Prm its.length p/\abf ys kf p) (λi=>kf (ys.getD i .non)) (by omega) (by omega) e al.1 ad (λi hi=>?_) (λhn=>ae▸adC (by omega)) (λh2=>⟨List.Perm.refl _,λm _ _ a b av hb=>absurd av (by omega)⟩) (λp hp=>hp.1) λp ay=>⟨_,rfl,zzi ⟨_,rfl,?_⟩⟩
   ·have hm:ys.getD i .non∈ys:=by
     have:i<ys.length:=by omega
     simp[this]
    obtain⟨t,e2,e3⟩:=Ft (d1:=V.non) (d2:=V.non) ap (i:=i) (by rw[Zh];omega);rw[Zh]at e3;obtain⟨tv,rt,it,bh⟩:=I2.tuple (gM e3);obtain⟨o,ho,hc,m,hd⟩:=it;refine⟨(hK _ hm).1,t,o,tv.toArray,m,?_,ho,hc,hd,rt⟩;have:=DR rk (i:=i) (by omega);rw[e2]at this;exact this
   ·obtain⟨hp,an⟩:=ay
    have az:∀i∈p.toList,i<ys.length:=λi hi=>by
     have:=zzU.mp (hp.mem_iff.mp hi);omega
    have ah:p.toList.length=its.length:=by rw[hp.length_eq];simp
    have ba:(p.toList.map λi=>ys.getD i V.non).Perm ys:=by
     have:=hp.map λi=>ys.getD i V.non;rw[<-ae,Qk]at this;exact this
    have I3:=(I2.lset (t':=s2.toks) (its':=[]) (f:=λ_=> #[]) ao e rfl .nil (zzB _)).unpinned;have aq:Qo X pins (upd H2 kS (.lst [])) D:=⟨(fC ad).trans al.2.1,ac.2⟩;have bc:(s2.heap.update kS (Obj.mapSeq λ_=> #[])).get? D=some (seqObj "list" #[] e1):=(yyS _ _ _ _ ad).trans al.1;obtain⟨c,hc⟩:∃c,((s2.heap.update kS (Obj.mapSeq λ_=> #[])).update D (Obj.mapSeq λ_=>List.toArray (p.toList.map λi=>its.getD i Value.none))).get? D=some (seqObj "list" (List.toArray (p.toList.map λi=>its.getD i Value.none)) c):=⟨_,get?_update_seq bc _⟩;refine⟨.ref D,_,I3.adopt (t':=s2.toks) (zs:=p.toList.map λi=>ys.getD i V.non) aq (λb o hb e=>(yyS _ _ _ _ hb).trans e) hc (Ku rv az) (by rw[z0,ah,zzk];omega),rfl,q _ _ _ ?_ ak eX ba λm h1 h2=>?_⟩
    ·exact((au.upd ai).upd ak)
    ·refine yyt.mpr λi j hi hj aw=>?_
     rw[z0,ah,<-ae]at hj;have h3:=an m h1 h2 i j aw hj;have hs:p.size=ys.length:=by rw[<-zzz,ah,ae]
     have e1:p.getD i 0=p.toList[i]'(by rw[zzz];omega):=by simp[Array.getD,show i<p.size by omega]
     have e2:p.getD j 0=p.toList[j]'(by rw[zzz];omega):=by simp[Array.getD,show j<p.size by omega]
     rw[e1,e2]at h3;rw[yyF,yyF];exact h3
noncomputable def RZ(K:Fg_)(sp:Sp)(t:TA):TE:=λσ H Q=>t σ H λvs H1=>∃x,vs=[x]/\Lj K sp x H1 Q
def Hl{e:Expr}{t:TA}{g:Str}{p kp kpos pos:Pos}(F:gJ X.prog X.w X.K X.mg X.base CX0 k f fd ps sp)(hr:lq (k+2) X.A)(hb:Binds X.K fd ps [])(z:Gl X "sorted") (ac:X.mg "sorted" =none) (ad:bootBuiltins "sorted" =some (.builtin "sorted"))
  (hg:Gl X g) (hm:X.mg g=some (.ref f)) (ha:PA X [e] t) (aa:(g==("__debug__" :Str))=false:=by decide)
  (he:backTo pos (starEach [e] X.env)=(false,eval e X.env)::backTo pos (starEach [] X.env):=by rfl) (hpl:(backTo pos (starEach [e] X.env)).any (·.1)=false:=by rfl):
  PE X (.Call (.Name "sorted" p) [e] [⟨some "key",.Name g kp,kpos⟩] pos) (RZ X.K sp t):=by
 intro pins s σ H Q I h;refine zz2 (oX I z ac ad ?_);refine callWith_kw (thn (ha pos pins s σ H _ I h) λus s1 ⟨vs,H1,I1,r,x,ex,q⟩=>?_) he hpl;subst ex;obtain⟨u,rfl,rx⟩:=vals1 r;have hk:PK X [⟨some "key",.Name g kp,kpos⟩] (Br (tC (.ref f)) VL):=UL (jB hg hm rfl aa) abd;refine thn (hk pos pins s1 σ H1 (λzs H2=>zs=[.ref f]/\H2=H1) I1 ⟨rfl,rfl⟩) λws s2 ⟨zs,H2,I2,rz,e1,e2⟩=>?_;subst e1 e2;obtain⟨w1,rfl,ab⟩:=vals1 rz;cases ab;exact Ug F hr hb I2 rx q
def Fx{K:Fg_}{e:Expr}{t:TA}{g:Str}{p kp kpos pos:Pos}(q:X.K=K)(h:PE X (.Call (.Name "sorted" p) [e] [⟨some "key",.Name g kp,kpos⟩] pos) (RZ X.K sp t)):PE X (.Call (.Name "sorted" p) [e] [⟨some "key",.Name g kp,kpos⟩] pos) (RZ K sp t):=q▸h
def ap_tSortK{K:Fg_}{sp:Sp}{t:TA}{σ:St}{H:Hp}{Q:VK}:RZ K sp t σ H Q=t σ H λvs H1=>∃x,vs=[x]/\Lj K sp x H1 Q:=rfl
def ap_rSortK{K:Fg_}{sp:Sp}{a:Addr}{H:Hp}{Q:VK}:Lj K sp (.ref a) H Q=∃(ys:List V)(kf:V->List Int),SqL K H a ys/\ys.length<64/\(∀y∈ys,kf y≠[]/\adf sp kf H y)/\
  ∀p zs H',Same H H'->H p=none->H' p=some (.lst zs)->zs.Perm ys->(∀m,(∀y∈ys,(kf y).length=m)->(ys.map kf).Nodup->zs.Pairwise λy z=>Bp (kf y) (kf z) false=true)->Q (.ref p) H':=by simp[Lj]
end
section
variable{X:Cx}
noncomputable def acX:V->List V->Hp->VK->Prop:=λx vs H Q=>∃(l:Addr)(xs:List V)(i:Int)(y:V),x=.ref l/\vs=[.int i,y]/\H l=some (.lst xs)/\0<=i/\i<=xs.length/\i<1000000/\xs.length+1<=sizeLine/\Q .non (upd H l (.lst (xs.take i.toNat++y::xs.drop i.toNat)))
def VG:MtM X "list.insert" acX:=by
 intro pins s σ H x vs v us Q I rx rv h;obtain⟨l,xs,i,y,rfl,rfl,hH,ab,hk,ac,hz,q⟩:=h;cases rx;obtain⟨iv,u,rfl,r1,ru⟩:=rv.two;obtain⟨t,rfl⟩:=r1;obtain⟨z,its,n,r,hl,e⟩:=I.lstM hH
 have aa:¬(!Builtin.List.listFitsIndex i)=true:=by
  rw[fitsIndex_both (Int.le_trans (by decide) ab) (Ya9 ac (by decide))];exact zzG
 have hsz:its.toArray.size<=sizeLine:=by rw[zzf,<-hl];exact z
 refine call_meets F.slot_list_insert ⟨_,e,rfl⟩ F.entry_list_insert (F.args_list_insert_3 _ _ _) (PySem.AutoSeq1.list_insert_list_int_val_1 l its.toArray n i t u aa hsz) ⟨e,?_⟩;refine⟨.non,_,I.lset (its':=its.take i.toNat++u::its.drop i.toNat) hH e ?_ ((r.take i.toNat).append (.cons ru (r.drop i.toNat))) ?_,rfl,q⟩
 ·have hm:(if i<0 then(i+(its.toArray.size:Int)).toNat else min i.toNat its.toArray.size)=i.toNat:=by
   rw[z4 (by omega),zzf];omega
  show(its.toArray.extract 0 (if i<0 then(i+(its.toArray.size:Int)).toNat else min i.toNat its.toArray.size)).push u++its.toArray.extract (if i<0 then(i+(its.toArray.size:Int)).toNat else min i.toNat its.toArray.size)=_;rw[hm];apply Array.toList_inj.mp;simp;exact zz8 (by rw[yyw];omega)
 ·rw[zzt,zzu,zzR,yyw]
  omega
end
end L2
namespace L2
open PySem PySem.W PySem.Spec PyProof.Rows
section
variable{X:Cx}
theorem XF:∀(ns acc:List Int),(ns.foldl step_dedup acc).length<=acc.length+ns.length
 |[],acc=>zzc _
 |n::ns,acc=>by
  rw[yyi];refine zzK (XF ns _) ?_;rw[zzu];unfold step_dedup;split
  ·omega
  ·rw[zzt,yyI];omega
def ade(ns:List Int):(List.range ns.length).map (λi=>ns.getD i 0)=ns:=by
 refine yyU (by simp) λi h1 h2=>?_;simp at h1⊢;simp[h1]
end
end L2
namespace L2
open PySem PySem.Spec PyProof.Rows
def YQ{xs:List V}{us:List Value}(h:Vals xs us):Vals xs.reverse us.reverse:=by
 induction h with
 |nil=>exact .nil
 |cons r _ ih=>
  rw[List.reverse_cons,List.reverse_cons];exact ih.append (.cons r .nil)
section
variable{K:Fg_}{a:Addr}{xs:List V}{g:TG}{tt:TT}{te:TE}{σ:St}{H:Hp}{Q:VK}{cap:List (Option Nat)}
def iK.enumI(Sσ:St->Prop)(p:Nat->Bool)(hS:SqL K H a xs)(h0:Sσ (nA σ cap))(hz:xs.length<=sizeLine)
  (hs:∀(i:Nat) x,xs[i]? =some x->∀(σ:St)(H5:Hp)(q:Addr)(R1:St->VK)(R2:St->Hp->Prop),Sσ σ->Same H H5->H5 q=some (.tup [.int i,x])->(p i=true->∀z H6,Sσ z->Same H5 H6->R1 z (.int i) H6)->(p i=false->∀z H6,Sσ z->Same H5 H6->R2 z H6)->
   g (.ref q) σ H5 λz H4=>tt z H4 λb H5=>if b=true then te z H5 (R1 z)else R2 z H5)
  (k:∀D H',H D=Option.none->Same H H'->H' D=some (.lst (((List.range xs.length).filter p).map λi:Nat=>V.int i))->Q (.ref D) H'):iK cap (Ite K a) g tt te σ H Q:=by
 intro D hD;refine⟨λi m acc σ H2=>m=xs.length - i/\i<=xs.length/\Sσ σ/\Same H H2/\acc=((List.range i).filter p).map λi:Nat=>V.int i,⟨xs.length,rfl,zzB _,h0,eZ hD,rfl⟩,?_⟩;rintro i m acc σ1 H2 ⟨rfl,hi,hσ,sm,rfl⟩ hA
 have ad:(((List.range i).filter p).map λi:Nat=>V.int i).length<=i:=by
  rw[z0];exact zzK (yym _ _) (by simp)
 by_cases ac:i<xs.length
 ·refine .inr ⟨⟨xs,xs[i],sm.seq hS,by simp[ac]⟩,λv H3 hy=>?_⟩
  obtain⟨q,x,hq,rfl,rfl,e1⟩:=hy;have hx:=e1 xs (sm.seq hS);have s3:=eZ (o:=.tup [V.int i,x]) hq;refine hs i x hx σ1 _ q _ _ hσ (sm.trans s3) eX (λhp z H6 ab s6=>?_) λhp z H6 ab s6=>?_
  ·have aa:=(s3.trans s6) _ _ hA
   refine⟨_,aa,by omega,xs.length - (i+1),by omega,rfl,ac,ab,(sm.trans (s3.trans s6)).upd hD,?_⟩;rw[Yb5,zz1,zzE (by simpa using hp),zza];rfl
  ·have aa:=(s3.trans s6) _ _ hA
   refine⟨xs.length - (i+1),by omega,_,aa,rfl,ac,ab,sm.trans (s3.trans s6),?_⟩;rw[Yb5,zz1,zzA (by simpa using hp),zza];simp
 ·obtain rfl:i=xs.length:=by omega
  exact .inl ⟨⟨xs,sm.seq hS,zzc _⟩,k D H2 hD sm hA⟩
end
end L2
namespace L2
open PySem PySem.W PySem.Spec PySem.Calls PyProof.Rows
noncomputable def Sy(Pt:Addr)(H H':Hp):Prop:=∀b o,b≠Pt->H b=some o->H' b=some o
def Sy.of{q:Addr}{H H':Hp}(h:Same H H'):Sy q H H':=λb o _ e=>h b o e
def Sy.trans{q:Addr}{H H1 H2:Hp}(h:Sy q H H1)(k:Sy q H1 H2):Sy q H H2:=λb o n e=>k b o n (h b o n e)
end L2
namespace L2
open PySem PySem.W PySem.Spec PySem.Calls PyProof.Rows
structure agq(z TI TO i1 i2 i3 l1 l2 l3:Addr):Prop where
 zz:TI≠z/\TO≠z/\i1≠z/\i2≠z/\i3≠z/\l1≠z/\l2≠z/\l3≠z
 to:TI≠TO/\i1≠TO/\i2≠TO/\i3≠TO/\l1≠TO/\l2≠TO/\l3≠TO
 ii:i1≠i2/\i1≠i3/\i2≠i3
 j1:TI≠i1/\l1≠i1/\l2≠i1/\l3≠i1
 j2:TI≠i2/\l1≠i2/\l2≠i2/\l3≠i2
 j3:TI≠i3/\l1≠i3/\l2≠i3/\l3≠i3
end L2
namespace L2
open PySem PySem.W PySem.Spec PySem.Calls PyProof.Rows
def adD:typeLookup (.type "list_reverseiterator") "__len__" =pure none:=by rw[typeLookup_type,builtinLookup_eq_fast];kernel_rfl
def aaM:typeLookup (.type "list_reverseiterator") "__length_hint__" =pure (some (.builtin "list_reverseiterator.__length_hint__")):=by rw[typeLookup_type,builtinLookup_eq_fast];kernel_rfl
def YJ:isSubtype (.type "list_reverseiterator") (.type "list_reverseiterator")=pure true:=by rw[isSubtype_type];kernel_rfl
section
variable{prog:Program}{w:World}{A:Around}{s:Shared}{R:Result->Shared->Prop}
def Ul{it l S:Addr}{items:Array Value}{c₀:Nat}{res:Value}(hh:A.in1.handled=none)(z:s.heap.IsRevIter it l ((items.size:Int) - 1))(hl:s.heap.IsList l items)(ae:l≠it)(aa:S≠it)(ad:S≠l)(hn:items.size<=sizeLine)
  (hS:s.heap.get? S=some {cls:=.type "list",data:=.seq #[] c₀})
  (hR:∀s' q c',Moved [S,it] (λa b=>b=a) s s'->s'.heap.get? S=some {cls:=.type "list",dict:=none,data:=.seq q c',slots:= #[]}->ItemsOf (λi v=>items[items.size - 1 - i]? =some v) q items.size->R (.ok (.ret res)) s'):
  wpAny (model prog w) A.in1 (Builtin.List.listExtendWith (.ref S) (.ref it) res) (λac s'=>match ac with|.done f=>R (.ok f) s'|.again c'=>c'.quiet=true/\codeAny (model prog w) A c' R s') (λe s'=>R (.error e) s') s:=by
 have W:=Walks.listRev (prog:=prog) (w:=w) hh it l ae items;have hT:=z.typeIs;unfold Builtin.List.listExtendWith;refine z5 (Yb2 hT ?_);have h1:Builtin.List.listSameRef (.ref S) (.ref it)=false:=by simp[Builtin.List.listSameRef,aa]
 have h2:(Value.type "list_reverseiterator" ==Value.type "list")=false:=by decide
 have h3:(Value.type "list_reverseiterator" ==Value.type "tuple")=false:=by decide
 simp only[h1,h2,h3,Bool.or_false,yyx,if_false];refine z5 (wpAny_pyIter_revIter z (z5 (yyp ?_)));unfold Builtin.List.listLengthHint;refine z5 (ZI hT adD ?_);show wpAny _ A.in1 (specialOf (Value.ref it) (Str.ofString "__length_hint__")>>=_) _ _ _
 refine z5 (ZI hT aaM ?_);dsimp only;rw[show splitId "list_reverseiterator.__length_hint__" =some ("list_reverseiterator", "__length_hint__")from by kernel_rfl];dsimp only;refine z5 (Ya7 (T:= "list_reverseiterator") (b:=true) hT YJ ?_);rw[z4 (by decide),z8 (by kernel_rfl),z4 (by decide)];refine zzi ?_;rw[z4 (by decide+kernel)];refine zzi ⟨plainId_quiet F.plain_extend_loop _,codeAny_extend_loopS W.toS hn S (by simp[aa,ad]) res items.size 0 _ #[] c₀ rfl (zzB _) ⟨zzB _,?_,hl⟩ hS (ItemsOf.nil _) λs' q c' hm af ab=>hR s' q c' hm af ab⟩;rw[show((items.size:Int) - 1 - ((0:Nat):Int))=(items.size:Int) - 1 by omega];exact z
end
section
variable{prog:Program}{w:World}{A:Around}{E:Value->Shared->Prop}{s:Shared}
def Jd{it l:Addr}{items:Array Value}{Q:Value->Shared->Prop}(hh:A.in1.in1.handled=none)(aa:s.heap.IsRevIter it l ((items.size:Int) - 1))(hl:s.heap.IsList l items)(af:l≠it)(hn:items.size<=sizeLine)
  (hQ:∀s' q c',(∀b o,b≠it->s.heap.get? b=some o->s'.heap.get? b=some o)->s'.gens=s.gens->s'.drawn=s.drawn->s'.os=s.os->
   s'.heap.get? s.heap.objs.size=some {cls:=.type "list",dict:=none,data:=.seq q c',slots:= #[]}->ItemsOf (λi v=>items[items.size - 1 - i]? =some v) q items.size->Q (.ref s.heap.objs.size) s'):
  wpAny (model prog w) A (call (.type "list") [.ref it]) Q E s:=by
 have ad:it<s.heap.objs.size:=by obtain⟨o,e,_⟩:=aa;exact zzn e
 have ab:l<s.heap.objs.size:=by obtain⟨o,e,_⟩:=hl;exact zzn e
 refine callType_codes (Q₁:=λobj s₁=>obj=.ref s.heap.objs.size/\s₁={s with heap:=s.heap.push {cls:=.type "list",data:=.seq #[]}}) F.called_list (F.typeCall_list_1 _) F.entry_list_init (code_list_new _ ⟨rfl,rfl⟩) λobj s₁ h₁=>?_;obtain⟨rfl,rfl⟩:=h₁;have hS:(s.heap.push {cls:=.type "list",data:=.seq #[]}).get? s.heap.objs.size=some {cls:=.type "list",data:=.seq #[]}:=zzo _ rfl;have ae:=yy5 (Obj.mapSeq (λ_=>(#[]:Array Value))) hS rfl
 have z:∀b o,b<s.heap.objs.size->s.heap.get? b=some o->((s.heap.push {cls:=.type "list",data:=.seq #[]}).update s.heap.objs.size (Obj.mapSeq (λ_=>(#[]:Array Value)))).get? b=some o:=λb o hb e=>
  (yyD _ _ (yyy hb)).trans (z7 _ e)
 refine⟨⟨_,hS,rfl⟩,F.args_list_init_2 _ _,?_⟩;show wpAny _ A.in1.in1 (do let old<-Builtin.List.listItems (.ref s.heap.objs.size);Builtin.List.listUpdate (.ref s.heap.objs.size) (λ_=> #[]);letGo old.toList.reverse;Builtin.List.listExtendWith (.ref s.heap.objs.size) (.ref it) .none) _ _ _;refine z5 ?_;unfold Builtin.List.listItems;refine z5 (ZS hS rfl (zzi ?_));show wpAny _ A.in1.in1 (updateSeq s.heap.objs.size (λ_=> #[])>>=λ_=>letGo (#[]:Array Value).toList.reverse>>=λ_=>Builtin.List.listExtendWith (.ref s.heap.objs.size) (.ref it) .none) _ _ _;refine z5 (Yb6 hS rfl (z5 (Ya0 ?_)));refine Ul (l:=l) (items:=items) hh (aa.at λo e=>z _ o ad e) (hl.at λo e=>z _ o ab e) af (yyy ad) (yyy ab) hn ae λs' q c' hm ag ac=>?_;refine⟨rfl,hQ s' q c' (λb o hb e=>hm.heap b o (by simp[hb,zzv (zzn e)]) (z b o (zzn e) e)) hm.gens hm.drawn hm.os ag ac⟩
end
section
variable{X:Cx}
noncomputable def CV(K:Fg_)(t:TA):TE:=λσ H Q=>t σ H λvs H1=>∃a ys,vs=[.ref a]/\SqL K H1 a ys/\∀l,H1 l=none->Q (.ref l) (upd H1 l (.lst ys.reverse))
def Tf{e:Expr}{t:TA}{p p2 pos aa:Pos}(hc:X.calm=true)(ag:Gl X "list") (aj:X.mg "list" =none) (ai:Gl X "reversed") (af:X.mg "reversed" =none) (ha:PA X [e] t)
  (hs:starEach [.Call (.Name "reversed" p2) [e] [] aa] X.env=[(false,eval (.Call (.Name "reversed" p2) [e] [] aa) X.env)]:=by rfl) (he:starEach [e] X.env=[(false,eval e X.env)]:=by rfl):
  PE X (.Call (.Name "list" p) [.Call (.Name "reversed" p2) [e] [] aa] [] pos) (CV X.K t):=by
 intro pins s σ H Q I h;refine zz2 (oX I ag aj (show bootBuiltins "list" =some (.type "list")from by decide+kernel) ?_);refine PyProof.Rows.callWith_type1 (T:= "list") ?_ (by rw[hs];rfl) rfl;rw[hs];show wpAny _ _ (spliced ((false,eval (.Call (.Name "reversed" p2) [e] [] aa) X.env)::backTo pos [])) _ _ s;refine Calls.spliced_cons (zz2 (oX I ai af (show bootBuiltins "reversed" =some (.type "reversed")from by decide+kernel) (PyProof.Rows.callWith_type1 (T:= "reversed") (thn (ha aa pins s σ H _ I h) λus s1 ⟨vs,H1,I1,r1,a,ys,ev,hq,q⟩=>?_) (by rw[he];rfl) rfl)));subst ev;obtain⟨u,rfl,ru⟩:=vals1 r1;cases ru;obtain⟨its,rv,pl,hz⟩:=I1.list hq;have hl:=pl.isList;have ah:a<s1.heap.objs.size:=by obtain⟨o,e,_⟩:=hl;exact zzn e
 refine call_reversed_list hl (Calls.spliced_nil ?_);have I2:Inv X pins σ H1 {s1 with heap:=s1.heap.push (revObj a ((its.toArray.size:Int) - 1))}:=I1.kept (t':=s1.toks) λb o e=>z7 _ e;have ae:(s1.heap.push (revObj a ((its.toArray.size:Int) - 1))).IsRevIter s1.heap.objs.size a ((its.toArray.size:Int) - 1):=⟨_,zzo _ rfl,rfl,rfl⟩;have hf:Qo X pins H1 s1.heap.objs.size:=I1.fpOk (zzc _) (I1.hok.fresh (zzc _));have hsz:its.toArray.size<=sizeLine:=by rw[zzf,<-rv.length];exact hz
 refine Jd (s:={s1 with heap:=s1.heap.push (revObj a ((its.toArray.size:Int) - 1))}) (I.ok.hd hc) ae (hl.at λo e=>z7 _ e) (zzv ah) hsz λs' acc c k1 k2 k3 k4 hS ab=>?_;obtain⟨h',g,d,tk,os⟩:=s';obtain rfl:g=s1.gens:=k2;obtain rfl:d=s1.drawn:=k3;obtain rfl:os=s1.os:=k4;have e1:(s1.heap.push (revObj a ((its.toArray.size:Int) - 1))).objs.size=s1.heap.objs.size+1:=Zq ..;rw[show(({s1 with heap:=s1.heap.push (revObj a ((its.toArray.size:Int) - 1))}:Shared).heap.objs.size)=s1.heap.objs.size+1 from e1]at hS⊢
 have ac:acc.toList=its.reverse:=by
  refine Zt λi=>?_;by_cases hi:i<its.length
  ·have ad:i<acc.size:=by rw[ab.1,zzf];exact hi
   have h2:its.toArray[its.toArray.size - 1 - i]? =some acc[i]:=ab.2 i acc[i] (zz7 ad);rw[zzX,zz7 ad,List.getElem?_reverse hi];rw[List.getElem?_toArray,zzf]at h2;exact h2.symm
  ·rw[yyc (by rw[zzz,ab.1,zzf];omega),yyc (by rw[List.length_reverse];omega)]
 refine⟨.ref (s1.heap.objs.size+1),_,I2.turnedT (t':=tk) (fp:=[s1.heap.objs.size]) (T:=s1.heap.objs.size+1) (o:=.lst ys.reverse) (λb hb=>by rw[z9.mp hb];exact hf) (Ya8 e1) (λb o hb e=>k1 b o (λz=>hb (by simp[z])) e) ?_,rfl,q _ (I1.hok.fresh (yyE _))⟩;refine⟨by rw[List.length_reverse];exact hz,its.reverse,c,YQ rv,?_⟩;rw[<-ac,yy8];exact hS
def Oz{K:Fg_}{t:TA}{e:Expr}(q:X.K=K)(h:PE X e (CV X.K t)):PE X e (CV K t):=q▸h
def ap_tListRev{K:Fg_}{t:TA}{σ:St}{H:Hp}{Q:VK}:CV K t σ H Q=t σ H λvs H1=>∃a ys,vs=[.ref a]/\SqL K H1 a ys/\∀l,H1 l=none->Q (.ref l) (upd H1 l (.lst ys.reverse)):=rfl
end
end L2
namespace L2
open PySem PySem.W PySem.Spec PySem.Calls PyProof.Rows
section
variable{prog:Program}{w:World}{A:Around}{R:Result->Shared->Prop}{I:Addr}{fp wr:List Addr}{G:Array GenState->Array GenState->Prop}{n:Nat}{P:Nat->Value->Prop}{St:Nat->Shared->Prop}
def XR(W:WalksS prog w A.in1 I fp wr G n P St)(bt:Nat->Nat->Bool)(ag:CmpOf prog w A.in1 .Lt P bt)(z:∀j,0<j->j<n->bt j 0=false)(S:Addr)(ak:S∉fp)(dv v0:Value)(ai:P 0 v0):
  ∀(k j:Nat)(s:Shared)(c:Nat),n - (j+1)=k->j+1<=n->St (j+1) s->s.heap.get? S=some {cls:=.type "list",dict:=none,data:=.seq #[v0,v0] c,slots:= #[]}->
  (∀s',Moved (S::wr) G s s'->R (.ok (.ret v0)) s')->codeAny (model prog w) A (.builtin "min.loop" ⟨[.ref I,.none,.ref S],[("default",dv)]⟩) R s:=by
 have ac:S∉wr:=λh=>ak (W.sub _ h);have q:∀b∈wr,b∈S::wr:=λb z=>zzh _ z
 have al:(toString "min" ++toString ".loop" :String)= "min.loop" :=by decide
 have af:∀{b:Addr},b∉S::wr->S≠b:=λz h=>z (h▸zze);intro k
 induction k with
 |zero=>
  intro j s c hk hj aa hS hR;have aj:j+1=n:=by omega
  refine codeAny_builtin F.entry_min_loop ?_;rw[Around.under_plainId F.plain_min_loop _];show wpAny _ A.in1 (seqItems? (.ref S)>>=_) _ _ s
  refine z5 (ZS hS rfl ?_);show wpAny _ A.in1 (tryCatch (pyNext (.ref I)) _>>=_) _ _ s
  refine z5 (Zb (W.done s _ _ (aj▸aa) λs' hm=>?_));have hS':=hm.heap S _ ac hS;show wpAny _ A.in1 (updateSeq S (λ_=> #[])>>=_) _ _ _
  refine z5 (Yb6 hS' rfl (z5 (Ya0 (zzi (hR _ ((hm.mono q).then_heap (tk:=s'.toks) (zzc _) λb o z e=>(yyD _ _ (af z)).trans e))))))
 |succ k ih=>
  intro j s c hk hj aa hS hR;have ab:j+1<n:=by omega
  refine codeAny_builtin F.entry_min_loop ?_;rw[Around.under_plainId F.plain_min_loop _];show wpAny _ A.in1 (seqItems? (.ref S)>>=_) _ _ s
  refine z5 (ZS hS rfl ?_);show wpAny _ A.in1 (tryCatch (pyNext (.ref I)) _>>=_) _ _ s
  refine z5 (Zb (W.item (j+1) s _ _ ab aa λv s' hP ad hm=>?_));have hS':=hm.heap S _ ac hS;show wpAny _ A.in1 (tryCatch (holding [v,v] (richCompare .Lt v v0>>=_)) _>>=_) _ _ _
  refine z5 (Zb (yyp (z5 (ag (j+1) 0 v v0 _ _ _ hP ai (z5 (yyp (yyl (z5 (Ya0 (zzi ?_))))))))));rw[z (j+1) (Ze _) ab];simp only[yyx,if_false];refine z5 (Ya0 ?_);rw[al];exact zzi ⟨plainId_quiet F.plain_min_loop _,ih (j+1) _ c (by omega) ab ad hS' λah ae=>hR ah (Moved.trans W.gtrans (hm.mono q) ae)⟩
def Uj(W:WalksS prog w A.in1 I fp wr G n P St)(bt:Nat->Nat->Bool)(ac:CmpOf prog w A.in1 .Lt P bt)(z:∀j,0<j->j<n->bt j 0=false)(S:Addr)(aa:S∉fp)(dv:Value){s:Shared}{c:Nat}(ab:St 0 s)(hS:s.heap.get? S=some {cls:=.type "list",dict:=none,data:=.seq #[] c,slots:= #[]})
  (hR:∀v s',(n=0->v=dv)->(0<n->P 0 v)->Moved (S::wr) G s s'->R (.ok (.ret v)) s'):codeAny (model prog w) A (.builtin "min.loop" ⟨[.ref I,.none,.ref S],[("default",dv)]⟩) R s:=by
 have ah:S∉wr:=λh=>aa (W.sub _ h);have q:∀b∈wr,b∈S::wr:=λb z=>zzh _ z
 have aj:(toString "min" ++toString ".loop" :String)= "min.loop" :=by decide
 have ae:∀{b:Addr},b∉S::wr->S≠b:=λz h=>z (h▸zze);refine codeAny_builtin F.entry_min_loop ?_;rw[Around.under_plainId F.plain_min_loop _];show wpAny _ A.in1 (seqItems? (.ref S)>>=_) _ _ s
 refine z5 (ZS hS rfl ?_);show wpAny _ A.in1 (tryCatch (pyNext (.ref I)) _>>=_) _ _ s
 by_cases hn:n=0
 ·refine z5 (Zb (W.done s _ _ (hn▸ab) λs' hm=>?_))
  show wpAny _ A.in1 (rule _>>=_) _ _ _;exact z5 (wpAny_rule (zzi (hR dv _ (λ_=>rfl) (λh=>absurd h (by omega)) (hm.mono q))))
 ·have hp:0<n:=by omega
  refine z5 (Zb (W.item 0 s _ _ hp ab λv s' hP af hm=>?_));have hS':=hm.heap S _ ah hS;show wpAny _ A.in1 (updateSeq S (λ_=> #[v,v])>>=_) _ _ _
  refine z5 (Yb6 hS' rfl ?_);rw[aj];refine zzi ⟨plainId_quiet F.plain_min_loop _,XR W bt ac z S aa dv v hP _ 0 _ _ rfl hp (W.frame _ s' _ s'.toks af (zzc _) λb ai o e=>(yyD _ _ (λh:S=b=>aa (by rw[h];exact ai))).trans e) (yy5 _ hS' rfl) λag ad=>?_⟩;exact hR v ag (λh=>absurd h hn) (λ_=>hP) (Moved.trans W.gtrans ((hm.mono q).then_heap (by first|exact zzc _|exact yyE _|omega) λb o z e=>(yyD _ _ (ae z)).trans e) ad)
end
def agB(a v:Value):argsOk "min" ⟨[a],[(Str.ofString "default",v)]⟩:=by unfold argsOk;kernel_rfl
section
variable{prog:Program}{w:World}{A:Around}{E:Value->Shared->Prop}{s:Shared}
def JG{l:Addr}{its:List Value}{ns:List Int}{dv:Value}{Q:Value->Shared->Prop}(hh:A.in1.handled=none)(hl:s.heap.IsList l its.toArray)(hi:IntsAre its ns)(ac:ns.Pairwise (·<·))
  (hQ:∀v h' tk,(ns=[]->v=dv)->(∀n r,ns=n::r->∃t,v=.int n t)->(∀b o,s.heap.get? b=some o->h'.get? b=some o)->Q v {s with heap:=h',toks:=tk}):
  wpAny (model prog w) A (call (.builtin "min") [.ref l] [(Str.ofString "default",dv)]) Q E s:=by
 have ai:(toString "min" ++toString ".loop" :String)= "min.loop" :=by decide
 have ae:l<s.heap.objs.size:=by obtain⟨o,e,_⟩:=hl;exact zzn e
 have aa:wpAny (model prog w) A.in1 (Builtin.«min» ⟨[.ref l],[(Str.ofString "default",dv)]⟩) (λah s'=>match ah with
   |.done f=>(match(Except.ok f:Result)with|.ok (.ret v)=>Q v s'|.ok _=>False|.error e=>E e s')
   |.again c'=>c'.quiet=true/\codeAny (model prog w) A c' (λr s'=>match r with|.ok (.ret v)=>Q v s'|.ok _=>False|.error e=>E e s') s') E s:=by
  show wpAny _ A.in1 (Builtin.Builtins.bindParams "min" ["key", "default"] 0 ⟨[],[(Str.ofString "default",dv)]⟩>>=_) _ _ s;refine z5 (wpAny_of_eq (show Builtin.Builtins.bindParams "min" ["key", "default"] 0 ⟨[],[(Str.ofString "default",dv)]⟩=pure [none,some dv]from rfl) (z5 (zzi (z5 (yyN hl ?_)))))
  have ia:∀(i:Nat) v,its.toArray[i]? =some v->∃t,v=.int (ns.getD i 0) t:=λi v e=>by
   rw[List.getElem?_toArray]at e;have rv:=nC hi;have aj:i<its.length:=(zzm.mp e).1;have ab:i<ns.length:=by have:=rv.length;rw[z0]at this;omega
   obtain⟨u,hu,ru⟩:=rv.get (show(ns.map V.int)[i]? =some (.int ns[i]) by rw[zzl,zzg ab];rfl);rw[e]at hu;obtain rfl:=zzq hu;obtain⟨t,rfl⟩:=ru;exact⟨t,by simp[ab]⟩
  have q:its.length=ns.length:=by have:=(nC hi).length;rw[z0]at this;exact this.symm
  refine z5 (Ya2 ?_ (zzB _));rw[ai];have W:=(Walks.list (prog:=prog) (w:=w) (A:=A.in1) hh s.heap.objs.size l (zzv ae) its.toArray).toS;have e1:(s.heap.push {cls:=.type "list_iterator",data:=.fields #[.ref l,.int 0 0]}).objs.size=s.heap.objs.size+1:=Zq ..;refine zzi ⟨plainId_quiet F.plain_min_loop _,Uj W _ (CmpOf.ints_lt (λi=>ns.getD i 0) ia) (λj h0 hj=>?_) _ ?_ dv ?_ (zzo _ rfl) λv s' h1 h2 hm=>?_⟩
  ·rw[zzf,q]at hj
   have ag:0<ns.length:=by omega
   have:=yyt.mp ac 0 j ag hj h0;have ej:ns.getD j 0=ns[j]:=by simp[hj]
   have e0:ns.getD 0 0=ns[0]:=by simp[ag]
   rw[ej,e0];exact zzH (by omega)
  ·show(s.heap.push _).objs.size∉[s.heap.objs.size,l]
   rw[e1];simp only[zzb,zzd,or_false,not_or];exact⟨Nat.succ_ne_self _,λz=>absurd ae (Nat.not_lt.mpr (z▸yyE _))⟩
  ·exact⟨⟨_,z7 _ (zzo _ rfl),rfl,rfl⟩,hl.at λo e=>z7 _ (z7 _ e)⟩
  ·obtain⟨h',g,d,tk,os⟩:=s'
   obtain rfl:g=s.gens:=hm.gens;obtain rfl:d=s.drawn:=hm.drawn;obtain rfl:os=s.os:=hm.os;refine hQ v h' tk (λe=>h1 (by rw[zzf,q,e];rfl)) (λn r e=>?_) λb o e=>hm.heap b o ?_ (z7 _ (z7 _ e))
   ·obtain⟨t,rfl⟩:=ia 0 v (h2 (by rw[zzf,q,e];exact Ze _))
    exact⟨t,by rw[e];rfl⟩
   ·have af:=zzn e
    have e2:({s with heap:=s.heap.push {cls:=.type "list_iterator",data:=.fields #[.ref l,.int 0 0]}}:Shared).heap.objs.size=s.heap.objs.size+1:=e1;rw[e2];simp only[zzb,zzd,or_false,not_or];exact⟨λz=>absurd af (Nat.not_lt.mpr (z▸yyE _)),zzv af⟩
 refine ZR (codeAny_call_builtin F.plain_min F.entry_min ?_);simp only[checkBuiltinCall,F.kind_min]
 cases ad:Manifest.signature? "min" with
 |none=>exact zzi aa
 |some sig=>
  have ha':Bind.checkArgs "min" sig ⟨[.ref l],[(Str.ofString "default",dv)]⟩=pure ():=by simpa only[argsOk,ad] using agB (.ref l) dv
  simp only[ha'];exact zzi aa
end
section
variable{X:Cx}
noncomputable def aaB(K:Fg_)(t:TA)(td:TE):TE:=λσ H Q=>t σ H λvs H1=>td σ H1 λy H2=>∃(a:Addr)(ns:List Int)(i:Int),vs=[.ref a]/\[y]=[.int i]/\SqL K H2 a (ns.map V.int)/\ns.Pairwise (·<·)/\Q (.int (ns.headD i)) H2
def adz{e d:Expr}{t:TA}{td:TE}{p kpos pos:Pos}(hc:X.calm=true)(hg:Gl X "min") (hm:X.mg "min" =none) (ha:PA X [e] t) (hd:PE X d td)
  (he:backTo pos (starEach [e] X.env)=(false,eval e X.env)::backTo pos (starEach [] X.env):=by rfl) (hpl:(backTo pos (starEach [e] X.env)).any (·.1)=false:=by rfl):
  PE X (.Call (.Name "min" p) [e] [⟨some "default",d,kpos⟩] pos) (aaB X.K t td):=by
 intro pins s σ H Q I h;refine zz2 (oX I hg hm (show bootBuiltins "min" =some (.builtin "min")from by decide+kernel) ?_);refine callWith_kw (thn (ha pos pins s σ H _ I h) λus s1 ⟨vs,H1,I1,r,q1⟩=>?_) he hpl;have hk:PK X [⟨some "default",d,kpos⟩] (Br td VL):=UL hd abd;refine thn (hk pos pins s1 σ H1 (λzs H2=>∃(a:Addr)(ns:List Int)(i:Int),vs=[.ref a]/\zs=[.int i]/\SqL X.K H2 a (ns.map V.int)/\ns.Pairwise (·<·)/\Q (.int (ns.headD i)) H2) I1 q1) λws s2 ⟨zs,H2,I2,rz,a,ns,i,ev,ey,hS,z,q⟩=>?_;subst ev ey;obtain⟨u,rfl,ru⟩:=vals1 r;cases ru;obtain⟨v1,rfl,aa⟩:=vals1 rz;obtain⟨ab,rfl⟩:=aa;obtain⟨its,rv,pl,hz⟩:=I2.list hS;refine JG (ns:=ns) (I.ok.hd hc) pl.isList (intsAre_of rv) z λv h' tk h1 h2 k=>⟨.int (ns.headD i),H2,I2.kept (t':=tk) k,?_,q⟩
 cases ns with
 |nil=>rw[h1 rfl];exact⟨_,rfl⟩
 |cons n r=>obtain⟨t,rfl⟩:=h2 n r rfl;exact⟨_,rfl⟩
def ap_tMinD{K:Fg_}{t:TA}{td:TE}{σ:St}{H:Hp}{Q:VK}:aaB K t td σ H Q=t σ H λvs H1=>td σ H1 λy H2=>∃(a:Addr)(ns:List Int)(i:Int),vs=[.ref a]/\[y]=[.int i]/\SqL K H2 a (ns.map V.int)/\ns.Pairwise (·<·)/\Q (.int (ns.headD i)) H2:=rfl
def Yx{K:Fg_}{t:TA}{td:TE}{e:Expr}(q:X.K=K)(h:PE X e (aaB X.K t td)):PE X e (aaB K t td):=q▸h
end
end L2
namespace L2
open PySem PySem.W PySem.Spec PyProof.Rows
def ap_break{D:Ends}{σ:St}{H:Hp}:abr D σ H=D.bk σ H:=rfl
end L2
namespace L2
open PySem PySem.W PySem.Spec PySem.Calls PyProof.Rows
section
variable{X:Cx}
noncomputable def Rv(K:Fg_):List V->Hp->VK->Prop:=λxs H Q=>∃(a:Addr)(ns:List Int),xs=[.ref a]/\SqL K H a (ns.map V.int)/\ns.length<64/\
 ∀p (ms:List Int),H p=none->ms.Perm ns->(ms.Pairwise λx y=>x<=y)->Q (.ref p) (upd H p (.lst (ms.map V.int)))
def Uh:jz X (.builtin "sorted") (Rv X.K):=by
 intro pins s σ H xs us Q I r h;obtain⟨a,ns,rfl,hq,aa,q⟩:=h;obtain⟨u,rfl,rx⟩:=vals1 r;cases rx;obtain⟨its,z,pl,hz⟩:=I.list hq;have hi:IntsAre its ns:=intsAre_of z;have ab:its.length=ns.length:=by rw[<-z.length,z0]
 refine sorted_ints pl.isList hi (by omega) λout ms h1 h2 h3=>?_;obtain⟨c,hc⟩:=sortedAll_at s.heap its out;refine⟨.ref (s.heap.objs.size+1),_,I.laid (t':=s.toks) (o:=.lst (ms.map V.int)) (λb o e=>sortedAll_old e) (yyE _) ?_,rfl,q _ _ (I.hok.fresh (yyE _)) h2 h3⟩;refine⟨by rw[z0,h2.length_eq,zzk];omega,out.toList,c,nC h1,?_⟩;rw[hc,yy8]
def Pn{K:Fg_}(q:X.K=K:=by rfl):jz X (.builtin "sorted") (Rv K):=q▸Uh
def ap_rSortI{K:Fg_}{a:Addr}{H:Hp}{Q:VK}:Rv K [.ref a] H Q=∃(ns:List Int),SqL K H a (ns.map V.int)/\ns.length<64/\
 ∀p (ms:List Int),H p=none->ms.Perm ns->(ms.Pairwise λx y=>x<=y)->Q (.ref p) (upd H p (.lst (ms.map V.int))):=by simp[Rv]
end
end L2
namespace L2
open PySem PySem.W PySem.Spec PySem.Calls PyProof.Rows
noncomputable def Ce(v a:Addr):HO:=.ext λh=>h.IsItemsView v a
noncomputable def Iti(a:Addr)(o:Obj)(kvs:List (Key×V)):It:=⟨λi H=>H a=some (.frz o (.dK kvs))/\i<kvs.length,λi H x H'=>∃p k v,H p=none/\x=.ref p/\H'=upd H p (.tup [kV k,v])/\kvs[i]? =some (k,v),λi H=>H a=some (.frz o (.dK kvs))/\kvs.length<=i⟩
def aaf:entryFor table "dict_itemiterator.__iter__" =some Builtin.«dict_keyiterator.__iter__»:=entryFor_alias (id':= "dict_keyiterator.__iter__") (by kernel_rfl) (by decide+kernel) (by decide+kernel) (by kernel_rfl)
def Ph{P:Program}{w:World}{A:Around}{E:Value->Shared->Prop}{s:Shared}{it d:Addr}{i n ep:Nat}{ok ov:Value}{Q:Value->Shared->Prop}(z:IsItemIter s.heap it d i n ep ok ov)(h:Q (.ref it) s):wpAny (model P w) A (pyIter (.ref it)) Q E s:=by
 have q:s.TypeIs (.ref it) "dict_itemiterator" :=⟨_,z,rfl⟩;refine yy7 q F.slot_dict_itemiterator_iter (yyG F.slot_dict_itemiterator_iter q aaf ?_ (F.args_dict_itemiterator_iter_1 _));show wpAny _ _ (ret (.ref it)) _ _ s;exact zzi ⟨_,rfl, "dict_itemiterator",_,q,F.slot_dict_itemiterator_next.lookup,h⟩
def WQ{P:Program}{w:World}{k:Key}{u:Value}(h:(gb P w).is k u=true):RelV (kV k) u:=by
 rcases ir h with⟨i,t,rfl,rfl⟩|⟨x,t,rfl,rfl⟩
 ·exact⟨t,rfl⟩
 ·exact⟨t,rfl⟩
def Th{P:Program}{w:World}{K:Fg_}{elts:List Expr}{x1:Nat}{pos:Pos}{a it:Addr}{o:Obj}{kvs:List (Key×V)}{es:Array DictEntry}{ep:Nat}(ad:o.data=.dict es ep):Turn P w K (.Tuple elts x1 pos) (Iti a o kvs) [it] it (λi h=>∃ok ov,IsItemIter h it a i kvs.length ep ok ov) where
 mem:=by simp
 obj:=λi h st b hb=>by
  obtain rfl:b=it:=by simpa using hb
  obtain⟨ok,ov,e⟩:=st;exact⟨_,e,λv z=>by cases z⟩
 keep:=λi h h' st k=>let⟨ok,ov,e⟩:=st;⟨ok,ov,k it (by simp) _ e⟩
 item:=by
  intro X hP hw hK hc i pins s σ H E I hf st hg;subst hP hw hK;obtain⟨af,am⟩:=hg;obtain⟨vs,rel,ae⟩:=Hj I af ad;have ac:kvs.length=vs.length:=zzV rel;obtain⟨⟨k0,v0⟩,hx⟩:∃q,vs[i]? =some q:=⟨_,zzg (by omega)⟩;obtain⟨p,hp,e1,e2⟩:=nP rel hx;obtain⟨ok,ov,aa⟩:=st;rw[ac]at aa;refine wpAny_pyNext_items_item aa ae (k:=k0) (v:=v0) hx λkey h' ai aj al hsz ag=>?_;refine⟨_,rfl,wpAny_letOwnedTupleGo_items (s:={s with heap:=h'}) aj λak ab sb=>?_⟩;have an:s.heap.objs.size≠it:=yyy (zzn aa)
  have k:∀c o,c∉[it]->s.heap.get? c=some o->ak.get? c=some o:=λc o hc e=>by
   have hc':c≠it:=by simpa using hc
   exact(sb.2 c hc').trans (ag c o hc' e)
  have ah:ak.get? s.heap.objs.size=some {cls:=.type "tuple",data:=.seq #[key,v0]}:=(sb.2 _ an).trans al;rw[<-ac]at ab
  refine ⟨.ref s.heap.objs.size,upd H s.heap.objs.size (.tup [kV p.1,p.2]),I.turnedT (t':=s.toks) hf (zzc _) k ⟨by rw[zzk];simp,[key,v0],.cons (WQ (by rw[show p.1=k0 from e1];exact ai)) (.cons e2 .nil),_,ah,rfl,_,rfl⟩,rfl,
   ⟨_,p.1,p.2,I.hok.fresh (zzc _),rfl,rfl,hp⟩,⟨_,_,ab⟩,λc hb=>?_⟩
  obtain rfl:c=it:=by simpa using hb
  rw[fC (zzv (zzn aa))];exact(hf c hb).1
 done:=by
  intro X hP hw hK hc i pins s σ H E I hf st hg;subst hP hw hK;obtain⟨af,am⟩:=hg;obtain⟨vs,rel,ae⟩:=Hj I af ad;have ac:kvs.length=vs.length:=zzV rel;obtain⟨ok,ov,aa⟩:=st;rw[ac]at aa;obtain⟨f0,f1,f2,f3,f4,f5⟩:=hf it (by simp);exact wpAny_pyNext_items_end (I.ok.hd hc) aa ae (by simp;omega) λh' eb=>⟨rfl,I.turned (t':=s.toks) (λb o hb e=>eb b o hb e) f0 f1 f3 f4 f5⟩
 self:=λ_ _ _ _ _ ⟨_,_,st⟩ h=>Ph st h
section
variable{X:Cx}{elts:List Expr}{x1:Nat}{tpos:Pos}
noncomputable def abT(tl:TE):TI:=λσ H R=>tl σ H λx H1=>∃v a kvs,x=.ref v/\H1 v=some (Ce v a)/\H1 a=some (.dK kvs)/\∀o,R (Iti a o kvs) (upd H1 a (.frz o (.dK kvs)))
def QX{l:Expr}{tl:TE}(hl:PE X l tl):PI X (.Tuple elts x1 tpos) l (abT tl):=by
 intro pins s σ H R I h;refine thn (hl pins s σ H _ I h) λu s1 ⟨x,H1,I1,r1,v,a,kvs,ex,hv,ha,q⟩=>?_;subst ex;cases r1;obtain⟨aa,_,_⟩:=(show iJ X.prog X.w H1 s1.heap v (Ce v a)from I1.hok v _ hv);obtain⟨z,ab,vs,rel,o,es,ep,q1,q2,q3,q4⟩:=(show iJ X.prog X.w H1 s1.heap a (.dK kvs)from I1.hok a _ ha);have ac:kvs.length=vs.length:=zzV rel;have ad:s1.heap.DictAt (gb X.prog X.w) a vs ep:=⟨o,es,q1,q2,q3,q4⟩;refine wpAny_pyIter_items aa ad ?_;have I2:Inv X pins σ (upd H1 a (.frz o (.dK kvs))) s1:=I1.write (t':=s1.toks) (h':=s1.heap) (by rw[ha];exact True.intro) (.inl rfl) (λb u _ e=>e) ⟨o,q1⟩ (show iJ X.prog X.w _ s1.heap a (.frz o (.dK kvs))from⟨q1,z,ab,vs,rel,o,es,ep,q1,q2,q3,q4⟩);refine⟨s1.heap.objs.size,[s1.heap.objs.size],_,_,_,rfl,I2.kept (t':=s1.toks) λb o e=>z7 _ e,Th q3,⟨.none,.none,by rw[ac];exact zzo _ rfl⟩,λb hb=>?_,q o⟩;obtain rfl:b=s1.heap.objs.size:=by simpa using hb
 exact I2.fpOk (zzc _) (I2.hok.fresh (zzc _))
noncomputable def Ws:V->List V->Hp->VK->Prop:=λx vs H Q=>∃a kvs,x=.ref a/\vs=[]/\H a=some (.dK kvs)/\∀v,H v=none->Q (.ref v) (upd H v (Ce v a))
def Rn:MtR X "dict.items" Ws:=by
 intro pins s σ H x vs v us Q I rx rv h;obtain⟨a,kvs,rfl,rfl,ha,q⟩:=h;cases rx;have ab:=rv.zero;subst ab;obtain⟨z,aa,ws,rel,dd⟩:=Uk I.hok ha;refine yy1 Zn dd.typeIs PySem.F.entry_dict_items (PySem.F.args_dict_items_1 _) (meets_dict_items (gb X.prog X.w) a aa) ⟨⟨ws,dd⟩,?_⟩;have hg:(s.heap.push {cls:=.type "dict_items",data:=.fields #[.ref a]}).IsItemsView s.heap.objs.size a:=⟨_,zzo _ rfl,rfl,rfl⟩;exact⟨.ref s.heap.objs.size,_,I.laid (a:=s.heap.objs.size) (o:=Ce s.heap.objs.size a) (t':=s.toks) (λb o e=>z7 _ e) (zzc _) ⟨hg,⟨_,zzo _ rfl⟩,λh1 h2 ⟨ov,e1,e2⟩ k=>⟨ov,k ov e1,e2⟩⟩,rfl,q _ (I.hok.fresh (zzc _))⟩
end
section
variable{K:Fg_}{σ:St}{H:Hp}{Q:VK}{R:It->Hp->Prop}{tl:TE}{g:TG}{tt:TT}{te:TE}{cap:List (Option Nat)}{a:Addr}{o:Obj}{kvs:List (Key×V)}
def ap_iItems:abT tl σ H R=tl σ H λx H1=>∃v a kvs,x=.ref v/\H1 v=some (Ce v a)/\H1 a=some (.dK kvs)/\∀o,R (Iti a o kvs) (upd H1 a (.frz o (.dK kvs))):=rfl
def ap_rItems:Ws (.ref a) [] H Q=∃kvs,H a=some (.dK kvs)/\∀v,H v=none->Q (.ref v) (upd H v (Ce v a)):=by simp[Ws]
def iK.itemsF(Sσ:St->Prop)(q:Key×V->Bool)(F:Key×V->V->Hp->Prop)(hH:H a=some (.frz o (.dK kvs)))(h0:Sσ (nA σ cap))(hz:kvs.length<=sizeLine)
  (hs:∀(D:Addr)(i:Nat)(z:Key×V),kvs[i]? =some z->∀(σ:St)(H5:Hp)(p:Addr)(R1:St->VK)(R2:St->Hp->Prop),Sσ σ->Same H H5->H D=Option.none->(∃acc,H5 D=some (.lst acc))->H5 p=Option.none->
   (q z=true->∀v σ4 H6,Sσ σ4->Same (upd H5 p (.tup [kV z.1,z.2])) H6->(∀H',But D H6 H'->F z v H')->R1 σ4 v H6)->(q z=false->∀σ4 H6,Sσ σ4->Same (upd H5 p (.tup [kV z.1,z.2])) H6->R2 σ4 H6)->
   g (.ref p) σ (upd H5 p (.tup [kV z.1,z.2])) λσ4 H4=>tt σ4 H4 λb H5=>if b=true then te σ4 H5 (R1 σ4)else R2 σ4 H5)
  (k:∀D H' acc,H D=Option.none->Same H H'->H' D=some (.lst acc)->acc.length=(kvs.filter q).length->(∀(i:Nat) v,acc[i]? =some v->∃z,(kvs.filter q)[i]? =some z/\F z v H')->Q (.ref D) H'):iK cap (Iti a o kvs) g tt te σ H Q:=by
 intro D hD;refine⟨λi m acc σ H2=>m=kvs.length - i/\i<=kvs.length/\Sσ σ/\Same H H2/\acc.length=((kvs.take i).filter q).length/\∀(j:Nat) v,acc[j]? =some v->∃z,((kvs.take i).filter q)[j]? =some z/\∀H',But D H2 H'->F z v H',⟨kvs.length,rfl,zzB _,h0,eZ hD,rfl,λj v e=>by simp at e⟩,?_⟩;rintro i m acc σ1 H2 ⟨rfl,hi,hσ,sm,ad,hF⟩ hA;by_cases af:i<kvs.length
 ·refine .inr ⟨⟨sm _ _ hH,af⟩,λy H3 hy=>?_⟩
  obtain⟨p,k0,v0,hp,rfl,rfl,ag⟩:=hy;have htk:kvs.take (i+1)=kvs.take i++[(k0,v0)]:=by rw[zzO,ag];rfl
  have al:((kvs.take i).filter q).length<=i:=zzK (yym _ _) (by rw[zzR];omega);have sn:=eZ (o:=.tup [kV k0,v0]) hp;refine hs D i (k0,v0) ag σ1 H2 p _ _ hσ sm hD ⟨_,hA⟩ hp (λhf v σ4 H6 ae s6 ah=>?_) λhf σ4 H6 ae s6=>?_
  ·have ab:=sn.trans s6
   have aj:=ab _ _ hA;have ac:(kvs.take (i+1)).filter q=(kvs.take i).filter q++[(k0,v0)]:=by rw[htk,zz1,zzE hf];rfl
   refine⟨acc,aj,by omega,kvs.length - (i+1),by omega,rfl,af,ae,(sm.trans ab).upd hD,by rw[zzt,ad,ac,zzt];rfl,λj u hj=>?_⟩;rw[ac];by_cases ak:j<acc.length
   ·rw[yyj ak]at hj
    obtain⟨z,h1,h2⟩:=hF j u hj;refine⟨z,?_,λH' hb=>h2 H' λb o aa e=>hb b o aa ((fC aa).trans (ab _ _ e))⟩;rw[yyj (by omega)];exact h1
   ·rw[yye (by omega)]at hj
    have ai:j - acc.length=0:=by
     have:=(zzm.mp hj).1;simp at this;omega
    rw[ai]at hj;cases hj;refine⟨(k0,v0),?_,λH' hb=>ah H' λb o aa e=>hb b o aa ((fC aa).trans e)⟩;rw[yye (by omega),show j - ((kvs.take i).filter q).length=0 by omega];rfl
  ·have ab:=sn.trans s6
   have ac:(kvs.take (i+1)).filter q=(kvs.take i).filter q:=by rw[htk,zz1,zzA (by rw[hf];decide)];simp
   refine⟨kvs.length - (i+1),by omega,acc,ab _ _ hA,rfl,af,ae,sm.trans ab,by rw[ac,ad],λj u hj=>?_⟩;rw[ac];obtain⟨z,h1,h2⟩:=hF j u hj;exact⟨z,h1,λH' hb=>h2 H' λb o aa e=>hb b o aa (ab _ _ e)⟩
 ·obtain rfl:i=kvs.length:=by omega
  rw[yyb]at ad hF;refine .inl ⟨⟨sm _ _ hH,zzc _⟩,k D H2 acc hD sm hA ad λj v e=>?_⟩;obtain⟨z,h1,h2⟩:=hF j v e;exact⟨z,h1,h2 H2 λb o _ e=>e⟩
end
end L2
namespace L2
open PySem PySem.W PySem.Spec PySem.Calls PyProof.Rows
noncomputable def Alike(ka kb:List (Key×V)):Prop:=ka.length=kb.length/\∀kv∈ka,∃i:Int,kv.2=.int i/\jo kb kv.1=some (.int i)
def acN{A:Around}{s:Shared}{kb:List (Key×V)}{vb:List (Key×Value)}(rb:KV kb vb):∀{ka:List (Key×V)}{va:List (Key×Value)},KV ka va->(∀kv∈ka,∃i:Int,kv.2=.int i/\jo kb kv.1=some (.int i))->PySem.W.KeqHits A s vb va true:=by
 intro ka va r
 induction r with
 |nil=>intro _;exact .nil
 | @cons p q ps qs h t ih=>
  intro z;obtain⟨i,e1,e2⟩:=z p zze;obtain⟨h1,h2⟩:=h;rw[e1]at h2;obtain⟨t1,e3⟩:=(show∃t,q.2=Value.int i t from h2);obtain⟨y,hy,ry⟩:=Gj.some_of (v:=.int i) (o:=valueAt vb p.1) (by rw[<-e2];exact rb.val p.1);obtain⟨t2,e4⟩:=(show∃t,y=Value.int i t from ry);subst e4;have hh:PySem.W.KeqHits A s vb ((q.1,q.2)::qs) ((i==i) && true):=.hit (by rw[<-h1];exact hy) (by rw[e3];exact SeqAt.EqAt.int_int i t1 i t2) (ih λkv aa=>z kv (zzh _ aa))
  simpa using hh
section
variable{X:Cx}
noncomputable def afB:R2:=λx y H Q=>∃(a b:Addr)(ka kb:List (Key×V)),x=.ref a/\y=.ref b/\Rd H a (.dK ka)/\Rd H b (.dK kb)/\Alike ka kb/\Q (.bl false) H
def aeF{k:Nat}(hr:lq k X.A):OpR X (compareOp .NotEq) afB:=by
 intro pins s σ H x y v u Q I rx ry h;obtain⟨a,b,ka,kb,rfl,rfl,h1,h2,⟨hl,z⟩,q⟩:=h;have hr':=hr.units;cases rx;cases ry;obtain⟨_,s1,va,ra,da⟩:=Bt I.hok h1;obtain⟨_,s2,vb,rb,db⟩:=Bt I.hok h2;refine PySem.W.keq_ne s1 s2 da db (by omega) (λ_=>acN rb ra z) ⟨.bl false,H,I,?_,q⟩;rw[<-ra.length,<-rb.length,hl];simp;rfl
def ap_neM{a b:Addr}{H:Hp}{Q:VK}:afB (.ref a) (.ref b) H Q=∃(ka kb:List (Key×V)),Rd H a (.dK ka)/\Rd H b (.dK kb)/\Alike ka kb/\Q (.bl false) H:=by simp[afB]
end
end L2
namespace L2
open PySem PySem.W PySem.Spec PySem.Calls PyProof.Rows
noncomputable def Itk(a:Addr)(o:Obj)(kvs:List (Key×V)):It:=⟨λi H=>H a=some (.frz o (.dK kvs))/\i<kvs.length,λi H x H'=>H'=H/\∃kv,kvs[i]? =some kv/\x=kV kv.1,λi H=>H a=some (.frz o (.dK kvs))/\kvs.length<=i⟩
def XH{P:Program}{w:World}{A:Around}{E:Value->Shared->Prop}{s:Shared}{it d:Addr}{i n ep:Nat}{Q:Value->Shared->Prop}(q:s.heap.IsKeyIter it d i n ep)(h:Q (.ref it) s):wpAny (model P w) A (pyIter (.ref it)) Q E s:=by
 refine yy7 q.typeIs F.slot_dict_keyiterator_iter (yyG F.slot_dict_keyiterator_iter q.typeIs F.entry_dict_keyiterator_iter ?_ (F.args_dict_keyiterator_iter_1 _));show wpAny _ _ (ret (.ref it)) _ _ s;exact zzi ⟨_,rfl, "dict_keyiterator",_,q.typeIs,F.slot_dict_keyiterator_next.lookup,h⟩
def Yd{P:Program}{w:World}{K:Fg_}{tg:Expr}{a it:Addr}{o:Obj}{kvs:List (Key×V)}{es:Array DictEntry}{ep:Nat}(ab:o.data=.dict es ep):Turn P w K tg (Itk a o kvs) [it] it (λi h=>h.IsKeyIter it a i kvs.length ep) where
 mem:=by simp
 obj:=λi h st b hb=>by
  obtain rfl:b=it:=by simpa using hb
  obtain⟨oi,e,c,dd⟩:=st;exact⟨oi,e,λv z=>by rw[dd]at z;cases z⟩
 keep:=λi h h' st k=>let⟨oi,e,r⟩:=st;⟨oi,k it (by simp) oi e,r⟩
 item:=by
  intro X hP hw hK hc i pins s σ H E I hf st hg;subst hP hw hK;obtain⟨ad,ag⟩:=hg;obtain⟨vs,rel,ac⟩:=Hj I ad ab;have aa:kvs.length=vs.length:=zzV rel;obtain⟨f0,f1,f2,f3,f4,f5⟩:=hf it (by simp);obtain⟨⟨k0,v0⟩,hx⟩:∃q,vs[i]? =some q:=⟨_,zzg (by omega)⟩;obtain⟨p,hp,e1,e2⟩:=nP rel hx;rw[aa]at st;refine wpAny_pyNext_dict_item st ac (k:=k0) (v:=v0) hx λkey h' af ae sb=>?_;have I1:Inv X pins σ H {s with heap:=h'}:=I.turned (t':=s.toks) (λb o hb e=>(sb.2 b hb).trans e) f0 f1 f3 f4 f5;obtain⟨oi,e,c,dd⟩:=id ae;rw[<-aa]at ae;exact⟨_,rfl,Ub (s:={s with heap:=h'}) e c dd (by decide) ⟨kV p.1,H,I1,WQ (by rw[show p.1=k0 from e1];exact af),⟨rfl,p,hp,rfl⟩,ae,λb hb=>(hf b hb).1⟩⟩
 done:=by
  intro X hP hw hK hc i pins s σ H E I hf st hg;subst hP hw hK;obtain⟨ad,ag⟩:=hg;obtain⟨vs,rel,ac⟩:=Hj I ad ab;have aa:kvs.length=vs.length:=zzV rel;obtain⟨f0,f1,f2,f3,f4,f5⟩:=hf it (by simp);rw[aa]at st;exact wpAny_pyNext_dict_end (I.ok.hd hc) st ac (by simp;omega) λh' eb=>⟨rfl,I.turned (t':=s.toks) (λb o hb e=>eb b o hb e) f0 f1 f3 f4 f5⟩
 self:=λ_ _ _ _ _ st h=>XH st h
section
variable{X:Cx}{tg:Expr}
noncomputable def afb(tl:TE):TI:=λσ H R=>tl σ H λx H1=>∃a kvs,x=.ref a/\H1 a=some (.dK kvs)/\∀o,R (Itk a o kvs) (upd H1 a (.frz o (.dK kvs)))
def acd{l:Expr}{tl:TE}(hl:PE X l tl):PI X tg l (afb tl):=by
 intro pins s σ H R I h;refine thn (hl pins s σ H _ I h) λu s1 ⟨x,H1,I1,r1,a,kvs,ex,ha,q⟩=>?_;subst ex;cases r1;obtain⟨z,aa,vs,rel,o,es,ep,q1,q2,q3,q4⟩:=(show iJ X.prog X.w H1 s1.heap a (.dK kvs)from I1.hok a _ ha);have ac:kvs.length=vs.length:=zzV rel;have ab:s1.heap.DictAt (gb X.prog X.w) a vs ep:=⟨o,es,q1,q2,q3,q4⟩;refine wpAny_pyIter_dict aa ab ?_;have I2:Inv X pins σ (upd H1 a (.frz o (.dK kvs))) s1:=I1.write (t':=s1.toks) (h':=s1.heap) (by rw[ha];exact True.intro) (.inl rfl) (λb u _ e=>e) ⟨o,q1⟩ (show iJ X.prog X.w _ s1.heap a (.frz o (.dK kvs))from⟨q1,z,aa,vs,rel,o,es,ep,q1,q2,q3,q4⟩);refine⟨s1.heap.objs.size,[s1.heap.objs.size],_,_,_,rfl,I2.kept (t':=s1.toks) λb o e=>z7 _ e,Yd q3,⟨_,zzo _ rfl,rfl,by rw[ac];rfl⟩,λb hb=>?_,q o⟩;obtain rfl:b=s1.heap.objs.size:=by simpa using hb
 exact I2.fpOk (zzc _) (I2.hok.fresh (zzc _))
end
section
variable{K:Fg_}{σ:St}{H:Hp}{R:It->Hp->Prop}{tl:TE}{g:TG}{tb:TS}{D:Ends}{a:Addr}{o:Obj}{kvs:List (Key×V)}
def ap_iKeys:afb tl σ H R=tl σ H λx H1=>∃a kvs,x=.ref a/\H1 a=some (.dK kvs)/\∀o,R (Itk a o kvs) (upd H1 a (.frz o (.dK kvs))):=rfl
def CN.keys(q:Nat->St->Hp->Prop)(h0:q 0 σ H)(hl:∀i σ H,i<=kvs.length->q i σ H->H a=some (.frz o (.dK kvs)))
  (hs:∀(i:Nat)(kv:Key×V) σ H,kvs[i]? =some kv->q i σ H->g (kV kv.1) σ H λσ2 H2=>tb {D with nx:=q (i+1),ct:=q (i+1),bk:=D.nx} σ2 H2) (hd:∀σ H,q kvs.length σ H->D.nx σ H):CN (Itk a o kvs) g tb D σ H:=by
 refine⟨λi m σ H=>m=kvs.length - i/\i<=kvs.length/\q i σ H,⟨kvs.length,by simp,zzB _,h0⟩,?_⟩;rintro i m σ H ⟨rfl,hi,p⟩;have q1:=hl i σ H hi p;by_cases z:i<kvs.length
 ·refine .inr ⟨⟨q1,z⟩,q (i+1),λσ' H' p'=>⟨kvs.length - (i+1),by omega,rfl,z,p'⟩,λv H' y=>?_⟩
  obtain⟨rfl,kv,e1,rfl⟩:=y;exact hs i kv σ _ e1 p
 ·have e:i=kvs.length:=by omega
  subst e;exact .inl ⟨⟨q1,zzc _⟩,hd σ H p⟩
end
end L2
namespace L2
open PySem PySem.W PySem.Spec PySem.Calls PyProof.Rows
section
variable{X:Cx}
def Inv.thaw{pins:List (Addr×Obj)}{σ:St}{H:Hp}{s:Shared}{a:Addr}{o:Obj}{kvs:List (Key×V)}(I:Inv X pins σ H s)(hH:H a=some (.frz o (.dK kvs)))(hn:∀o u,X.H₀ a≠some (.frz o u)):Inv X pins σ (upd H a (.dK kvs)) s:=by
 have ne:∀b,H b=none->b≠a:=λb n z=>by rw[z,hH]at n;cases n
 have nt:∀b xs,H b=some (.tup xs)->b≠a:=λb xs n z=>by rw[z,hH]at n;cases n
 have nw:∀b y,H b=some (.own y)->b≠a:=λb y n z=>by rw[z,hH]at n;cases n
 have aa:∀b ps,H b=some (.tbl ps)->b≠a:=λb y n z=>by rw[z,hH]at n;cases n
 refine⟨I.ok,I.os,I.bare,⟨I.base.keep,I.base.slot,λb ob q n hx=>?_,I.base.there,λb xs q=>?_,λb ob u q=>?_,λb ps q=>?_⟩,I.loc,I.cell,?_,λx c e=>?_,λp hp=>?_,λb u e=>?_,I.len⟩
 ·have h:=I.base.free b ob q n hx;rw[fC (ne b h)];exact h
 ·have h:=I.base.tups b xs q;rw[fC (nt b xs h)];exact h
 ·have h:=I.base.frzs b ob u q;rw[fC (λz:b=a=>hn ob u (by rw[<-z];exact q))];exact h
 ·obtain⟨m,h⟩:=I.base.tbls b ps q;exact⟨m,by rw[fC (aa b _ h)];exact h⟩
 ·rw[fC (ne _ I.free)];exact I.free
 ·rw[fC (ne _ (I.freeC x c e))];exact I.freeC x c e
 ·obtain⟨p1,p2,p3⟩:=I.pin p hp;exact⟨p1,by rw[fC (ne _ p2)];exact p2,p3⟩
 ·by_cases hb:b=a
  ·subst hb
   rw[eX]at e;cases e;obtain⟨_,q⟩:=(show iJ X.prog X.w H s.heap b (.frz o (.dK kvs))from I.hok b _ hH);exact iJ.stay q (λ_ _ _ q=>q) (λc q=>by rw[fC (nw c _ q)];exact q) λc xs q=>by rw[fC (nt c xs q)];exact q
  ·rw[fC hb]at e
   exact(I.hok b u e).stay (λ_ _ _ q=>q) (λc q=>by rw[fC (nw c _ q)];exact q) λc xs q=>by rw[fC (nt c xs q)];exact q
end
end L2
namespace L2
open PySem PySem.Spec PyProof.Rows
section
variable{prog:Program}{w:World}{A:Around}{E:Value->Shared->Prop}{h:Heap}{g:Array GenState}{d:Drawn}{t:Nat}{os:OsState}{a:Addr}{o:Obj}
 {nm q:Str} {C N:Addr} {bs bm bmB:List Value} {hdct:Bool} {sn:List Str} {sub:List Value} {ab:Bool} {col:Option Bool} {dd:Option Addr} {k0 k1 k2 k3 k5:Option Value} {B newId initId:String} {K:Fg_}
end
end L2
namespace L2
open PySem PySem.Spec PyProof.Rows
structure agG(K:Fg_)(C fI:Addr):Prop where
 ex:∃(nm qn:Str)(N:Addr)(bs bm:List Value)(sn:List Str)(sub:List Value)(ab:Bool)(col:Option Bool)(dd:Option Addr)(k0 k1 k2 k3 k5:Option Value),K.lookup C=some (excClassObj nm qn C N bs bm true sn sub ab col dd k0 k1 k2 k3 k5 "ValueError.__new__")/\PySem.W.tailIn K [.type "ValueError",.type "Exception",.type "BaseException",.type "object"] bm=true
 ini:PySem.W.findIn K (.ref C) "__init__" =some (some (.ref fI))
 fn:PySem.W.isFn K (.ref fI)=true
 sa:PySem.W.findIn K (.ref C) "__setattr__" =some (some (.builtin "object.__setattr__"))
 kp:PySem.W.keepIn K (.ref C)=true
section
variable{X:Cx}{CX:CXT}{k:Nat}{f C:Addr}{fd:FuncData}{ps ks:List Str}{sp:Sp}{dvs:List V}{ds:List Value}{E:XK}{x m fn:Str}{p np cpos pos apos:Pos}{e o:Expr}{es:List Expr}{ta tv:TE}{t tk:TA}
structure agM(K:Fg_)(B:Addr):Prop where
 ga:PySem.W.specialIn K (.ref B) "__getattribute__" =some (some (.builtin "type.__getattribute__"))
 rd:PySem.W.readsIn K B (.type "type")=true
 fi:PySem.W.findCls K (.ref B) (.type "type") "__init__" =some (.val (.builtin "ValueError.__init__"))
end
end L2
namespace L2
open PySem PySem.W PySem.Spec PyProof.Rows
section
theorem Wx{xs:Array Nat}{j:Nat}(q:∀a b:Nat,a<b->b<xs.size->xs.getD a j<xs.getD b j):
  ∀f lo hi:Nat,lo<=hi->hi<=xs.size->hi - lo<=f->(∀i,i<lo->xs.getD i j<j)->(∀i,hi<=i->i<xs.size->j<=xs.getD i j)->
   SetTable.below.go xs j f lo hi<=xs.size/\(∀i,i<SetTable.below.go xs j f lo hi->xs.getD i j<j)/\∀i,SetTable.below.go xs j f lo hi<=i->i<xs.size->j<=xs.getD i j
 |0,lo,hi,h1,h2,h3,h4,h5=>by
  have:lo=hi:=by omega
  subst this;exact⟨h2,h4,h5⟩
 |f+1,lo,hi,h1,h2,h3,h4,h5=>by
  unfold SetTable.below.go;split
  ·rename_i aa
   dsimp only;split
   ·rename_i hm
    refine Wx q f _ hi (by omega) h2 (by omega) (λi z=>?_) h5;rcases Nat.lt_or_ge i ((lo+hi)/2)with g|g
    ·exact yyM (q _ _ g (by omega)) hm
    ·rw[show i=(lo+hi)/2 by omega];exact hm
   ·rename_i hm
    refine Wx q f lo _ (by omega) (by omega) (by omega) h4 λi z hs=>?_;rcases Nat.lt_or_ge ((lo+hi)/2) i with g|g
    ·have:=q _ _ g hs;omega
    ·rw[show i=(lo+hi)/2 by omega];omega
  ·rename_i aa
   have:lo=hi:=by omega
   subst this;exact⟨h2,h4,h5⟩
noncomputable def GF(xs:Array Nat):Prop:=xs.toList.Pairwise (·<·)
def GF.get{xs:Array Nat}(h:GF xs)(d:Nat):∀a b:Nat,a<b->b<xs.size->xs.getD a d<xs.getD b d:=λa b h1 h2=>by
 have:=yyt.mp h a b (by simpa using yyM h1 h2) (by simpa using h2) h1
 simpa [Array.getD,h2,yyM h1 h2] using this
def CK{xs:Array Nat}(h:GF xs)(j:Nat):SetTable.below xs j<=xs.size/\(∀i,i<SetTable.below xs j->xs.getD i j<j)/\∀i,SetTable.below xs j<=i->i<xs.size->j<=xs.getD i j:=
 Wx (h.get j) xs.size 0 xs.size (zzB _) (zzc _) (zzc _) (λi hi=>absurd hi (Nat.not_lt_zero _)) λi hi q=>absurd hi (by omega)
def Vy{xs:Array Nat}(h:GF xs)(j:Nat):xs[SetTable.below xs j]? =some j↔j∈xs.toList:=by
 obtain⟨b1,q,b3⟩:=CK h j;constructor
 ·intro e
  rw[<-zzX]at e;exact zzp e
 ·intro hm
  obtain⟨i,hi,e⟩:=zzL hm;have hi':i<xs.size:=by simpa using hi
  have e':xs.getD i j=j:=by simp[Array.getD,hi']at e⊢;exact e
  have:SetTable.below xs j=i:=by
   rcases Nat.lt_trichotomy i (SetTable.below xs j)with g|g|g
   ·have:=q i g;omega
   ·exact g.symm
   ·have z:=b3 _ (zzc _) (yyM g hi')
    have:=h.get j _ _ g hi';omega
  rw[this,zz7 hi']
  simpa using e
def adt{xs:Array Nat}(h:GF xs){j:Nat}(hn:j∉xs.toList):GF (SetTable.insertAt xs (SetTable.below xs j) j):=by
 obtain⟨b1,b2,b3⟩:=CK h j;unfold GF;rw[SetTable.toList_insertAt];have e:xs.toList=xs.toList.take (SetTable.below xs j)++xs.toList.drop (SetTable.below xs j):=(zzN _ _).symm;have h':=h;unfold GF at h';rw[e]at h';obtain⟨p1,p2,p3⟩:=yyf.mp h'
 have f1:∀a∈xs.toList.take (SetTable.below xs j),a<j:=λa ha=>by
  obtain⟨i,hi,e⟩:=zzL ha;rw[zzR]at hi;have q:i<xs.size:=by have:=zzz (xs:=xs);omega
  have:=b2 i (by omega);rw[List.getElem_take]at e;simp[Array.getD,q]at this e;omega
 have f2:∀a∈xs.toList.drop (SetTable.below xs j),j<a:=λa ha=>by
  have ha':=ZD ha;obtain⟨i,hi,e⟩:=zzL ha;rw[yyw]at hi;have q:SetTable.below xs j+i<xs.size:=by have:=zzz (xs:=xs);omega
  have:=b3 (SetTable.below xs j+i) (by omega) q;rw[List.getElem_drop]at e;simp[Array.getD,q]at this e;have aa:a≠j:=λz=>hn (z▸ha');omega
 exact yyf.mpr ⟨p1,yyY.mpr ⟨f2,p2⟩,λa ha b hb=>by
  rcases zzb.mp hb with rfl|hb
  ·exact f1 a ha
  ·exact p3 a ha b hb⟩
theorem qi{α:Type} [DecidableEq α]:∀{l1 l2:List α},l1.Nodup->(∀x∈l1,x∈l2)->l1.length<=l2.length
 |[],_,_,_=>zzB _
 |a::l1,l2,h,hs=>by
  have h':=zzw.mp h;have ha:=hs a zze
  have:=qi (l2:=l2.erase a) h'.2 λx q=>by
   refine(yy9 λe=>?_).mpr (hs x (zzh _ q));exact h'.1 (e▸q)
  rw[yyP ha]at this;have:0<l2.length:=yyZ ha;simp only[zzu];omega
noncomputable def lps(mask:Nat):Nat->Nat×Nat->Nat×Nat
 |0,p=>p
 |m+1,p=>lps mask m (SetTable.leap mask p.1 p.2)
noncomputable def it5(M:Nat):Nat->Nat->Nat
 |0,i=>i
 |m+1,i=>it5 M m ((i*5+1)%M)
noncomputable def mk5(M:Nat):Nat->Nat->Nat->Nat
 |0,_,acc=>acc
 |m+1,i,acc=>mk5 M m ((i*5+1)%M) (acc|||2^i)
theorem VD(M e:Nat):∀m i acc,(mk5 M m i acc).testBit e=true->acc.testBit e=true\/∃k,k<m/\it5 M k i=e
 |0,i,acc,h=> .inl h
 |m+1,i,acc,h=>by
  rcases VD M e m _ _ h with g|⟨k,q,g⟩
  ·rw[Nat.testBit_or,Bool.or_eq_true]at g
   rcases g with g|g
   ·exact .inl g
   ·exact .inr ⟨0,by omega,by rw[Nat.testBit_two_pow]at g;simpa [it5] using g⟩
  ·exact .inr ⟨k+1,by omega,g⟩
def afg:(List.range 8).all (λi=>mk5 8 8 i 0==2^8 - 1)=true:=by decide+kernel
def acI:(List.range 32).all (λi=>mk5 32 32 i 0==2^32 - 1)=true:=by decide+kernel
def aaE:(List.range 128).all (λi=>mk5 128 128 i 0==2^128 - 1)=true:=by decide+kernel
noncomputable def Mk3(mask:Nat):Prop:=mask=7\/mask=31\/mask=127
def agD{mask:Nat}(h:Mk3 mask){i e:Nat}(hi:i<=mask)(he:e<=mask):∃m,m<=mask/\it5 (mask+1) m i=e:=by
 have key:mk5 (mask+1) (mask+1) i 0=2^(mask+1) - 1:=by
  rcases h with rfl|rfl|rfl
  ·exact eq_of_beq (ZB.mp afg i (zzU.mpr (by omega)))
  ·exact eq_of_beq (ZB.mp acI i (zzU.mpr (by omega)))
  ·exact eq_of_beq (ZB.mp aaE i (zzU.mpr (by omega)))
 have q:(mk5 (mask+1) (mask+1) i 0).testBit e=true:=by
  rw[key,Nat.testBit_two_pow_sub_one];exact zzx (by omega)
 rcases VD _ _ _ _ _ q with g|⟨k,z,g⟩
 ·simp at g
 ·exact⟨k,by omega,g⟩
theorem aby{mask:Nat}:∀m (p:Nat×Nat),p.1<=mask->(lps mask m p).1<=mask
 |0,p,h=>h
 |m+1,p,h=>aby m _ (yyB (ZN _ (Ze _)))
theorem Vd{mask:Nat}:∀m (p:Nat×Nat),(lps mask m p).2=p.2/32^m
 |0,p=>by simp[lps]
 |m+1,p=>by
  show(lps mask m _).2=_;rw[Vd m];show p.2/32/32^m=_;rw[Nat.div_div_eq_div_mul,Nat.pow_succ,Nat.mul_comm]
theorem Vo{mask:Nat}:∀a b (p:Nat×Nat),lps mask (a+b) p=lps mask b (lps mask a p)
 |0,b,p=>by rw[Nat.zero_add];rfl
 |a+1,b,p=>by
  rw[show a+1+b=(a+b)+1 by omega];exact Vo a b _
theorem RQ{mask:Nat}:∀m i,(lps mask m (i,0)).1=it5 (mask+1) m i
 |0,i=>rfl
 |m+1,i=>by
  show(lps mask m ((i*5+1+0/32)%(mask+1),0/32)).1=_;rw[Nat.zero_div,Nat.add_zero,RQ m];rfl
def cov{mask:Nat}(h:Mk3 mask){p:Nat×Nat}(h1:p.1<=mask)(h2:p.2<2^64){e:Nat}(z:e<=mask):∃m,m<=mask+13/\(lps mask m p).1=e:=by
 have q:(lps mask 13 p).2=0:=by
  rw[Vd];exact Nat.div_eq_of_lt (zzC h2 (by decide))
 obtain⟨m,hm,e'⟩:=agD h (aby 13 p h1) z;refine⟨13+m,by omega,?_⟩;rw[Vo];have:lps mask 13 p=((lps mask 13 p).1,0):=by rw[<-q]
 rw[this,RQ];exact e'
end
end L2
namespace L2
open PySem PySem.W PySem.Spec PyProof.Rows
section
structure TabOk(t:SetTable)(n:Nat):Prop where
 rise:GF t.place
 dum:t.dummies= #[]
 plain:t.plain=true
 mask:Mk3 t.mask
 le:∀j∈t.place.toList,j<=t.mask
 size:t.place.size=n
theorem TabOk.slot{t:SetTable}{n:Nat}(h:TabOk t n)(j:Nat):(t.slot j=.empty/\j∉t.place.toList)\/∃i,t.slot j=.live i:=by
 unfold SetTable.slot;dsimp only;split
 ·exact .inr ⟨_,rfl⟩
 ·rename_i q
  have hd:SetTable.has t.dummies j=false:=by rw[h.dum];rfl
  rw[hd];exact .inl ⟨rfl,λhm=>q (by rw[(Vy h.rise j).mpr hm];exact beq_self_eq_true _)⟩
theorem TabOk.empty{t:SetTable}{n:Nat}(h:TabOk t n){j:Nat}(q:j∉t.place.toList):t.slot j=.empty:=by
 rcases h.slot j with g|⟨i,g⟩
 ·exact g.1
 ·exfalso
  unfold SetTable.slot at g;dsimp only at g;split at g
  ·rename_i e
   exact q ((Vy h.rise j).mp (eq_of_beq e))
  ·rw[show SetTable.has t.dummies j=false by rw[h.dum];rfl]at g
   exact absurd g (by simp)
def TabOk.room{t:SetTable}{n:Nat}(h:TabOk t n)(hn:n<=t.mask):∃e,e<=t.mask/\e∉t.place.toList:=by
 refine Classical.byContradiction λhc=>?_;have q:∀e∈List.range (t.mask+1),e∈t.place.toList:=λe he=>Classical.byContradiction λz=>hc ⟨e,yyB (zzU.mp he),z⟩;have:=qi List.nodup_range q;rw[ZV,zzz,h.size]at this;omega
def WX(mask i:Nat):SetTable.runEnd mask i - i<=9/\(i<=mask->i+(SetTable.runEnd mask i - i)<=mask):=by
 unfold SetTable.runEnd;split<;>omega
theorem TabOk.probe{t:SetTable}{n:Nat}(q:TabOk t n)(h:Int):
  ∀(f r:Nat) (p:SetTable.Probe),p.dummy=none->p.j+p.more<=t.mask->p.i<=t.mask->10*r+p.more+1<=f->
   (t.slot p.j=.empty\/∃m,m<r/\t.slot (lps t.mask (m+1) (p.i,p.perturb)).1=.empty)->
   ∃j,SetTable.probe.go t (λ_=>h+1) h f p=some (.empty j none)/\j<=t.mask/\j∉t.place.toList
 |0,r,p,_,_,_,hf,_=>absurd hf (by omega)
 |f+1,r,p,hd,hj,hi,hf,he=>by
  unfold SetTable.probe.go;rcases q.slot p.j with⟨e,hn⟩|⟨i,e⟩
  ·rw[e]
   exact⟨p.j,by rw[hd],by omega,hn⟩
  ·rw[e]at he⊢
   have he':∃m,m<r/\t.slot (lps t.mask (m+1) (p.i,p.perturb)).1=.empty:=he.elim (λz=>absurd z (by simp)) id;have hb:(h+1==h)=false:=by rw[beq_eq_false_iff_ne];omega
   dsimp only;rw[hb];simp only[yyx,if_false];unfold SetTable.advance;split
   ·rename_i hm
    exact TabOk.probe q h f r {p with j:=p.j+1,more:=p.more - 1} hd (by show p.j+1+(p.more - 1)<=_;omega) hi (by show 10*r+(p.more - 1)+1<=f;omega) (.inr he')
   ·rename_i hm
    obtain⟨m,aa,e'⟩:=he';have hr:=WX t.mask (SetTable.leap t.mask p.i p.perturb).1;have hl:(SetTable.leap t.mask p.i p.perturb).1<=t.mask:=yyB (ZN _ (Ze _));refine TabOk.probe q h f (r - 1) ⟨(SetTable.leap t.mask p.i p.perturb).1,SetTable.runEnd t.mask (SetTable.leap t.mask p.i p.perturb).1 - (SetTable.leap t.mask p.i p.perturb).1,(SetTable.leap t.mask p.i p.perturb).1,(SetTable.leap t.mask p.i p.perturb).2,p.dummy⟩ hd (hr.2 hl) hl ?_ ?_
    ·have:=hr.1
     show 10*(r - 1)+(SetTable.runEnd t.mask (SetTable.leap t.mask p.i p.perturb).1 - (SetTable.leap t.mask p.i p.perturb).1)+1<=f;omega
    ·cases m with
     |zero=>exact .inl e'
     |succ m=>exact .inr ⟨m,by omega,e'⟩
def WM(h:Int):SetTable.bits h<2^64:=by
 unfold SetTable.bits;have:=zzT h (show(0:Int)<2^64 by decide);have:=zz0 h (show(2^64:Int)≠0 by decide);omega
def TabOk.free{t:SetTable}{n:Nat}(q:TabOk t n)(hn:n<=t.mask)(h:Int):∃j,t.freeSlot h=some (j,false)/\j<=t.mask/\j∉t.place.toList:=by
 obtain⟨e,he,hz⟩:=q.room hn;have hi:SetTable.bits h%(t.mask+1)<=t.mask:=yyB (ZN _ (Ze _));obtain⟨m,hm,em⟩:=cov q.mask (p:=(SetTable.bits h%(t.mask+1),SetTable.bits h)) hi (WM h) he;have z:=WX t.mask (SetTable.bits h%(t.mask+1))
 obtain ⟨j,g1,g2,g3⟩:=q.probe h (10*SetTable.turns t.mask) (t.mask+13) (t.probeStart h) rfl (z.2 hi) hi (by
  show 10*(t.mask+13)+(SetTable.runEnd t.mask (SetTable.bits h%(t.mask+1)) - SetTable.bits h%(t.mask+1))+1<=10*(t.mask+15);have:=z.1;omega) (by
  cases m with
  |zero=>exact .inl (q.empty (by rw[show(t.probeStart h).j=e from em];exact hz))
  | succ m=>exact .inr ⟨m,by omega,q.empty (by
    show(lps t.mask (m+1) (SetTable.bits h%(t.mask+1),SetTable.bits h)).1∉_;rw[em];exact hz)⟩)
 refine⟨j,?_,g2,g3⟩;unfold SetTable.freeSlot SetTable.probe;rw[g1];rfl
def TabOk.lay{t:SetTable}{es:Array (Int×Value)}(q:TabOk t es.size)(hn:es.size<t.mask)(h:Int)(x:Value):
  ∃z t',layNew t es h x=(z,t',false,false)/\TabOk t' (es.size+1)/\z.size=es.size+1/\t'.led=t.led/\t'.mask=t.mask:=by
 obtain⟨j,g1,g2,g3⟩:=q.free (Zc hn) h;have hd:SetTable.has t.dummies j=false:=by rw[q.dum];rfl
 have hsz:(SetTable.insertAt t.place (SetTable.below t.place j) j).size=es.size+1:=by
  rw[<-zzz,(SetTable.insertAt_perm _ _ _).length_eq,zzz,Yb4,q.size]
 have aa:(SetTable.insertAt es (SetTable.below t.place j) (h,x)).size=es.size+1:=by
  rw[<-zzz,(SetTable.insertAt_perm _ _ _).length_eq,zzz,Yb4]
 have hf:SetTable.fits {t with place:=SetTable.insertAt t.place (SetTable.below t.place j) j} (es.size+1)=true:=by
  unfold SetTable.fits SetTable.fill;simp only[Ya4,beq_iff_eq,decide_eq_true_eq];exact⟨hsz,by rw[hsz,q.dum];show es.size+1+0<=_;omega⟩
 have hp:t.put j=({t with place:=SetTable.insertAt t.place (SetTable.below t.place j) j},SetTable.below t.place j):=by
  unfold SetTable.put;rw[hd];rfl
 refine⟨SetTable.insertAt es (SetTable.below t.place j) (h,x),{t with place:=SetTable.insertAt t.place (SetTable.below t.place j) j},?_,⟨adt q.rise g3,q.dum,q.plain,q.mask,λi hi=>?_,hsz⟩,aa,rfl,rfl⟩
 ·unfold layNew
  rw[g1];dsimp only;rw[hp];dsimp only;rw[aa,hf];unfold SetTable.orStandIn;rw[hf];rfl
 ·have:=(SetTable.insertAt_perm t.place (SetTable.below t.place j) j).mem_iff.mp hi
  rw[ZW]at this;rcases zzs.mp this with g|g
  ·exact q.le i g
  ·rw[z9.mp g];exact g2
theorem Wh:∀(l:List (Option Nat))(j k:Nat),l[j]? =some none->List.Perm ((l.set j (some k)).filterMap id) (k::l.filterMap id)
 |[],j,k,h=>by simp at h
 |a::l,0,k,h=>by
  simp at h;subst h;simp
 |a::l,j+1,k,h=>by
  rw[Zo]at h;have q:=Wh l j k h;rw[List.set_cons_succ]
  cases a with
  |none=>simpa using q
  |some b=>
   have e:∀z:List (Option Nat),(some b::z).filterMap id=b::z.filterMap id:=λz=>by simp
   rw[e,e];exact(q.cons b).trans (List.Perm.swap k b _)
theorem QS:∀(l:List (Option Nat)),(∀j:Nat,l[j]? ≠some none)->(l.filterMap id).length=l.length
 |[],_=>rfl
 |a::l,h=>by
  cases a with
  |none=>exact absurd rfl (h 0)
  |some b=>
   have e:(some b::l).filterMap id=b::l.filterMap id:=by simp
   rw[e,zzu,zzu,QS l λj q=>h (j+1) (by rw[Zo];exact q)]
theorem Rq{mask:Nat}{owner:Array (Option Nat)}(hs:owner.size=mask+1):
  ∀(f:Nat) (p:Nat×Nat),p.1<=mask->(∃m,m<f/\owner[(lps mask m p).1]? =some none)->
   ∃j,SetTable.layClean.free mask owner f p.1 p.2=some j/\owner[j]? =some none
 |0,p,_,⟨m,hm,_⟩=>absurd hm (Nat.not_lt_zero _)
 |f+1,p,hp,⟨m,hm,e⟩=>by
  unfold SetTable.layClean.free
  cases hf:(List.range (SetTable.runEnd mask p.1+1 - p.1)).find? λk=>(owner.getD (p.1+k) (some 0)).isNone with
  |some k=>
   have h1:=List.find?_some hf;have h2:=zzU.mp (List.mem_of_find?_eq_some hf);have hr:=WX mask p.1;have ab:=hr.2 hp;have q:p.1+k<owner.size:=by rw[hs];omega
   refine⟨p.1+k,rfl,?_⟩;simp[Array.getD,q]at h1;rw[zz7 q,h1]
  |none=>
   have aa:=List.find?_eq_none.mp hf
   have h0:owner[p.1]? ≠some none:=λz=>by
    have:=aa 0 (zzU.mpr (by unfold SetTable.runEnd;split<;>omega));obtain⟨q,z'⟩:=Za.mp z;exact this (by simp[Array.getD,q,z'])
   cases m with
   |zero=>exact absurd e h0
   |succ m=>exact Rq hs f (SetTable.leap mask p.1 p.2) (yyB (ZN _ (Ze _))) ⟨m,by omega,e⟩
theorem Ry{mask:Nat}(hm:Mk3 mask):∀(hs:List Int)(owner:Array (Option Nat))(k:Nat),owner.size=mask+1->List.Perm (owner.toList.filterMap id) (List.range k)->k+hs.length<=mask->
  ∃ q,hs.foldl (init:=some (owner,k)) (λacc h=>do
    let(owner,k)<-acc
    let j<-SetTable.layClean.free mask owner (SetTable.turns mask) (SetTable.bits h%(mask+1)) (SetTable.bits h)
    pure (owner.setIfInBounds j (some k),k+1))=some (q,k+hs.length)/\q.size=mask+1/\List.Perm (q.toList.filterMap id) (List.range (k+hs.length))
 |[],owner,k,h1,h2,h3=>⟨owner,rfl,h1,h2⟩
 |h::hs,owner,k,h1,h2,h3=>by
  rw[zzu]at h3;have hi:SetTable.bits h%(mask+1)<=mask:=yyB (ZN _ (Ze _))
  obtain ⟨e,he,hz⟩:∃e,e<=mask/\owner[e]? =some none:=by
   refine Classical.byContradiction λhc=>?_
   have:=QS owner.toList λj z=>by
    rw[zzX]at z;obtain⟨hk,_⟩:=Za.mp z;exact hc ⟨j,by omega,z⟩
   rw[h2.length_eq,ZV,zzz,h1]at this;omega
  obtain⟨m,aa,em⟩:=cov hm (p:=(SetTable.bits h%(mask+1),SetTable.bits h)) hi (WM h) he;obtain⟨j,g1,g2⟩:=Rq h1 (SetTable.turns mask) (SetTable.bits h%(mask+1),SetTable.bits h) hi ⟨m,by show m<mask+15;omega,by rw[em];exact hz⟩;obtain⟨z,_⟩:=Za.mp g2
  obtain ⟨q,e1,e2,e3⟩:=Ry hm hs (owner.setIfInBounds j (some k)) (k+1) (by rw[Array.size_setIfInBounds];exact h1) (by
   rw[Array.toList_setIfInBounds];refine(Wh _ _ _ (by rw[zzX];exact g2)).trans ((h2.cons k).trans ?_);rw[Yb5];exact(ZO k _).symm) (by omega)
  refine⟨q,?_,e2,?_⟩
  ·rw[yyi,zzu,show k+(hs.length+1)=k+1+hs.length by omega,<-e1]
   dsimp only[Bind.bind,Option.bind];have g1':SetTable.layClean.free mask owner (SetTable.turns mask) (SetTable.bits h%(mask+1)) (SetTable.bits h)=some j:=g1;rw[g1'];rfl
  ·rw[zzu,show k+(hs.length+1)=k+1+hs.length by omega];exact e3
def acy{mask:Nat}(hm:Mk3 mask)(fi mo:Nat)(ac:Bool)(hs:Array Int)(hn:hs.size<=mask):
  ∃t aa,SetTable.laid mask fi mo ac true hs=some (t,aa)/\TabOk t hs.size/\List.Perm aa.toList (List.range hs.size)/\t.led=ac/\t.mask=mask:=by
 obtain ⟨ow,e1,e2,e3⟩:=Ry hm hs.toList (Array.replicate (mask+1) none) 0 (by simp) (by
  rw[Array.toList_replicate,show List.range 0=[]from rfl]
  have:∀n:Nat,(List.replicate n (none:Option Nat)).filterMap id=[]:=λn=>by induction n with
   |zero=>rfl
   |succ n ih=>rw[List.replicate_succ,List.filterMap_cons_none rfl,ih]
  rw[this]) (by simpa using hn)
 rw[Nat.zero_add,zzz]at e3
 have af:SetTable.layClean mask hs=some ow:=by
  unfold SetTable.layClean;rw[<-Array.foldl_toList];rw[e1];rfl
 have ab:((List.range (mask+1)).filterMap λj=>(ow.getD j none).map (j,·)).map (·.2)=ow.toList.filterMap id:=by
  rw[List.map_filterMap]
  have hl:ow.toList=(List.range (mask+1)).map λj=>ow.getD j none:=by
   refine yyU (by simp[e2]) λi h1 h2=>?_;have:i<ow.size:=by simpa using h1
   simp[Array.getD,this]
  rw[hl,List.filterMap_map];refine congrArg (λf=>List.filterMap f _) (funext λj=>?_);show((ow.getD j none).map (j,·)).map (·.2)=id (ow.getD j none);generalize ow.getD j none=z;cases z<;>rfl
 have ad:((List.range (mask+1)).filterMap λj=>(ow.getD j none).map (j,·)).length=hs.size:=by
  rw[<-z0 (f:=(·.2)),ab,e3.length_eq,ZV]
 refine⟨_,_,by unfold SetTable.laid;rw[af];rfl,⟨?_,rfl,rfl,hm,?_,?_⟩,?_,rfl,rfl⟩
 ·unfold GF
  show List.Pairwise (·<·) (List.map (·.1) ((List.range (mask+1)).filterMap λj=>(ow.getD j none).map (j,·)));rw[yyk,List.pairwise_filterMap];refine List.Pairwise.imp ?_ List.pairwise_lt_range;intro a b ae c hc d hd;simp at hc hd;obtain⟨_,_,rfl⟩:=hc;obtain⟨_,_,rfl⟩:=hd;exact ae
 ·intro j hj
  have hj':j∈((List.range (mask+1)).filterMap λj=>(ow.getD j none).map (j,·)).map (·.1):=hj;obtain⟨q,hq,rfl⟩:=z3.mp hj';obtain⟨a,ha,hb⟩:=yyH.mp hq;simp at hb;obtain⟨_,_,rfl⟩:=hb;exact yyB (zzU.mp ha)
 ·show(List.toArray (List.map (·.1) ((List.range (mask+1)).filterMap λj=>(ow.getD j none).map (j,·)))).size=_
  rw[zzf,z0,ad]
 ·show List.Perm (List.map (·.2) ((List.range (mask+1)).filterMap λj=>(ow.getD j none).map (j,·))) _
  rw[ab];exact e3
def TabOk.relay{t:SetTable}{es:Array (Int×Value)}(ht:TabOk t es.size)(hn:es.size*5<t.mask*3+5)(hm:es.size<=60)(ab:t.tooFull=true):
  ∃z t',relayAll t es (SetTable.grown es.size)=(z,t',false)/\TabOk t' es.size/\z.size=es.size/\t'.led=t.led/\es.size*5<t'.mask*3:=by
 have ad:es.size*5>=t.mask*3:=by
  have:=ab;unfold SetTable.tooFull SetTable.fill at this;rw[ht.size,ht.dum]at this
  simpa using this
 have hg:SetTable.grown es.size=es.size*4:=by unfold SetTable.grown;rw[z4 (by omega)]
 obtain ⟨M,hM,h1,h2,h3⟩:∃M,SetTable.sizeAbove (SetTable.grown es.size) - 1=M/\Mk3 M/\es.size<=M/\es.size*5<M*3:=by
  rw[hg];rcases ht.mask with e|e|e<;>rw[e]at hn ad
  ·have:es.size=5:=by omega
   rw[this];exact⟨31,by decide,.inr (.inl rfl),by omega,by omega⟩
  ·have:es.size=19:=by omega
   rw[this];exact⟨127,by decide,.inr (.inr rfl),by omega,by omega⟩
  ·omega
 have hsz:(es.map (·.1)).size=es.size:=Array.size_map ..;obtain⟨t',q,e1,e2,e3,e4,e5⟩:=acy h1 t.finger (t.movedTo M) t.led (es.map (·.1)) (by rw[hsz];exact h2);rw[hsz]at e2 e3
 have ac:t.relaid (es.map (·.1)) (SetTable.grown es.size)=some (t',q):=by
  unfold SetTable.relaid;rw[hM,ht.plain];exact e1
 have aa:(q.filterMap (es[·]?)).size=es.size:=by
  rw[<-zzz,Array.toList_filterMap,(e3.filterMap _).length_eq,filterMap_getElem?_range,zzz]
 have hc:coversAll q es.size=true:=List.isPerm_iff.mpr e3
 have hf:t'.fits (q.filterMap (es[·]?)).size=true:=by
  unfold SetTable.fits SetTable.fill;rw[aa,e2.size,e2.dum,e5];simp only[beq_self_eq_true,Bool.true_and,decide_eq_true_eq];exact h2
 refine⟨q.filterMap (es[·]?),t',?_,e2,aa,e4,by rw[e5];exact h3⟩;unfold relayAll;rw[ac];dsimp only;rw[hc,hf];rfl
end
end L2
namespace L2
open PySem PySem.W PySem.Spec PyProof.Rows
section
variable{prog:Program}{w:World}{A:Around}{E:Value->Shared->Prop}{s:Shared}
noncomputable def Qj(prog:Program)(w:World)(es:Array (Int×Value))(t:SetTable)(ns:List Int):Prop:=
 ElemsOf (intKind prog w) es.toList/\TabOk t es.size/\es.size*5<t.mask*3/\t.led=!w.params.followText "set-order" /\∃ms,IntsAre (es.toList.map (·.2)) ms/\ms.Perm ns
noncomputable def SetT(prog:Program)(w:World)(h:Heap)(a:Addr)(ns:List Int):Prop:=
 ∃o es ep t,h.get? a=some o/\o.ExactSet/\o.data=.set es ep t/\Qj prog w es t ns
def TabOk.fit{t:SetTable}{n:Nat}(h:TabOk t n)(hn:n<=t.mask):t.fits n=true:=by
 unfold SetTable.fits SetTable.fill;rw[h.size,h.dum];simp only[beq_self_eq_true,Bool.true_and,decide_eq_true_eq];exact hn
theorem QD{k:Int}:∀{l:List (Int×Value)}{ms:List Int},IntsAre (l.map (·.2)) ms->(k∈ms↔∃e∈l,(intKind prog w).is k e.2=true)
 |[],_,.nil=>by simp
 |e::l,_,h=>by
  generalize hz:(e::l).map (·.2)=z at h
  cases h with
  |nil=>simp at hz
  |cons n t hr=>
   rw[z6,List.cons.injEq]at hz;obtain⟨h1,h2⟩:=hz;rw[<-h2]at hr;have ih:=QD (k:=k) hr;rw[zzb,ih];constructor
   ·rintro(rfl|⟨e',he,q⟩)
    ·exact⟨e,zze,by rw[h1];exact intKind_is _ _ _ _⟩
    ·exact⟨e',zzh _ he,q⟩
   ·rintro⟨e',he,q⟩
    rcases zzb.mp he with rfl|he
    ·rw[h1]at q
     exact .inl ((intKind prog w).inj _ _ _ q (intKind_is _ _ _ _))
    ·exact .inr ⟨e',he,q⟩
def MF:∀{us z:List Value},List.Perm us z->∀{ms:List Int},IntsAre us ms->∃q,IntsAre z q/\q.Perm ms:=by
 intro us z p
 induction p with
 |nil=>intro ms h;cases h;exact⟨[],.nil,.nil⟩
 |cons x _ ih=>
  intro ms h
  cases h with
  |cons n t hr=>
   obtain⟨q,h1,h2⟩:=ih hr;exact⟨_,.cons n t h1,h2.cons n⟩
 |swap x y l=>
  intro ms h
  cases h with
  |cons n t hr=>
   cases hr with
   |cons n' t' hr'=>exact⟨_,.cons _ _ (.cons _ _ hr'),.swap _ _ _⟩
 |trans _ _ i1 i2=>
  intro ms h;obtain⟨m1,h1,p1⟩:=i1 h;obtain⟨m2,h2,p2⟩:=i2 h1;exact⟨m2,h2,p2.trans p1⟩
theorem ints_snoc:∀{us:List Value}{ms:List Int}(k:Int)(t:Tok),IntsAre us ms->IntsAre (us++[.int k t]) (ms++[k])
 |_,_,k,t,.nil=> .cons k t .nil
 |_,_,k,t,.cons n t' hr=> .cons n t' (ints_snoc k t hr)
def Vm{es:Array (Int×Value)}{t:SetTable}{ns:List Int}{k:Int}{tk:Tok}(h:Qj prog w es t ns)(hk:k∉ns){q:Array (Int×Value)}{t':SetTable}
  (hp:List.Perm q.toList (es.push ((intKind prog w).hash k,.int k tk)).toList) (ht:TabOk t' q.size) (hl:t'.led=t.led) (hf:q.size*5<t'.mask*3):Qj prog w q t' (ns++[k]):=by
 obtain⟨h1,h2,h3,h4,ms,h5,h6⟩:=h;rw[ZW]at hp;obtain⟨z,g1,g2⟩:=MF ((hp.map (·.2)).symm) (by rw[zza];exact ints_snoc k tk h5);exact⟨(h1.push (intKind_is _ _ _ _) rfl).perm hp,ht,hf,by rw[hl];exact h4,z,g1,g2.trans (h6.append_right _)⟩
def aaZ{a:Addr}{o:Obj}{es:Array (Int×Value)}{ep:Nat}{t:SetTable}(z:s.heap.get? a=some o)(hd:o.data=.set es ep t)(q:Array (Int×Value))(t':SetTable):
  (s.heap.update a (Obj.putSet q t')).get? a=some {o with data:=.set q (ep+1) t'}:=by
 have:=yy5 (Obj.putSet q t') z (by rw[putSet_of q t' hd];rfl);rw[putSet_of q t' hd]at this;exact this
def add_int{a:Addr}{ns:List Int}{k:Int}{tk:Tok}{Q:Bool->Shared->Prop}(hS:SetT prog w s.heap a ns)(hn:ns.length<60)
  (h:∀b h',Heap.SameBut a s.heap h'->SetT prog w h' a (step_dedup ns k)->Q b {s with heap:=h'}):
  wpAny (model prog w) A (setAddHashed a (.int k tk) ((intKind prog w).hash k)) Q E s:=by
 obtain⟨o,es,ep,t,ho,af,hd,hT⟩:=hS;obtain⟨ai,hok,aw,ax,ms,al,ak⟩:=id hT
 have hz:es.size=ns.length:=by
  rw[<-ak.length_eq,<-IntsAre.length al,z0,zzz]
 have hb:es.size<scanBound:=by show es.size<4096;omega
 unfold setAddHashed setAddHashedIn;refine yyp (z5 (Zy ho hd (hok.fit (by omega)) ?_));dsimp only;rw[byScan_of rfl hb ai];simp only[↓reduceIte];unfold setAddByScan;refine z5 (z5 (wpAny_rule (z5 (wpAny_setScan_of (intKind_is _ _ _ _) ho hd (hok.fit (by omega)) ai ?_))));have ac:k∈ns↔∃e∈es.toList,(intKind prog w).is k e.2=true:=ak.mem_iff.symm.trans (QD al)
 cases hr:List.findIdx? (λe=>(intKind prog w).is k e.2) es.toList with
 |some j=>
  obtain⟨hj,ap,_⟩:=List.findIdx?_eq_some_iff_getElem.mp hr;have hk:k∈ns:=ac.mpr ⟨es.toList[j],yya hj,ap⟩;have e:step_dedup ns k=ns:=by unfold step_dedup;exact z8 (zzZ.mpr ⟨k,hk,by simp⟩)
  exact zzi (zzi (h _ s.heap (Heap.SameBut.refl a s.heap) ⟨o,es,ep,t,ho,af,hd,by rw[e];exact hT⟩))
 |none=>
  have hk:k∉ns:=λhk=>by
   obtain⟨e,he,hp⟩:=ac.mp hk;exact absurd hp (by rw[List.findIdx?_eq_none_iff.mp hr e he];exact zzG)
  have e:step_dedup ns k=ns++[k]:=by
   unfold step_dedup;refine z4 λhz=>?_;obtain⟨x,hx,ex⟩:=zzZ.mp hz;have:x=k:=by simpa using ex
   exact hk (this▸hx)
  rw[e]at h;have q:=layNew_perm t es ((intKind prog w).hash k) (.int k tk);obtain⟨aa,t1,eL,ab,ao,ah,av⟩:=hok.lay (by omega) ((intKind prog w).hash k) (.int k tk);dsimp only;rw[eL]at q⊢;dsimp only at q⊢;rw[<-ao]at ab;refine z5 (zzi (a:=()) ?_);rw[ab.plain];simp only[↓reduceIte];refine z5 ?_;rw[hashByValue_scannable 8 rfl];refine zzi ?_;simp only[plainKind,↓reduceIte,Bool.not_false,Bool.true_and];refine z5 (wpAny_storeSet_of ho hd ?_ (fits_of_scanBound (by show aa.size<4096;omega)));have ae:=aaZ ho hd aa t1;have an:=yyT s.heap a (Obj.putSet aa t1);split
  ·rename_i z
   have ad:=relayAll_perm t1 aa (SetTable.grown aa.size);obtain⟨ag,t2,eR,am,au,ar,aj⟩:=ab.relay (by rw[av];omega) (by omega) z;rw[eR]at ad⊢;dsimp only at ad⊢;rw[<-au]at am aj;refine z5 (zzi (a:=()) ?_);refine z5 (wpAny_storeSet_of ae rfl ?_ (fits_of_scanBound (by show ag.size<4096;omega)));have as:=aaZ (s:={s with heap:=s.heap.update a (Obj.putSet aa t1)}) ae rfl ag t2;exact zzi (zzi (h _ _ (an.trans (yyT _ a _)) ⟨_,ag,_,t2,as,af,rfl,Vm hT hk (ad.trans q) am (ar.trans ah) aj⟩))
  ·rename_i z
   have aq:aa.size*5<t1.mask*3:=by
    unfold SetTable.tooFull SetTable.fill at z;rw[ab.size,ab.dum]at z
    simpa using z
   exact zzi (zzi (h _ _ an ⟨_,aa,_,t1,ae,af,rfl,Vm hT hk q ab ah aq⟩))
end
end L2
namespace L2
open PySem PySem.W PySem.Spec PyProof.Rows
section
variable{prog:Program}{w:World}{A:Around}{E:Value->Shared->Prop}{s:Shared}
abbrev UJ(w:World):Obj:={cls:=.type "set",dict:=none,data:=.set #[] 0 (.fresh 0 0 (!w.params.followText "set-order"))}
def SetT.moved{h h':Heap}{a:Addr}{ns:List Int}(x:SetT prog w h a ns)(e:∀o,h.get? a=some o->h'.get? a=some o):SetT prog w h' a ns:=
 let⟨o,es,ep,t,ho,r⟩:=x;⟨o,es,ep,t,e _ ho,r⟩
def Yo{h:Heap}{a:Addr}(ho:h.get? a=some (UJ w)):SetT prog w h a []:=by
 refine⟨_, #[],0,_,ho,⟨rfl,rfl,rfl⟩,rfl,⟨λe z=>absurd z (by simp),⟨List.Pairwise.nil,rfl,rfl,.inl rfl,λj q=>absurd q (by simp[SetTable.fresh]),rfl⟩,(by show 0*5<7*3;decide),rfl,[],.nil,.nil⟩⟩
variable{R:Result->Shared->Prop}{I:Addr}{fp wr:List Addr}{G:Array GenState->Array GenState->Prop}{n:Nat}{P:Nat->Value->Prop}{St:Nat->Shared->Prop}
def Yy(W:WalksS prog w A.in1 I fp wr G n P St)(S:Addr)(hf:S∉fp)(q:Nat->Int)(ab:∀i v,P i v->∃t,v=.int (q i) t)(hn:n<60):
  ∀(k i:Nat) (s:Shared),n=i+k->St i s->SetT prog w s.heap S (firstMet q i)->
   (∀s',Moved (S::wr) G s s'->SetT prog w s'.heap S (firstMet q n)->R (.ok (.ret .none)) s')->
   codeAny (model prog w) A (.builtin "set.update.loop" ⟨[.ref S,.ref I],[]⟩) R s:=by
 have hw:S∉wr:=λz=>hf (W.sub _ z);have hs:∀b∈wr,b∈S::wr:=λb z=>zzh _ z;intro k
 induction k with
 |zero=>
  intro i s hk st hS hR;rw[Nat.add_zero]at hk;rw[<-hk]at st hS;refine codeAny_builtin F.entry_set_update_loop ?_;rw[Around.under_plainId F.plain_set_update_loop _];refine z5 (m:=pyNext (.ref I)) (W.done s _ _ st λs' z=>?_);exact zzi (hR s' (z.mono hs) (hS.moved λo=>z.heap S o hw))
 |succ k ih=>
  intro i s hk st hS hR;refine codeAny_builtin F.entry_set_update_loop ?_;rw[Around.under_plainId F.plain_set_update_loop _];refine z5 (m:=pyNext (.ref I)) (W.item i s _ _ (by omega) st λv s' hP ac z=>?_);obtain⟨t,rfl⟩:=ab i v hP;refine z5 (m:=holding [Value.int (q i) t] (setAdd S (.int (q i) t))) (yyp ?_);unfold setAdd;refine yyp (z5 ((intKind prog w).pyHash (k:=q i) (intKind_is _ _ _ _) ?_));have hl:=firstMet_length_le q i;refine add_int (s:={s' with toks:=s'.toks+1}) (hS.moved λo=>z.heap S o hw) (by omega) λb h' sb aa=>?_;rw[<-firstMet_succ]at aa;refine zzi ⟨plainId_quiet F.plain_set_update_loop _,ih (i+1) _ (by omega) (W.frame _ s' _ _ ac (yyE _) λc hc o e=>?_) aa λs2 z2 ad=>?_⟩
  ·rw[sb.2 c (λz:c=S=>hf (z▸hc))];exact e
  ·refine hR s2 (Moved.trans W.gtrans ((z.mono hs).then_heap (yyE _) λc o hc e=>?_) z2) ad
   rw[sb.2 c (λz:c=S=>hc (z▸zze))];exact e
def aaw(a:Value){Q:Value->Shared->Prop}(h:Q (.ref s.heap.objs.size) {s with heap:=s.heap.push (UJ w)}):
  codeAny (model prog w) A (.call (.builtin "set.__new__") ⟨[.type "set",a],[]⟩) (wants Q E) s:=by
 refine codeAny_of_tree (z5 (m:=checkBuiltinCall "set.__new__" ⟨[.type "set",a],[]⟩) (wpAny_of_eq (PySem.F.newCall_set_1 a) (zzi ⟨plainId_quiet PySem.F.plain_set_new _,codeAny_builtin PySem.F.entry_set_new ?_⟩)));rw[Around.under_plainId PySem.F.plain_set_new _];unfold Builtin.«set.__new__» Builtin.Frozenset.newClass;have q:=sub_set_self;obtain⟨z,g,d,tk,os⟩:=s;dsimp only
 wp_walk
 refine Zf (zzi ?_);simp only[newObj];refine z5 (wpAny_alloc (zzi (zzi ?_)));exact h
set_option maxHeartbeats 3200000 in
def Xk{l:Addr}{items:Array Value}{ns:List Int}{Q:Value->Shared->Prop}(hh:A.handled=none)(hl:s.heap.IsList l items)(hi:IntsAre items.toList ns)(hb:items.size<60)
  (h:∀(h':Heap)(tk:Nat),SetT prog w h' s.heap.objs.size (firstMet (λi=>ns.getD i 0) items.size)->(∀b o,s.heap.get? b=some o->h'.get? b=some o)->Q (.ref s.heap.objs.size) {s with heap:=h',toks:=tk}):
  wpAny (model prog w) A (call (.type "set") [.ref l]) Q E s:=by
 obtain⟨c,tl,ai⟩:=PySem.F.called_set.mro;have ag:=PySem.F.called_set.made;have ah:=PySem.F.called_set.sub;refine ZR (codeAny_of_tree ?_);show wpAny _ _ (callAny (.type "set") _) _ _ _;refine zzi ⟨Code.quiet_builtin _ (by decide+kernel),codeAny_builtin PySem.F.entry_type_call ?_⟩;rw[Around.under_plain (weight_type_call_type "set" [.ref l] []) rfl];have f1:=PySem.F.called_set.notType;have f2:=PySem.F.called_set.canCreate;have f3:=PySem.F.typeCall_set_1 (.ref l)
 repeat (any_goals (first|assumption|wp_step))
 refine codeAny_mono (aaw (.ref l) (E:=E) (Q:=λobj s1=>obj=.ref s.heap.objs.size/\s1={s with heap:=s.heap.push (UJ w)}) ⟨rfl,rfl⟩) λr s1 hr=>?_
 cases r with
 |error e=>exact hr
 |ok fl=>?_
 cases fl
 case ret obj=>
  obtain⟨rfl,rfl⟩:=hr;have g0:(s.heap.push (UJ w)).get? s.heap.objs.size=some (UJ w):=zzo _ rfl;have hT:Shared.TypeIs {s with heap:=s.heap.push (UJ w)} (.ref s.heap.objs.size) "set" :=⟨_,g0,rfl⟩;have f4:=PySem.F.called_set.init.lookup;have f5:=PySem.F.called_set.init.bind (.ref s.heap.objs.size)
  repeat (any_goals (first|assumption|wp_step))
  refine codeAny_mono (codeAny_call_builtin (R:=wants (λr s2=>r=.none/\∃h' tk,s2={s with heap:=h',toks:=tk}/\SetT prog w h' s.heap.objs.size (firstMet (λi=>ns.getD i 0) items.size)/\∀b o,s.heap.get? b=some o->h'.get? b=some o) E)
   PySem.F.called_set.init.plain PySem.F.entry_set_init (check_set_init_1 hT ?_)) λr2 s2 q=>?_
  ·obtain⟨ol,ae,ab,nl,ac⟩:=id hl
   obtain⟨q1,q2,q3,q4⟩:=ol;simp only at ab ac;subst ab;subst ac;have hol':(s.heap.push (UJ w)).get? l=some {cls:=.type "list",dict:=q2,data:=.seq items nl,slots:=q4}:=z7 _ ae;have f6:=PySem.F.sub_list_set;have f7:=PySem.F.sub_list_frozenset;have f8:(Value.type "list" ==Value.type "dict")=false:=by decide
   have aa:(s.heap.push (UJ w)).IsList l items:=⟨_,hol',rfl,nl,rfl⟩;unfold Builtin.«set.__init__» noKeywords Builtin.Frozenset.updateFrom;generalize af:pyIter=PI
   wp_walk
   subst af;refine yyN aa (z5 (wpAny_runValue ?_));have ad:l<s.heap.objs.size:=zzn ae;have hz:(s.heap.push (UJ w)).objs.size=s.heap.objs.size+1:=Zq ..;have h3:A.in1.in1.in1.handled=none:=by simp[hh]
   refine Yy ((Walks.list h3 _ l (by show l≠(s.heap.push (UJ w)).objs.size;rw[hz];exact zzv (ZX ad)) items).toS) s.heap.objs.size (by show _∉[(s.heap.push (UJ w)).objs.size,l];rw[hz];simp only[zzb,zzd,or_false,not_or];exact⟨zzv (ZA _),yyy ad⟩) (λi=>ns.getD i 0)
    (λi v hv=>IntsAre.int_at hi i v (by rw[zzX];exact hv)) hb items.size 0 _ (by omega) ⟨⟨_,zzo _ rfl,rfl,rfl⟩,aa.push _⟩ (Yo (z7 _ g0)) λs' z hS=>?_
   refine zzi (zzi ⟨rfl,s'.heap,s'.toks,(Moved.eq_with z).trans rfl,hS,λb o e=>?_⟩);have:=zzn e;exact z.heap b o (by show b∉[s.heap.objs.size,(s.heap.push (UJ w)).objs.size];rw[hz];simp only[zzb,zzd,or_false,not_or];exact⟨zzv this,zzv (ZX this)⟩) (z7 _ (z7 _ e))
  ·cases r2 with
   |error e=>exact q
   |ok fl2=>?_
   cases fl2
   case ret r=>
    obtain⟨rfl,h',tk,rfl,hS,hk⟩:=q
    repeat (any_goals (first|assumption|wp_step))
    exact h _ _ hS hk
   all_goals exact q.elim
 all_goals exact hr.elim
end
end L2
namespace L2
open PySem PySem.W PySem.Spec PyProof.Rows
section
def Jt:Slot "set_iterator" "__next__" "set_iterator.__next__" :=
 .of (owner:= "set_iterator") (n:= "__next__") (by rw[typeLookup_type,builtinLookup_eq_fast];kernel_rfl) (by decide+kernel) (by decide+kernel) (by decide+kernel) (by first|exact .inl (by decide+kernel)|exact .inr (by decide+kernel)) (by rw[isSubtype_type];kernel_rfl)
def WP:Slot "set_iterator" "__iter__" "set_iterator.__iter__" :=
 .of (owner:= "set_iterator") (n:= "__iter__") (by rw[typeLookup_type,builtinLookup_eq_fast];kernel_rfl) (by decide+kernel) (by decide+kernel) (by decide+kernel) (by first|exact .inl (by decide+kernel)|exact .inr (by decide+kernel)) (by rw[isSubtype_type];kernel_rfl)
def acT:entryFor table "set_iterator.__next__" =some Builtin.«set_iterator.__next__»:=entryFor_of_tree (by kernel_rfl)
def acw:entryFor table "set_iterator.__iter__" =some Builtin.«dict_keyiterator.__iter__»:=entryFor_alias (id':= "dict_keyiterator.__iter__") (by kernel_rfl) rfl (by decide+kernel) (by kernel_rfl)
def acQ:entryFor table "set.__iter__" =some Builtin.«frozenset.__iter__»:=entryFor_alias (id':= "frozenset.__iter__") (by kernel_rfl) rfl (by decide+kernel) (by kernel_rfl)
def RJ:Manifest.owners.lookup (String.ofList "rotareti_tes".toList.reverse)=some Manifest.sig_set_iterator:=by kernel_rfl
def adG(a:Value):argsOk "set_iterator.__next__" ⟨[a],[]⟩:=by
 unfold argsOk;rw[signature?_of (id:= "set_iterator.__next__") (n:= "__txen__".toList) (o:= "rotareti_tes".toList) (by kernel_rfl) RJ];kernel_rfl
def acG(a:Value):argsOk "set_iterator.__iter__" ⟨[a],[]⟩:=by
 unfold argsOk;rw[signature?_of (id:= "set_iterator.__iter__") (n:= "__reti__".toList) (o:= "rotareti_tes".toList) (by kernel_rfl) RJ];kernel_rfl
variable{prog:Program}{w:World}{A:Around}{E:Value->Shared->Prop}{s:Shared}
theorem nD{α:Type}:∀(l:List α)(i:Nat)(h:i<l.length),List.Perm (l[i]::l.eraseIdx i) l
 |a::l,0,h=>by simp
 |a::l,i+1,h=>by
  have q:=nD l i (by simpa using h);rw[List.eraseIdx_cons_succ,List.getElem_cons_succ];exact(List.Perm.swap a _ _).trans (q.cons a)
theorem Mx{α:Type}(nx:Nat->Nat):∀(f k:Nat)(left:List α)(out:Array α),f=left.length->List.Perm (pickOrder.go nx f k left out).toList (out.toList++left)
 |0,k,left,out,h=>by
  have:left=[]:=yyV.mp h.symm;subst this;simp[pickOrder.go]
 |f+1,k,left,out,h=>by
  unfold pickOrder.go;have q:nx k%left.length<left.length:=ZN _ (by omega);rw[zzg q];refine(Mx nx f (k+1) _ _ (by rw[List.length_eraseIdx_of_lt q];omega)).trans ?_;rw[ZW,yy6];exact List.Perm.append_left _ (nD left _ q)
noncomputable def walkV(w:World)(a:Addr)(ep:Nat)(es:Array (Int×Value)):List Value:=
 if w.params.followText "set-order" =true then(pickOrder (w.params.setOrder a ep) es).toList.map (·.2)else es.toList.map (·.2)
def walkV_perm(a:Addr)(ep:Nat)(es:Array (Int×Value)):List.Perm (walkV w a ep es) (es.toList.map (·.2)):=by
 unfold walkV;split
 ·refine List.Perm.map _ ?_
  have:=Mx (w.params.setOrder a ep) es.size 0 es.toList #[] (by simp)
  simpa [pickOrder] using this
 ·exact .rfl
noncomputable def SIt(h:Heap)(it a:Addr)(sl i n ep:Nat):Prop:=∃o,h.get? it=some o/\o.cls=.type "set_iterator" /\o.data=.fields #[.int sl 0,.int i 0,.ref a,.int n 0,.int ep 0]
def SIt.ty{it a:Addr}{sl i n ep:Nat}(x:SIt s.heap it a sl i n ep):s.TypeIs (.ref it) "set_iterator" :=let⟨o,ho,hc,_⟩:=x;⟨o,ho,hc⟩
def YS{a:Addr}{o:Obj}{es:Array (Int×Value)}{ep:Nat}{t:SetTable}{ns:List Int}{sl i:Nat}{Q:Option (Value×Nat)->Shared->Prop}
  (ho:s.heap.get? a=some o) (hd:o.data=.set es ep t) (hT:Qj prog w es t ns) (ag:w.params.followText "set-order" =false->SetTable.below t.place sl=i)
  (h1:∀v ad,(walkV w a ep es)[i]? =some v->(w.params.followText "set-order" =false->SetTable.below t.place ad=i+1)->Q (some (v,ad)) s)
  (h2:(walkV w a ep es)[i]? =none->Q none s):wpAny (model prog w) A (setNext a sl i ep) Q E s:=by
 obtain⟨ai,hok,ah,ab,_⟩:=hT;have q:=hok.fit (show es.size<=t.mask by omega);unfold setNext setsByText;refine z5 (Zy ho hd q ?_);dsimp only;refine z5 (z5 (Zf (zzi ?_)));show wpAny _ _ (if w.params.followText "set-order" =true then _ else _) _ _ _
 cases hb:w.params.followText "set-order" with
 |true=>
  rw[z8 rfl,z4 (by simp)];unfold setWalk setsByText;refine z5 (z5 (Zy ho hd q ?_));dsimp only;refine z5 (z5 (Zf (zzi ?_)));show wpAny _ _ (if w.params.followText "set-order" =true then _ else _) _ _ _;rw[z8 hb];refine z5 (Zf (zzi (zzi ?_)));have hw:walkV w a ep es=(pickOrder (w.params.setOrder a ep) es).toList.map (·.2):=z8 hb;rw[hw]at h1 h2;show Q (((pickOrder (w.params.setOrder a ep) es)[i]?).map λe=>(e.2,sl)) s
  cases he:(pickOrder (w.params.setOrder a ep) es)[i]? with
  |none=>exact h2 (by simp[he])
  |some e=>exact h1 _ _ (by simp[he]) (λz=>by rw[hb]at z;exact absurd z (by simp))
 |false=>
  rw[z4 (by simp)];have ae:(!t.plain && decide (es.size>1))=false:=by rw[hok.plain];rfl
  have af:t.led=true:=by rw[ab,hb];rfl
  have hw:walkV w a ep es=es.toList.map (·.2):=z4 (by rw[hb];simp);rw[hw]at h1 h2;have hi:=ag hb;show wpAny _ _ (if(!t.plain && decide (es.size>1))=true then _ else _) _ _ _;rw[ae,z4 (by simp)];refine z5 ?_;show wpAny _ _ (if(!t.led && !es.isEmpty)=true then _ else _) _ _ _;rw[af,z4 (by simp)];refine zzi ?_;rw[hi];rcases Nat.lt_or_ge i es.size with aa|ac
  ·have hp:i<t.place.size:=by rw[hok.size];exact aa
   rw[zz7 aa,zz7 hp];refine zzi (h1 _ _ (by simp[aa]) λ_=>?_);obtain⟨b1,b2,b3⟩:=CK hok.rise (t.place[i]+1);have hg:t.place.getD i (t.place[i]+1)=t.place[i]:=by simp[Array.getD,hp]
   rcases Nat.lt_trichotomy (SetTable.below t.place (t.place[i]+1)) (i+1)with g|g|g
   ·have:=b3 i (by omega) hp
    omega
   ·exact g
   ·have z:=b2 (i+1) g
    have:=hok.rise.get (t.place[i]+1) i (i+1) (by omega) (by omega);omega
  ·rw[Array.getElem?_eq_none ac]
   exact zzi (h2 (by simp[ac]))
end
end L2
namespace L2
open PySem PySem.W PySem.Spec PyProof.Rows
section
variable{prog:Program}{w:World}{A:Around}{E:Value->Shared->Prop}{s:Shared}
def Wd{h:Heap}{it a:Addr}{sl i n ep:Nat}{o:Obj}(z:h.get? it=some o)(q:o.cls=.type "set_iterator") (hd:o.data=.fields #[.int sl 0,.int i 0,.ref a,.int n 0,.int ep 0]) (k:Nat) (x:Value):
  ∃o',(h.update it (Obj.mapFields (·.setIfInBounds k x))).get? it=some o'/\o'.cls=.type "set_iterator" /\o'.data=.fields (#[Value.int sl 0,.int i 0,.ref a,.int n 0,.int ep 0].setIfInBounds k x):=
 ⟨_,yy5 _ z (Obj.isFreed_of_fields (Obj.data_mapFields hd _)),(Obj.cls_mapFields ..).trans q,Obj.data_mapFields hd _⟩
def Rk{it a:Addr}{o:Obj}{es:Array (Int×Value)}{ep:Nat}{t:SetTable}{ns:List Int}{sl i:Nat}{Q:Option Value->Shared->Prop}(hh:A.handled=none)(ab:SIt s.heap it a sl i es.size ep)
  (ho:s.heap.get? a=some o) (hd:o.data=.set es ep t) (hT:Qj prog w es t ns) (ae:w.params.followText "set-order" =false->SetTable.below t.place sl=i)
  (h1:∀v q h',(walkV w a ep es)[i]? =some v->(w.params.followText "set-order" =false->SetTable.below t.place q=i+1)->SIt h' it a q (i+1) es.size ep->Heap.SameBut it s.heap h'->Q (some v) {s with heap:=h'})
  (h2:∀h',(walkV w a ep es)[i]? =none->Heap.ExtBut it s.heap h'->Q none {s with heap:=h'}):wpAny (model prog w) A (pyNext (.ref it)) Q E s:=by
 obtain⟨oi,aa,ad,z⟩:=id ab;have hok:=hT.2.1;have af:=hT.2.2.1;have ac:=hok.fit (show es.size<=t.mask by omega);unfold pyNext;refine z5 (wpAny_attempt (wpAny_callSpecial?_slot (name:=Str.ofString "__next__") ab.ty Jt (yyG Jt ab.ty acT ?_ (adG _))));unfold Builtin.«set_iterator.__next__»;refine z5 (zzi ?_);refine z5 (wpAny_fieldsOf aa z ?_);dsimp only;refine z5 (wpAny_setEntries_of ho hd ac ?_);rw[z4 (by simp)];simp only[yyA];refine z5 (YS ho hd hT ae (λv q e1 e2=>?_) λe1=>?_)
 ·dsimp only
  obtain⟨o1,g1,g2,g3⟩:=Wd aa ad z 0 (rawInt q);refine z5 (wpAny_setField aa z (by simp) ?_);have g3':o1.data=.fields #[.int q 0,.int i 0,.ref a,.int es.size 0,.int ep 0]:=by rw[g3];rfl
  obtain⟨o2,k1,k2,k3⟩:=Wd (h:=s.heap.update it (Obj.mapFields (·.setIfInBounds 0 (rawInt q)))) g1 g2 g3' 1 (rawInt ((i:Int)+1));refine z5 (wpAny_setField g1 g3' (by simp) ?_);refine zzi ⟨v,rfl,zzi (h1 v q _ e1 e2 ⟨o2,k1,k2,by rw[k3];simp[rawInt]⟩ ((yyT ..).trans (yyT ..)))⟩
 ·dsimp only
  refine z5 (wpAny_setField aa z (by simp) ?_);refine z5 (m:=newExc (.type "StopIteration") []) ?_;simp only[newExc,newTuple];refine z5 (Zw ?_ (by size_fits));refine z5 (m:=firstArgMember _ _) (wpAny_of_eq (a:=Value.none) (by first|rfl|(simp only[firstArgMember];rfl)) ?_);refine Zw ?_ (by size_fits);simp only[raiseNew];refine z5 (wpAny_handled ?_);rw[show A.in1.handled=none from hh];refine z5 (zzi (wpAny_throw ?_));refine z5 (Ya7 (T:= "StopIteration") (b:=true) ⟨_,zzo _ rfl,rfl⟩ isSubtype_stop ?_);exact zzi (h2 _ e1 (((yyT ..).extBut.push _).push _))
def Yu{a:Addr}{o:Obj}{es:Array (Int×Value)}{ep:Nat}{t:SetTable}{ns:List Int}{Q:Value->Shared->Prop}(ho:s.heap.get? a=some o)(hx:o.ExactSet)(hd:o.data=.set es ep t)(hT:Qj prog w es t ns)
  (h:Q (.ref s.heap.objs.size) {s with heap:=s.heap.push {cls:=.type "set_iterator",data:=.fields #[.int 0 0,.int 0 0,.ref a,.int es.size 0,.int ep 0]}}):wpAny (model prog w) A (pyIter (.ref a)) Q E s:=by
 have hok:=hT.2.1;have ab:=hT.2.2.1;have q:=hok.fit (show es.size<=t.mask by omega);have z:s.TypeIs (.ref a) "set" :=⟨o,ho,hx.1⟩;refine yy7 z PySem.F.slot_set_iter (yyG PySem.F.slot_set_iter z acQ ?_ (PySem.F.args_set_iter_1 _));unfold Builtin.«frozenset.__iter__»;refine z5 (m:=Builtin.Frozenset.slot0 "__iter__" ⟨[.ref a],[]⟩) (zzi (a:=a) ?_);refine z5 ?_;unfold Builtin.Frozenset.sizeOf;refine z5 (wpAny_setEntries_of ho hd q (zzi ?_));refine z5 ?_;unfold setDrawn setsByText;refine z5 (Zy ho hd q ?_);dsimp only;refine z5 (z5 (Zf (zzi ?_)));refine zzi ?_;have aa:(!t.plain && decide (es.size>1))=false:=by rw[hok.plain];rfl
 show wpAny _ _ (if(!w.params.followText "set-order" && (!t.plain && decide (es.size>1)))=true then _ else _) _ _ _;rw[aa,Zr,z4 (by simp)];refine z5 (zzi ?_);refine z5 (wpAny_setEpoch_of ho hd q ?_);refine z5 (m:=newFields "set_iterator" _) (Zw (zzi ⟨_,rfl, "set_iterator",_,⟨_,zzo _ rfl,rfl⟩,Jt.lookup,?_⟩))
 simpa [rawInt] using h
def aaR{r:Addr}{Q:Bool->Shared->Prop}(hT:s.TypeIs (.ref r) "set") (h:Q false s):wpAny (model prog w) A (Builtin.List.listLengthHint (.ref r)) Q E s:=by
 unfold Builtin.List.listLengthHint;refine z5 (ZI hT PySem.F.slot_set_len.lookup ?_);generalize q:("set.__len__" :String)=aa
 wp_delta
 rw[show splitId aa=some ("set", "__len__")from by subst q;decide+kernel];subst q;refine z5 (Ya7 (T:= "set") (b:=true) hT sub_set_self (wpAny_ite_split (λz=>absurd z (by decide)) λ_=>?_));exact wpAny_ite_split (λ_=>z5 (Yb2 hT (zzi h))) λz=>absurd (by decide+kernel) z
def acg{a:Addr}{o:Obj}{es:Array (Int×Value)}{ep:Nat}{t:SetTable}{ns:List Int}(hx:o.ExactSet)(hd:o.data=.set es ep t)(hT:Qj prog w es t ns):
  KdlSrc prog w "set" a a (walkV w a ep es).length (λi v=>(walkV w a ep es)[i]? =some v) (λh=>h.get? a=some o) where
 type:=λ_ q=>⟨o,q,hx.1⟩
 there:=λ_ q=>⟨zzn q,zzn q⟩
 keep:=λ_ _ q hk=>hk a (.inl rfl) o q
 notList:=by decide
 notTuple:=by decide
 hint:=λ_ _ _ _ q hq=>aaR ⟨o,q,hx.1⟩ hq
 iter:=λA s hh q=>by
  have ab:a≠s.heap.objs.size:=zzv (zzn q);have hz:(walkV w a ep es).length=es.size:=by rw[(walkV_perm a ep es).length_eq,z0,zzz]
  refine⟨_,λi h=>(∃sl,SIt h s.heap.objs.size a sl i es.size ep/\(w.params.followText "set-order" =false->SetTable.below t.place sl=i))/\h.get? a=some o,λE Q hq=>Yu q hx hd hT hq,?_,?_⟩
  ·exact {
    sub:=λb hb=>by simp at hb;simp[hb]
    frame:=λi h h' st hk=>by
     obtain⟨⟨sl,⟨oi,e1,e2⟩,e3⟩,e4⟩:=st;exact⟨⟨sl,⟨oi,hk _ (by simp) _ e1,e2⟩,e3⟩,hk _ (by simp) _ e4⟩
    item:=λi s' Q E hi st hQ=>by
     obtain⟨⟨sl,e1,e3⟩,e4⟩:=st;refine Rk hh e1 e4 hd hT e3 (λv aa h' g1 g2 g3 g4=>?_) λh' g1 g2=>?_
     ·exact hQ v h' s'.toks g1 ⟨⟨aa,g3,g2⟩,(g4.2 a ab)▸e4⟩ λb o' hb e=>by rw[g4.2 b (λz=>hb (by simp[z]))];exact e
     ·rw[zzg hi]at g1
      exact absurd g1 (by simp)
    done:=λs' Q E st hQ=>by
     obtain⟨⟨sl,e1,e3⟩,e4⟩:=st;refine Rk hh e1 e4 hd hT e3 (λv aa h' g1 g2 g3 g4=>?_) λh' g1 g2=>?_
     ·rw[yyc (zzc _)]at g1
      exact absurd g1 (by simp)
     ·exact hQ h' s'.toks λb o' hb e=>g2 b o' (λz=>hb (by simp[z])) e
    self:=λi s' Q E st hQ=>by
     obtain⟨⟨sl,e1,e3⟩,e4⟩:=st;refine yy7 e1.ty WP (yyG WP e1.ty acw ?_ (acG _));exact zzi ⟨_,rfl, "set_iterator",_,e1.ty,Jt.lookup,hQ⟩}
  ·refine⟨⟨0,⟨_,zzo _ rfl,rfl,rfl⟩,λ_=>?_⟩,z7 _ q⟩
   obtain⟨b1,b2,b3⟩:=CK hT.2.1.rise 0
   cases hb:SetTable.below t.place 0 with
   |zero=>rfl
   |succ k=>exact absurd (b2 0 (by omega)) (by omega)
def Us{a:Addr}{ns:List Int}{Q:Value->Shared->Prop}(hh:A.handled=none)(hS:SetT prog w s.heap a ns)(hn:ns.length<64)
  (h:∀(h':Heap)(tk:Nat)(D:Addr)(out:List Value)(ms:List Int)(c:Nat),(∀b o,s.heap.get? b=some o->h'.get? b=some o)->a<D->h'.get? D=some (seqObj "list" out.toArray c)->IntsAre out ms->ms.Perm ns->ms.Pairwise (·<=·)->Q (.ref D) {s with heap:=h',toks:=tk}):
  wpAny (model prog w) A (call (.builtin "sorted") [.ref a]) Q E s:=by
 obtain⟨o,es,ep,t,ho,hx,hd,hT⟩:=hS;obtain⟨_,_,_,_,ms,ae,ac⟩:=id hT;obtain⟨ag,ad,aa⟩:=MF (walkV_perm (w:=w) a ep es).symm ae;have hz:(walkV w a ep es).length=ns.length:=by rw[IntsAre.length ad,aa.length_eq,ac.length_eq]
 refine Calls.call_function_entry kind_sorted plain_sorted entry_sorted (args_sorted1 _) ?_;unfold Builtin.«sorted»;refine z5 (m:=checkCount "sorted" 1 1 _) (zzi ?_);refine z5 (kdu_collect (A:=A.in1) (acg hx hd hT) hh ho (by rw[hz,zzk];omega) λh' tk acc hk q=>?_)
 have ha:acc.toList=walkV w a ep es:=by
  refine Zt λi=>?_
  cases e:acc.toList[i]? with
  |some v=>exact(q.2 i v (by rw[<-zzX];exact e)).symm
  |none=>
   rw[List.getElem?_eq_none_iff,zzz,q.1]at e;exact(yyc e).symm
 rw[ha];refine z5 (Ya2 ?_ (by rw[hz,zzk];omega));have z:(h'.push (seqObj "list" (walkV w a ep es).toArray 0)).get? h'.objs.size=some (seqObj "list" (walkV w a ep es).toArray 0):=zzo _ rfl;refine z5 (yyp (yyG slot_list_sort ⟨_,z,rfl⟩ entry_list_sort (list_sort_tree (n:=0) z ad (by omega) λout af a1 a2 a3=>⟨_,rfl,?_⟩) (args_list_sort _)));obtain⟨c,hc⟩:=sortedHeap_at (out:=out) z;refine zzi ⟨_,rfl,h _ tk h'.objs.size out.toList af c (λb o' e=>?_) ?_ (by rw[yy8];exact hc) a1 (a2.trans (aa.trans ac)) a3⟩
 ·have ab:=zzn (hk b o' e)
  rw[sortedHeap_old (zzv ab) (by rw[size_push'];exact ZX ab)];exact z7 _ (hk b o' e)
 ·exact zzn (hk a o ho)
end
end L2
namespace L2
open PySem PySem.W PySem.Spec PyProof.Rows
section
variable{X:Cx}
theorem abP:∀(ns acc:List Int)(x:Int),x∈ns.foldl step_dedup acc↔x∈acc\/x∈ns
 |[],acc,x=>by simp
 |n::ns,acc,x=>by
  rw[yyi,abP ns,zzb]
  have:x∈step_dedup acc n↔x∈acc\/x=n:=by
   unfold step_dedup;split
   ·rename_i h
    obtain⟨y,q,ey⟩:=zzZ.mp h;have e:y=n:=by simpa using ey
    exact⟨.inl,λz=>z.elim id λz=>z▸e▸q⟩
   ·rw[zzs,z9]
  rw[this];constructor
  ·rintro((h|h)|h)
   ·exact .inl h
   ·exact .inr (.inl h)
   ·exact .inr (.inr h)
  ·rintro(h|h|h)
   ·exact .inl (.inl h)
   ·exact .inl (.inr h)
   ·exact .inr h
theorem QT:∀(ns acc:List Int),acc.Nodup->(ns.foldl step_dedup acc).Nodup
 |[],acc,h=>h
 |n::ns,acc,h=>by
  rw[yyi];refine QT ns _ ?_;unfold step_dedup;split
  ·exact h
  ·rename_i z
   refine zzS.mpr ⟨h,by simp,λa ha b q=>?_⟩;rw[z9]at q;subst q;intro e;subst e;exact z (zzZ.mpr ⟨a,ha,by simp⟩)
noncomputable def rSS(K:Fg_):List V->Hp->VK->Prop:=λxs H Q=>∃(a:Addr)(ns:List Int),xs=[.ref a]/\SqL K H a (ns.map V.int)/\ns.length<60/\
 ∀p (ms:List Int),H p=none->(∀x,x∈ms↔x∈ns)->(ms.Pairwise λx y=>x<y)->ms.length<=ns.length->Q (.ref p) (upd H p (.lst (ms.map V.int)))
def TJ{K:Fg_}{e:Expr}{t:TA}{p p2 pos aa:Pos}(hc:X.calm=true)(ak:Gl X "sorted") (al:X.mg "sorted" =none) (ad:bootBuiltins "sorted" =some (.builtin "sorted")) (ai:Gl X "set") (af:X.mg "set" =none) (ae:bootBuiltins "set" =some (.type "set")) (ha:PA X [e] t)
  (hK:X.K=K:=by rfl) (he:starEach [e] X.env=(false,eval e X.env)::starEach [] X.env:=by rfl) (he1:starEach [.Call (.Name "set" p2) [e] [] aa] X.env=(false,eval (.Call (.Name "set" p2) [e] [] aa) X.env)::starEach [] X.env:=by rfl):
  PE X (.Call (.Name "sorted" p) [.Call (.Name "set" p2) [e] [] aa] [] pos) (tCB (rSS K) t):=by
 subst hK;intro pins s σ H Q I h;refine zz2 (oX I ak al ad ?_ (by decide) (by decide));refine PyProof.Rows.callWith_builtin1 (rest:=[]) ?_ he1 (by rfl);rw[he1];show wpAny _ _ (spliced ((false,eval (.Call (.Name "set" p2) [e] [] aa) X.env)::backTo pos (starEach [] X.env))) _ _ s;refine Calls.spliced_cons (zz2 (oX I ai af ae ?_ (by decide) (by decide)));refine PyProof.Rows.callWith_type1 (thn (ha aa pins s σ H _ I h) λus s1 ⟨vs,H1,I1,r1,q1⟩=>?_) he (by rfl);obtain⟨a,ns,rfl,hq,hl,q⟩:=q1;obtain⟨u,rfl,rx⟩:=vals1 r1;cases rx;obtain⟨its,rv,pl,hz⟩:=I1.list hq;have hi:IntsAre its ns:=intsAre_of rv;have l1:=rv.length;rw[z0]at l1;refine Xk (I1.ok.hd hc) pl.isList hi (by rw[zzf,<-l1];exact hl) λh' tk hS hk=>?_;rw[show its.toArray.size=ns.length by rw[zzf,l1]]at hS;unfold firstMet at hS;rw[ade]at hS;have ab:=XF ns [];rw[yyJ,Nat.zero_add]at ab;refine Calls.spliced_nil ?_;refine Us (s:={s1 with heap:=h',toks:=tk}) (I1.ok.hd hc) hS (by omega) λh2 ah D out ms c k2 hD hg aj hp hs=>?_;have ag:ms.Nodup:=hp.nodup_iff.mpr (QT ns [] List.nodup_nil);have ac:ms.length<=ns.length:=by rw[hp.length_eq];exact ab
 refine⟨.ref D,_,I1.laid (t':=ah) (o:=.lst (ms.map V.int)) (λb o e=>k2 b o (hk b o e)) (Zc hD) ?_,rfl,q _ _ (I1.hok.fresh (Zc hD)) (λx=>?_) ?_ ac⟩
 ·refine⟨by rw[z0,zzk];omega,out,c,nC aj,hg⟩
 ·rw[hp.mem_iff,abP]
  simp
 ·refine(hs.and ag).imp fun{x y} z=>?_
  have:=z.1;have:=z.2;omega
def ap_rSS{K:Fg_}{a:Addr}{H:Hp}{Q:VK}:rSS K [.ref a] H Q=∃(ns:List Int),SqL K H a (ns.map V.int)/\ns.length<60/\
 ∀p (ms:List Int),H p=none->(∀x,x∈ms↔x∈ns)->(ms.Pairwise λx y=>x<y)->ms.length<=ns.length->Q (.ref p) (upd H p (.lst (ms.map V.int))):=by simp[rSS]
end
end L2
namespace L2
open PySem PySem.W PySem.Spec PyProof.Rows
section
variable{X:Cx}{K:Fg_}{a:Addr}{kvs:List (Key×V)}{pins:List (Addr×Obj)}{σ:St}{H:Hp}{s:Shared}
def Ud{t:TS}{z aa:List Stmt}{x:Option Expr}{n:Option Str}{ab pos:Pos}(h:PSs X.nox z t):PS X.nox (.Try z [.ExceptHandler x n aa ab] [] [] pos) t:=by
 intro pins s σ H D I hw;refine wpAny_Try_except (yyg (h pins s σ H D I hw) (λf s1 q=>?_) λev s' hx=>hx.elim)
 cases f with
 |next=>exact Zj q
 |brk=>exact q
 |cont=>exact q
 |ret u=>exact q
variable{td ty:TE}{Q:VK}{w:World}
end
end L2
namespace HT
open PySem PyProof.Rows
noncomputable def lexLe:List Int->List Int->Bool
 |[],_=>true
 |_::_,[]=>false
 |x::xs,y::ys=>if x=y then lexLe xs ys else decide (x<=y)
def aaK(A:Around)(s:Shared)(a:Int)(t:Tok)(c:Int)(u:Tok)(prog:Program)(w:World)(E:Value->Shared->Prop)(Q:Value->Shared->Prop)(h:Q (.bool (decide (a<=c))) s):
  wpAny (model prog w) A (richCompare .LtE (.int a t) (.int c u)) Q E s:=
 (PyProof.Rows.le_int h:wpAny (model prog w) A (compareOp .LtE (.int a t) (.int c u)) Q E s)
section
open PySem.SeqAt
open PySem.AutoSeq1 (wpAny_loadPart')
open PySem.MeetsSeq PySem.MeetsSeq2 PySem.MeetsSeq3
def Io(l b:Addr)(xa xb:Array Value)(na nb:Nat)(da db:Option Addr)(sa sb:Array (Option Value))(ns ms:List Int)(hi:IntsAre xa.toList ns)(hj:IntsAre xb.toList ms):
  Meets (Builtin.«tuple.__le__» ⟨[.ref l,.ref b],[]⟩)
   (λ_ R s=>s.heap.get? l=some {cls:=.type "tuple",dict:=da,data:=.seq xa na,slots:=sa}/\s.heap.get? b=some {cls:=.type "tuple",dict:=db,data:=.seq xb nb,slots:=sb}/\
    R (.ok (.ret (.bool (lexLe ns ms)))) s):=
 .of_wp λprog w A R s h=>by
  obtain⟨hp,g,d,tk,os⟩:=s;obtain⟨hl,hb,h⟩:=h;have f2:=AutoSeq1.sub_tuple_tuple;have z1:xa.size=ns.length:=by rw[<-hi.length];simp
  have z2:xb.size=ms.length:=by rw[<-hj.length];simp
  wp_walk using wpAny_loadPart' hl,wpAny_loadPart' hb,wpAny_forIn_list _ (λrest b s'=>b.1=none/\s'=⟨hp,g,d,tk,os⟩/\∃(vs ws:List Value)(np mp:List Int),rest=vs.zip ws/\
   IntsAre vs np/\IntsAre ws mp/\np.length+xb.size=mp.length+xa.size/\R (.ok (.ret (.bool (lexLe np mp)))) ⟨hp,g,d,tk,os⟩) _
  case turn=>
   rintro⟨y,x⟩ rest b s'⟨ac,rfl,vs,ws,np,mp,hz,ad,ab,z,hR⟩
   cases ad with
   |nil=>rw[List.zip_nil_left]at hz;cases hz
   |cons a t hvi'=>cases ab with
    |nil=>rw[List.zip_nil_right]at hz;cases hz
    |cons c u hwi'=>
     rw[ZM]at hz;injection hz with hyx hrest
     injection hyx with hy hx
     subst hy hx;unfold lexLe at hR;simp only[zzu]at z;obtain⟨e,he,aa⟩:=aaN A.in1 ⟨hp,g,d,tk,os⟩ a t c u;refine z5 (he prog w _ _ ?_)
     cases e with
     |true=>
      rw[z8 (aa.mp rfl)]at hR
      wp_walk
      exact⟨rfl,rfl,_,_,_,_,hrest,hvi',hwi',by omega,hR⟩
     |false=>
      rw[z4 (λq=>absurd (aa.mpr q) zzG)]at hR;have ae:=aaK A.in1 ⟨hp,g,d,tk,os⟩ a t c u prog w
      wp_walk using ae
      exact⟨_,rfl,by simpa using hR⟩
  case fin=>
   rintro⟨b1,b2⟩ s'⟨ac,rfl,vs,ws,np,mp,hz,ad,ab,z,hR⟩;simp only at ac;subst ac
   have hv:lexLe np mp=decide (xa.size<=xb.size):=by
    cases ad with
    |nil=>
     simp only[yyJ]at z;unfold lexLe;exact(zzx (by omega)).symm
    |cons a t hv=>cases ab with
     |nil=>
      simp only[yyJ,zzu]at z;unfold lexLe;exact(zzH (by omega)).symm
     |cons c u hw=>rw[ZM]at hz;cases hz
   rw[hv]at hR
   wp_walk
   exact⟨_,rfl,by simpa [Builtin.Tuple.tupleCompareSizes] using hR⟩
  case h=>exact⟨rfl,rfl,xa.toList,xb.toList,ns,ms,rfl,hi,hj,by omega,h⟩
end
section
variable{prog:Program}{w:World}{A:Around}{E:Value->Shared->Prop}{s:Shared}
def le_tupInts{l b:Addr}{xa xb:Array Value}{ns ms:List Int}{Q:Value->Shared->Prop}(hl:IsTup s.heap l xa)(hb:IsTup s.heap b xb)(hi:IntsAre xa.toList ns)(hj:IntsAre xb.toList ms)(hu:A.units<cLine)
  (h:Q (.bool (lexLe ns ms)) s):wpAny (model prog w) A (compareOp .LtE (.ref l) (.ref b)) Q E s:=by
 obtain⟨⟨cls,dd,data,sl⟩,ho,hc,n,hd⟩:=id hl;obtain⟨⟨ae,ac,ab,ad⟩,q,aa,n2,z⟩:=id hb;simp only at hc hd aa z;subst hc hd aa z
 exact richCompare_meets_room (op:=.LtE) ⟨_,ho,rfl⟩ ⟨_,q,rfl⟩ PySem.F.slot_tuple_le PySem.F.entry_tuple_le (PySem.F.args_tuple_le_2 _ _) (Io l b xa xb n n2 dd ac sl ad ns ms hi hj)
  ⟨ho,q,show Value.bool (lexLe ns ms)≠Value.notImplemented/\Q (.bool (lexLe ns ms)) s from⟨(λx=>nomatch x),h⟩⟩ hu
end
end HT
namespace L2
open PySem PySem.W PySem.Spec PySem.Calls PyProof.Rows
section
variable{X:Cx}
noncomputable def agH(K:Fg_):R2:=λx y H Q=>∃a b ns ms,x=.ref a/\y=.ref b/\SqT K H a (ns.map V.int)/\SqT K H b (ms.map V.int)/\Q (.bl (HT.lexLe ns ms)) H
def abX{K:Fg_}{k:Nat}(hr:lq k X.A)(hK:X.K=K:=by rfl):OpR X (compareOp .LtE) (agH K):=by
 subst hK;intro pins s σ H x y v u Q I rx ry h;obtain⟨a,b,ns,ms,rfl,rfl,ha,hb,q⟩:=h;cases rx;cases ry;obtain⟨its,r1,p1,_⟩:=I.tuple ha;obtain⟨z,r2,p2,_⟩:=I.tuple hb;exact HT.le_tupInts p1 p2 (show IntsAre its.toArray.toList ns from intsAre_of r1) (show IntsAre z.toArray.toList ms from intsAre_of r2) hr.units0 ⟨.bl (HT.lexLe ns ms),H,I,rfl,q⟩
noncomputable def abo(H0:Hp)(t:TE):TE:=λσ H Q=>t σ H λv H1=>∃a o kvs,H1 a=some (.frz o (.dK kvs))/\(∀o u,H0 a≠some (.frz o u))/\Q v (upd H1 a (.dK kvs))
def adg{e:Expr}{t:TE}(h:PE X e t):PE X e (abo X.H₀ t):=by
 intro pins s σ H Q I q;exact thn (h pins s σ H _ I q) λv s1 ⟨x,H1,z,r1,a,o,kvs,h1,h2,h3⟩=>⟨x,_,z.thaw h1 h2,r1,h3⟩
def ap_thawV{H0:Hp}{t:TE}{σ:St}{H:Hp}{Q:VK}:abo H0 t σ H Q=t σ H λv H1=>∃a o kvs,H1 a=some (.frz o (.dK kvs))/\(∀o u,H0 a≠some (.frz o u))/\Q v (upd H1 a (.dK kvs)):=rfl
end
end L2
namespace L2
open PySem PySem.Spec PyProof.Rows
section
variable{K:Fg_}{H:Hp}{Q:VK}{σ:St}{v:V}{a0 a1 a2 a3 a4 a5 a6 a7 a8 a9:Option V}
def rd{x C dx:Addr}{fs:List (Str×V)}{f:Str}{R:V->Prop}(h:H x=some (.ins C dx fs))(c:Cls K C)(n:fW K C f)(l:List.lookup f fs=some v)(k:R v):∃C dx fs,H x=some (.ins C dx fs)/\Cls K C/\fW K C f/\∃v,List.lookup f fs=some v/\R v:=⟨C,dx,fs,h,c,n,v,l,k⟩
def sw{x C dx:Addr}{fs:List (Str×V)}{f:Str}{R:Addr->Addr->List (Str×V)->Prop}(h:H x=some (.ins C dx fs))(c:Cls K C)(n:fW K C f)(l:fs.length<1000)(k:R C dx fs):∃C dx fs,H x=some (.ins C dx fs)/\Cls K C/\fW K C f/\fs.length<1000/\R C dx fs:=⟨C,dx,fs,h,c,n,l,k⟩
def sz{n:Nat}(h:n<=1000:=by decide):n<=sizeLine:=by rw[zzk];omega
def md{x C dx:Addr}{fs:List (Str×V)}{m:Str}{tab:List (Addr×Sp)}{sp:Sp}{R:Sp->Prop}(h:H x=some (.ins C dx fs))(i:(C,sp)∈tab)(l:List.lookup m fs=Option.none)(k:R sp):∃C dx fs,H x=some (.ins C dx fs)/\∃sp,(C,sp)∈tab/\List.lookup m fs=Option.none/\R sp:=⟨C,dx,fs,h,sp,i,l,k⟩
def ln0{α:Type}{P:List α->Prop}(h:P []):∀us:List α,us.length=0->P us:=by
 intro us e
 cases us with
 |nil=>exact h
 |cons=>cases e
def lnS{α:Type}{P:List α->Prop}{n:Nat}(h:∀a us,us.length=n->P (a::us)):∀us:List α,us.length=n+1->P us:=by
 intro us e
 cases us with
 |nil=>cases e
 |cons a us=>exact h a us (Nat.succ.inj e)
def ln1{α:Type}{P:List α->Prop}(h:∀a0,P [a0]):∀us:List α,us.length=1->P us:=lnS λa=>ln0 (h a)
def ln2{α:Type}{P:List α->Prop}(h:∀a0 a1,P [a0,a1]):∀us:List α,us.length=2->P us:=lnS λa=>ln1 (h a)
def ln3{α:Type}{P:List α->Prop}(h:∀a0 a1 a2,P [a0,a1,a2]):∀us:List α,us.length=3->P us:=lnS λa=>ln2 (h a)
def ln4{α:Type}{P:List α->Prop}(h:∀a0 a1 a2 a3,P [a0,a1,a2,a3]):∀us:List α,us.length=4->P us:=lnS λa=>ln3 (h a)
def ln5{α:Type}{P:List α->Prop}(h:∀a0 a1 a2 a3 a4,P [a0,a1,a2,a3,a4]):∀us:List α,us.length=5->P us:=lnS λa=>ln4 (h a)
def ln6{α:Type}{P:List α->Prop}(h:∀a0 a1 a2 a3 a4 a5,P [a0,a1,a2,a3,a4,a5]):∀us:List α,us.length=6->P us:=lnS λa=>ln5 (h a)
def ln7{α:Type}{P:List α->Prop}(h:∀a0 a1 a2 a3 a4 a5 a6,P [a0,a1,a2,a3,a4,a5,a6]):∀us:List α,us.length=7->P us:=lnS λa=>ln6 (h a)
def ln8{α:Type}{P:List α->Prop}(h:∀a0 a1 a2 a3 a4 a5 a6 a7,P [a0,a1,a2,a3,a4,a5,a6,a7]):∀us:List α,us.length=8->P us:=lnS λa=>ln7 (h a)
end
end L2
namespace L2
open PySem PySem.Spec PyProof.Rows
section
variable{X:Cx}{K:Fg_}{H:Hp}{Q:VK}{σ:St}{v:V}{a0 a1 a2 a3 a4 a5 a6 a7 a8 a9 a10 a11 a12 a13 a14:Option V}{P:V->Prop}{R:Addr->Prop}{i:Nat}{f m:Str}{tab:List (Addr×Sp)}{E:XK}{t:TA}{tv:TE}{D:Ends}{e:Expr}{tg:Expr}{st:Stmt}{a:Addr}
noncomputable def atV(σ:St)(i:Nat)(P:V->Prop):Prop:=match σ[i]? with
 |some (some v)=>P v
 |_=>False
noncomputable def onR(x:V)(P:Addr->Prop):Prop:=match x with
 |.ref a=>P a
 |_=>False
def Dg:atV σ i P=∃v,σ[i]? =some (some v)/\P v:=by
 unfold atV;split
 ·next v e=>exact propext ⟨λh=>⟨v,e,h⟩,fun⟨w,q,h⟩=>by rw[e]at q;cases q;exact h⟩
 ·next n=>exact propext ⟨λh=>h.elim,fun⟨w,q,_⟩=>(n w q).elim⟩
def JS{x:V}:onR x R=∃a,x=.ref a/\R a:=propext ⟨λh=>by
 cases x<;>first|exact h.elim|exact⟨_,rfl,h⟩,fun⟨a,e,h⟩=>by rw[e];exact h⟩
noncomputable def tV(i:Nat):TE:=λσ H Q=>atV σ i λv=>Q v H
noncomputable def tFV(K:Fg_)(i:Nat)(f:Str):TE:=λσ H Q=>atV σ i λx=>onR x λa=>∃C dx fs,H a=some (.ins C dx fs)/\Cls K C/\fW K C f/\∃v,List.lookup f fs=some v/\Q v H
noncomputable def tMV(tab:List (Addr×Sp))(m:Str)(E:XK)(i:Nat)(t:TA):TE:=λσ H Q=>atV σ i λx=>onR x λa=>∃C dx fs,H a=some (.ins C dx fs)/\∃sp,(C,sp)∈tab/\List.lookup m fs=none/\t σ H λvs H2=>sp (.ref a::vs) H2 Q E
noncomputable def sFV(K:Fg_)(i:Nat)(tv:TE)(f:Str):TS:=λD σ H=>tv σ H λy H1=>atV σ i λx=>onR x λa=>∃C dx fs,H1 a=some (.ins C dx fs)/\Cls K C/\fW K C f/\fs.length<1000/\D.nx σ (upd H1 a (.ins C dx (Az f y fs)))
noncomputable def iLV(K:Fg_)(i:Nat):TI:=λσ H R=>atV σ i λx=>onR x λa=>(∃xs,SqL K H a xs)/\R (Itl K a) H
def agb:Ly i=tV i:=funext λσ=>funext λH=>funext λQ=>Dg.symm
def aeM:aeS K (Ly i) f=tFV K i f:=by
 funext σ H Q;unfold tFV aeS Ly;rw[Dg];simp only[JS,exists_and_left]
def abe:KY tab m E (Ly i) t=tMV tab m E i t:=by
 funext σ H Q;unfold tMV KY Ly;rw[Dg];simp only[JS];refine propext ⟨fun⟨v,e,a,C,dx,fs,sp,q,h1,h2,h3,z⟩=>⟨v,e,a,q,C,dx,fs,h1,sp,h2,h3,q▸z⟩,fun⟨v,e,a,q,C,dx,fs,h1,sp,h2,h3,z⟩=>⟨v,e,a,C,dx,fs,sp,q,h1,h2,h3,q▸z⟩⟩
def aeJ:aey K (Ly i) tv f=sFV K i tv f:=by
 funext D σ H;unfold sFV aey Ly;simp only[Dg,JS,exists_and_left]
def aeu:Xe K (Ly i)=iLV K i:=by
 funext σ H R;unfold iLV Xe Ly;rw[Dg];simp only[JS]
noncomputable def adQ(x:Str):Bool:=!(x==("__debug__" :Str)) && !(x==("__classdict__" :Str))
def orl{α:Sort _}{a:α}{p:Prop}:a=a\/p:=Or.inl rfl
def orr{α:Sort _}{a:α}{p:Prop}:p\/a=a:=Or.inr rfl
def nd1{x:Str}:[x].Nodup:=zzw.mpr ⟨zzd,List.nodup_nil⟩
def nm1{x:Str}(h:adQ x=true):(x==("__debug__" :Str))=false:=by unfold adQ at h;revert h;cases x==("__debug__" :Str)<;>simp
def nm2{x:Str}(h:adQ x=true):(x==("__classdict__" :Str))=false:=by unfold adQ at h;revert h;cases x==("__classdict__" :Str)<;>simp
def pvD(i:Nat){x:Str}{pos:Pos}(q:X.N[i]? =some x:=by rfl)(hv:Vis X.env.scope x:=by walk_at "o") (hd:adQ x=true:=by rfl):PE X (.Name x pos) (tV i):=agb▸pv i q hv (nm1 hd) (nm2 hd)
def pav(i:Nat){x:Str}{pos:Pos}{es:List Expr}{t:TA}(z:PA X es t)(q:X.N[i]? =some x:=by rfl)(hv:Vis X.env.scope x:=by walk_at "o") (hd:adQ x=true:=by rfl) (hs:starEach (.Name x pos::es) X.env=(false,eval (.Name x pos) X.env)::starEach es X.env:=by rfl):PA X (.Name x pos::es) (Br (tV i) t):=eQ (pvD i q hv hd) z hs
def adv{pos:Pos}(z:PE X e (Ly i))(q:attributeBase e f X.env (eval e X.env)=eval e X.env)(hK:X.K=K:=by rfl):PE X (.Attribute e f pos) (tFV K i f):=aeM▸acz z q hK
def gw{o value:Expr}{pos pos':Pos}(ha:PE X o (Ly i))(q:PE X value tv)(z:swapsWith value (some (.Attribute o f pos')) pos.line X.env=pure false)(hK:X.K=K:=by rfl):PS X (.Assign [.Attribute o f pos'] value pos) (sFV K i tv f):=aeJ▸adn ha q z hK
def gm(z:PE X e (Ly i))(q:X.K=K:=by rfl):PI X tg e (iLV K i):=aeu▸oK z q
def gY{CX:CXT}{pos apos:Pos}{o:Expr}{es:List Expr}{pl:Sem Bool}(he:PE X o (Ly i))(T:XQ X CX m tab)(z:qJ CX X E)(ha:PA X (e::es) t)
  (q:starEach (e::es) X.env=(false,eval e X.env)::starEach es X.env:=by rfl) (hpl:(backTo pos (starEach es X.env)).any (·.1)=false:=by rfl)
  (ht:eval (.Call (.Attribute o m apos) (e::es) [] pos) X.env=(do
   let ov<-eval o X.env
   standAt apos.atName
   let(f,first)<-holding [ov] (getMethod ov m pl)
   callWith pos f first (backTo pos (starEach (e::es) X.env)) (backToKw pos (keywordEach [] X.env))):=by rfl):
  PE X (.Call (.Attribute o m apos) (e::es) [] pos) (tMV tab m E i t):=abe▸aaJ (pl:=pl) he T z ha q hpl ht
def jj{CX:CXT}{pos apos:Pos}{o:Expr}{pl:Sem Bool}(he:PE X o (Ly i))(T:XQ X CX m tab)(q:qJ CX X E)
  (z:eval (.Call (.Attribute o m apos) [] [] pos) X.env=(do
   let ov<-eval o X.env
   standAt apos.atName
   let(f,first)<-holding [ov] (getMethod ov m pl)
   callWith pos f first (backTo pos (starEach [] X.env)) (backToKw pos (keywordEach [] X.env))):=by rfl):
  PE X (.Call (.Attribute o m apos) [] [] pos) (tMV tab m E i VL):=abe▸WT (pl:=pl) he T q z
def av_V:tV i σ H Q=atV σ i λv=>Q v H:=rfl
def av_F:tFV K i f σ H Q=atV σ i λx=>onR x λa=>∃C dx fs,H a=some (.ins C dx fs)/\Cls K C/\fW K C f/\∃v,List.lookup f fs=some v/\Q v H:=rfl
def av_M:tMV tab m E i t σ H Q=atV σ i λx=>onR x λa=>∃C dx fs,H a=some (.ins C dx fs)/\∃sp,(C,sp)∈tab/\List.lookup m fs=none/\t σ H λvs H2=>sp (.ref a::vs) H2 Q E:=rfl
def av_S:sFV K i tv f D σ H=tv σ H λy H1=>atV σ i λx=>onR x λa=>∃C dx fs,H1 a=some (.ins C dx fs)/\Cls K C/\fW K C f/\fs.length<1000/\D.nx σ (upd H1 a (.ins C dx (Az f y fs))):=rfl
def av_L{R:It->Hp->Prop}:iLV K i σ H R=atV σ i λx=>onR x λa=>(∃xs,SqL K H a xs)/\R (Itl K a) H:=rfl
def av_r:onR (.ref a) R=R a:=rfl
def av0:atV (some v::σ) 0 P=P v:=rfl
def av1:atV (a0::some v::σ) 1 P=P v:=rfl
def av2:atV (a0::a1::some v::σ) 2 P=P v:=rfl
def av3:atV (a0::a1::a2::some v::σ) 3 P=P v:=rfl
def av4:atV (a0::a1::a2::a3::some v::σ) 4 P=P v:=rfl
def av5:atV (a0::a1::a2::a3::a4::some v::σ) 5 P=P v:=rfl
def av6:atV (a0::a1::a2::a3::a4::a5::some v::σ) 6 P=P v:=rfl
def av7:atV (a0::a1::a2::a3::a4::a5::a6::some v::σ) 7 P=P v:=rfl
def av8:atV (a0::a1::a2::a3::a4::a5::a6::a7::some v::σ) 8 P=P v:=rfl
def av9:atV (a0::a1::a2::a3::a4::a5::a6::a7::a8::some v::σ) 9 P=P v:=rfl
def av10:atV (a0::a1::a2::a3::a4::a5::a6::a7::a8::a9::some v::σ) 10 P=P v:=rfl
def av11:atV (a0::a1::a2::a3::a4::a5::a6::a7::a8::a9::a10::some v::σ) 11 P=P v:=rfl
def av12:atV (a0::a1::a2::a3::a4::a5::a6::a7::a8::a9::a10::a11::some v::σ) 12 P=P v:=rfl
def av13:atV (a0::a1::a2::a3::a4::a5::a6::a7::a8::a9::a10::a11::a12::some v::σ) 13 P=P v:=rfl
def mc{CX:CXT}{C f:Addr}{fd:FuncData}{ps:List Str}{sp:Sp}{k n:Nat}{r:List (Addr×Sp)}(c:Cls X.K C)(hm:Meth X.K C m f)(F:gJ X.prog X.w X.K X.mg X.base CX k f fd ps sp)(hr:lq n X.A)(z:Binds X.K fd ps [])(t:XQ X CX m r)(q:k<=n:=by decide):XQ X CX m ((C,sp)::r):=.cons c hm F (hr.mono q) z t
end
end L2
namespace L2
open PySem PySem.Spec PyProof.Rows
structure FG(K:Fg_)(mg:Str->Option Value)(x:Str)(st:Stmt)(f:Addr)(fd:FuncData):Prop where
 m:mg x=some (.ref f)
 k:PySem.W.keepIn K (.ref f)=true
 F:Fun K x x st f fd
section
variable{X:Cx}{t:TA}{e:Expr}
def pcg{k n:Nat}{f:Addr}{fd:FuncData}{ps:List Str}{sp:Sp}{x:Str}{st:Stmt}{p pos:Pos}{es:List Expr}(F:gJ X.prog X.w X.K X.mg X.base CX0 k f fd ps sp)(hr:lq n X.A)(g:FG X.K X.mg x st f fd)(z:Binds X.K fd ps [])(ha:PA X (e::es) t)(q:k<=n:=by decide)(hg:Gl X x:=by rfl)(hd:(x==("__debug__" :Str))=false:=by decide)
  (hst:starEach (e::es) X.env=(false,eval e X.env)::starEach es X.env:=by rfl) (hpl:(backTo pos (starEach es X.env)).any (·.1)=false:=by rfl):PE X (.Call (.Name x p) (e::es) [] pos) (Yq sp [] E0 t):=acV F (hr.mono q) hg g.m g.k z .nil iI ha hd hst hpl
end
end L2
namespace L2
open PySem PySem.W PySem.Spec PyProof.Rows
section
variable{X:Cx}
noncomputable def Yg:List V->Hp->VK->Prop:=λxs H Q=>∃(a:Addr)(kvs:List (Key×V)),xs=[.ref a]/\H a=some (.dK kvs)/\kvs.length<=1000/\∀p,H p=none->Q (.ref p) (upd H p (.lst (kvs.map λkv=>kV kv.1)))
theorem Kc:∀{l:List Value}{ks:List V},l.length=ks.length->(∀(i:Nat) v x,l[i]? =some v->ks[i]? =some x->RelV x v)->Vals ks l
 |[],[],_,_=> .nil
 |[],_::_,h,_=>by simp at h
 |_::_,[],h,_=>by simp at h
 |v::l,x::ks,h,g=> .cons (g 0 v x rfl rfl) (Kc (by simpa using h) λi v' x' q z=>g (i+1) v' x' q z)
def tW(hc:X.calm=true):jz X (.type "list") Yg:=by
 intro pins s σ H xs us Q I r h;obtain⟨a,kvs,rfl,hq,ag,q⟩:=h;obtain⟨u,rfl,rx⟩:=vals1 r;cases rx;obtain⟨z,ad,vs,rel,o,es,ep,q1,q2,q3,q4⟩:=(show iJ X.prog X.w H s.heap a (.dK kvs)from I.hok a _ hq);have ae:kvs.length=vs.length:=zzV rel;have ab:=KV.keys rel;have af:s.heap.DictAt (gb X.prog X.w) a vs ep:=⟨o,es,q1,q2,q3,q4⟩;refine kdl_call (kdl_dict (knd:=gb X.prog X.w) (kvs:=vs) (ep:=ep) ad) (I.ok.hd hc) af (by rw[<-ae,zzk];omega) λh' tk acc c hk ac aa=>?_;have hl:acc.toList.length=kvs.length:=by rw[zzz,aa.1,ae]
 refine⟨.ref s.heap.objs.size,_,I.laid (t':=tk) (o:=.lst (kvs.map λkv=>kV kv.1)) hk (zzc _) ⟨by rw[z0,zzk];omega,acc.toList,c,Kc (by rw[hl,z0]) λi v x e1 e2=>?_,by rw[yy8];exact ac⟩,rfl,q _ (I.hok.fresh (zzc _))⟩;obtain⟨k,y,g1,g2⟩:=aa.2 i v (by rw[<-zzX];exact e1);have e3:(vs.map (·.1))[i]? =some k:=by rw[zzl,g1];rfl
 rw[<-ab,zzl]at e3;rw[zzl]at e2
 cases e:kvs[i]? with
 |none=>rw[e]at e3;cases e3
 |some kv=>
  rw[e]at e2 e3;cases e2;cases e3;exact WQ g2
def ap_rListD{a:Addr}{H:Hp}{Q:VK}:Yg [.ref a] H Q=∃(kvs:List (Key×V)),H a=some (.dK kvs)/\kvs.length<=1000/\∀p,H p=none->Q (.ref p) (upd H p (.lst (kvs.map λq=>kV q.1))):=by simp[Yg]
end
end L2
local macro_rules | `(tactic| walk_at "u") => `(tactic| (rename_i h; first | (obtain ⟨e, _⟩ := h; subst e; rfl) | (obtain ⟨_, h⟩ := h; walk_at "u")))
local macro_rules | `(tactic| walk_at "v") => `(tactic| (intros; walk_at "u"))
local macro_rules | `(tactic| walk_at "k") => `(tactic| first | exact L2.CapOk.nil | (refine L2.CapOk.own ?_; walk_at "k") | (refine L2.CapOk.take (by with_unfolding_all rfl) (by first | exact Or.inl (by with_unfolding_all rfl) | exact Or.inr (by with_unfolding_all rfl)) (by first | exact Or.inl (by with_unfolding_all rfl) | exact Or.inr (by with_unfolding_all rfl)) (by with_unfolding_all rfl) ?_; walk_at "k"))
local macro_rules | `(tactic| walk_at "c") => `(tactic| (refine ⟨?c1, ?c3, ?c0, ?c4, ?c5, ?c6, ?c7⟩; (case c1 => with_unfolding_all rfl); (case c3 => walk_at "k"); (case c0 => rfl); (case c4 => decide +kernel); (case c5 => decide +kernel); (case c6 => with_unfolding_all rfl); (case c7 => (intro _; rfl))))
set_option hygiene false
local macro_rules | `(tactic| walk_at "i") => `(tactic| simp only [↓L2.av_V, ↓L2.av_F, ↓L2.av_M, ↓L2.av_S, ↓L2.av_L, ↓L2.av0, ↓L2.av1, ↓L2.av2, ↓L2.av3, ↓L2.av4, ↓L2.av5, ↓L2.av6, ↓L2.av7, ↓L2.av8, ↓L2.av9, ↓L2.av10, ↓L2.av11, ↓L2.av12, ↓L2.av13, L2.av_r, L2.ap_iStr, L2.ap_fldK, L2.ap_sFld, L2.ap_methD, L2.ap_make, L2.ap_dget2, L2.ap_dget, L2.ap_dput, L2.ap_dnewK, L2.ap_dpop1, L2.ap_dictOf, L2.ap_inD, L2.ap_leS, L2.ap_rIsC, L2.ap_ixT, L2.ap_ixS, L2.ap_rTupOf, L2.ap_lenS, L2.ap_new0, L2.ap_dictPairs, L2.ap_iVals, L2.ap_rVals, L2.ap_dget1, L2.ap_tSortK, L2.ap_rSortK, L2.ap_tListRev, L2.ap_tMinD, L2.ap_break, L2.ap_rSortI, L2.ap_iItems, L2.ap_rItems, L2.ap_neM, L2.ap_iKeys, L2.ap_rSS, L2.ap_thawV, L2.ap_rListD, L2.ap_iZip, L2.ap_iEnum, L2.ap_next, L2.ap_asg, L2.ap_name, L2.ap_var, L2.ap_c, L2.ap_op, L2.ap_un, L2.ap_rI, L2.ap_rI0, L2.ap_rU, L2.ap_rEq, L2.ap_rNe, L2.ap_ret, L2.ap_retN, L2.ap_drop, L2.ap_if, L2.ap_test, L2.ap_tB, L2.ap_and, L2.ap_or, L2.ap_not, L2.ap_andV, L2.ap_notV, L2.ap_ifE, L2.ap_call, L2.ap_nil, L2.ap_cons, L2.ap_cb, L2.ap_lst, L2.ap_tup, L2.ap_chain, L2.ap_sl, L2.ap_noPart, L2.ap_part, L2.ap_gNil, L2.ap_gCons, L2.ap_gTup, L2.ap_bm, L2.ap_bm0, L2.ap_ixL, L2.ap_slL, L2.ap_rLen, L2.ap_rSum, L2.ap_rAny, L2.ap_rAll, L2.ap_rListOf, L2.ap_rIsT, L2.ap_append, L2.ap_rCat, L2.ap_comp, L2.ap_iList, L2.ap_iRng1, L2.ap_noIf, L2.ap_rMax, L2.ap_rMin, L2.scal_int, L2.scal_str, L2.scal_bl, L2.start_eq, List.map_cons, List.map_nil, List.length_cons, List.length_nil, List.cons_append, List.nil_append, List.append_nil, List.replicate_succ, List.replicate_zero, Nat.reduceAdd, Nat.reduceSub, Nat.sub_self, List.set_cons_zero, List.set_cons_succ, List.getElem?_cons_zero, List.getElem?_cons_succ, Option.some.injEq, L2.V.int.injEq, L2.V.bl.injEq, L2.V.str.injEq, L2.V.ref.injEq, L2.V.ty.injEq, List.cons.injEq, exists_eq_left', exists_eq_left, exists_and_left, exists_eq', exists_eq, true_and, and_true, and_assoc, exists_const, Bool.not_true, Bool.not_false, if_true, if_false, Bool.false_eq_true, decide_true, decide_false, reduceCtorEq, Bool.not_eq_true', decide_eq_true_eq, decide_eq_false_iff_not])
set_option hygiene true
local macro_rules | `(tactic| walk_at "a") => `(tactic| (repeat (first | simp only [L2.ap_seq, L2.ap_for] | walk_at "i")))
namespace L2
open PySem PySem.Spec PyProof.Rows
def fv{X:Cx}(K:Fg_)(i:Nat){x f:Str}{pos pos':PySem.Pos}(q:X.N[i]? =some x:=by rfl)(hv:Vis X.env.scope x:=by first|exact Or.inl rfl|exact Or.inr (Or.inl rfl)|exact Or.inr (Or.inr rfl))(hd:(x==("__debug__" :Str))=false:=by decide) (hcd:(x==("__classdict__" :Str))=false:=by decide) (hb:PySem.attributeBase (.Name x pos') f X.env (PySem.eval (.Name x pos') X.env)=PySem.eval (.Name x pos') X.env:=by rfl) (hK:X.K=K:=by rfl):PE X (.Attribute (.Name x pos') f pos) (tFV K i f):=adv (pv i q hv hd hcd) hb hK
end L2
namespace My
open PySem L2 PyProof.Rows
open PySem.W (codeIn findCls findIn fnOf hasDictIn isFn keepIn kitOne makesIn mg_none_of mg_of mroIn nsIn plainGet plainOver readsIn specialIn takesIn)
noncomputable def top(i:Nat):Stmt:=PySem.Challenge.pw_lotledger_k91_whole_dearest_beside_other.main.body.getD i (.Pass ⟨0,0,0,0⟩)
abbrev rG:Stmt:=top 81
abbrev rn:Stmt:=top 79
abbrev mQ:Stmt:=top 82
abbrev jL:Stmt:=top 28
abbrev mj:Stmt:=top 29
abbrev Er:Stmt:=top 31
abbrev pQ:Stmt:=top 30
abbrev jW:Stmt:=inClass (top 21) 0
abbrev oJ:Stmt:=top 32
abbrev iU:Stmt:=inClass (top 22) 0
abbrev pF:Stmt:=top 83
abbrev oA:Stmt:=top 33
abbrev pR:Stmt:=top 34
abbrev iD:Stmt:=inClass (top 23) 0
abbrev mH:Stmt:=top 84
abbrev lO:Stmt:=top 73
abbrev qZ:Stmt:=inClass (top 69) 1
abbrev mF:Stmt:=inClass (top 69) 2
abbrev lN:Stmt:=inClass (top 69) 0
abbrev mU:Stmt:=top 72
abbrev pZ:Stmt:=inClass (top 70) 15
abbrev qR:Stmt:=top 77
abbrev pY:Stmt:=top 80
abbrev pW:Stmt:=top 85
abbrev tX:Stmt:=inClass (top 22) 1
abbrev tR:Stmt:=inClass (top 22) 2
abbrev pD:Stmt:=top 35
abbrev rm:Stmt:=inClass (top 23) 1
abbrev qQ:Stmt:=inClass (top 23) 2
abbrev mJ:Stmt:=top 42
abbrev Al:Stmt:=top 41
abbrev Af:Stmt:=top 40
abbrev oM:Stmt:=inClass (top 70) 14
abbrev lA:Stmt:=inClass (top 70) 12
abbrev mD:Stmt:=top 50
abbrev mO:Stmt:=inClass (top 48) 0
abbrev lG:Stmt:=inClass (top 48) 3
abbrev Ah:Stmt:=top 49
abbrev Aa:Stmt:=inClass (top 70) 10
abbrev nY:Stmt:=inClass (top 70) 4
abbrev ou:Stmt:=inClass (top 70) 3
abbrev jX:Stmt:=top 46
abbrev Ef:Stmt:=top 44
abbrev Ow:Stmt:=top 45
abbrev Fy:Stmt:=top 71
abbrev mG:Stmt:=inClass (top 59) 0
abbrev Fq:Stmt:=top 53
abbrev lK:Stmt:=inClass (top 63) 1
abbrev rM:Stmt:=inClass (top 48) 2
abbrev oE:Stmt:=top 51
abbrev lD:Stmt:=top 65
abbrev lZ:Stmt:=inClass (top 60) 1
abbrev mR:Stmt:=inClass (top 61) 1
abbrev lH:Stmt:=inClass (top 48) 4
abbrev kW:Stmt:=top 66
abbrev lw:Stmt:=inClass (top 62) 1
abbrev qP:Stmt:=top 67
abbrev jY:Stmt:=inClass (top 70) 11
abbrev mL:Stmt:=inClass (top 70) 6
abbrev jJ:Stmt:=inClass (top 70) 2
abbrev rH:Stmt:=top 36
abbrev jZ:Stmt:=top 37
abbrev jM:Stmt:=inClass (top 22) 3
abbrev jK:Stmt:=top 38
abbrev jD:Stmt:=inClass (top 23) 3
abbrev qY:Stmt:=top 52
abbrev rD:Stmt:=inClass (top 70) 13
abbrev Dp:Stmt:=inClass (top 70) 1
abbrev lF:Stmt:=top 75
abbrev lB:Stmt:=inClass (top 70) 0
abbrev FW:Stmt:=top 74
abbrev oN:Stmt:=inClass (top 60) 0
abbrev oR:Stmt:=inClass (top 61) 0
abbrev mV:Stmt:=inClass (top 62) 0
abbrev rN:Stmt:=inClass (top 63) 0
abbrev JR:Stmt:=top 64
abbrev aaA:Stmt:=top 86
set_option genInjectivity false in
structure Adr where
 tZ:Addr
 t5:Addr
 t6:Addr
 t7:Addr
 t8:Addr
 t9:Addr
 uc:Addr
 ud:Addr
 uf:Addr
 ug:Addr
 uh:Addr
 ui:Addr
 uj:Addr
 uk:Addr
 ul:Addr
 um:Addr
 uo:Addr
 uq:Addr
 ut:Addr
 uu:Addr
 uv:Addr
 uw:Addr
 ux:Addr
 uy:Addr
 uA:Addr
 uB:Addr
 uC:Addr
 uD:Addr
 uE:Addr
 uF:Addr
 uG:Addr
 uH:Addr
 uI:Addr
 uJ:Addr
 uK:Addr
 uL:Addr
 uM:Addr
 uN:Addr
 uO:Addr
 uP:Addr
 uQ:Addr
 uR:Addr
 uS:Addr
 uT:Addr
 uU:Addr
 uV:Addr
 uW:Addr
 uX:Addr
 uY:Addr
 uZ:Addr
 u3:Addr
 u4:Addr
 u5:Addr
 u6:Addr
 u7:Addr
 u8:Addr
 u9:Addr
 vc:Addr
 vd:Addr
 ve:Addr
 vg:Addr
 vh:Addr
 vi:Addr
 vj:Addr
 vk:Addr
 vm:Addr
 vn:Addr
 vo:Addr
 vp:Addr
 vq:Addr
 vv:Addr
 vw:Addr
 vx:Addr
 vy:Addr
 vz:Addr
 vA:Addr
 law:Addr
 vB:Addr
 vC:Addr
 vD:Addr
 vE:Addr
 vF:Addr
 vG:Addr
 vH:Addr
 vI:Addr
 vJ:Addr
 vL:Addr
 vM:Addr
 vN:Addr
 vO:Addr
 vP:Addr
 vQ:Addr
 vR:Addr
 vS:Tok
 vT:Tok
 vU:Tok
 vV:Tok
 vW:Tok
 vX:Tok
set_option genInjectivity false in
structure Fds where
 tZ:FuncData
 t5:FuncData
 t6:FuncData
 t7:FuncData
 t8:FuncData
 t9:FuncData
 uc:FuncData
 ud:FuncData
 uf:FuncData
 ug:FuncData
 uh:FuncData
 ui:FuncData
 uj:FuncData
 uk:FuncData
 ul:FuncData
 um:FuncData
 uo:FuncData
 uq:FuncData
 ut:FuncData
 uu:FuncData
 uv:FuncData
 uw:FuncData
 ux:FuncData
 uy:FuncData
 uA:FuncData
 uB:FuncData
 uC:FuncData
 uD:FuncData
 uE:FuncData
 uF:FuncData
 uG:FuncData
 uH:FuncData
 uI:FuncData
 uJ:FuncData
 uK:FuncData
 uL:FuncData
 uM:FuncData
 uN:FuncData
 uO:FuncData
 uP:FuncData
 uQ:FuncData
 uR:FuncData
 uS:FuncData
 uT:FuncData
 uU:FuncData
 uV:FuncData
 uW:FuncData
 uX:FuncData
 uY:FuncData
 uZ:FuncData
 u3:FuncData
 u4:FuncData
 u5:FuncData
 u6:FuncData
 u7:FuncData
 u8:FuncData
 u9:FuncData
 vc:FuncData
 vd:FuncData
 ve:FuncData
 vg:FuncData
 vh:FuncData
 vi:FuncData
 vj:FuncData
 vk:FuncData
 vm:FuncData
 vn:FuncData
 vo:FuncData
 vp:FuncData
 vq:FuncData
 vv:FuncData
 vw:FuncData
 vx:FuncData
 vy:FuncData
 vz:FuncData
 vA:FuncData
 law:FuncData
structure Txt(K:Fg_)(mg:Str->Option Value)(A:Adr)(D:Fds):Prop where
 vY:FG K mg "_law_name" rG A.tZ D.tZ
 vZ:FG K mg "_law_cell" rn A.t5 D.t5
 wa:FG K mg "_law_history" mQ A.t6 D.t6
 wb:FG K mg "is_whole_number" jL A.t7 D.t7
 wc:FG K mg "check_number" mj A.t8 D.t8
 wd:FG K mg "is_name" Er A.t9 D.t9
 we:FG K mg "check_name" pQ A.uc D.uc
 wf:Fun K "__init__" "Entry.__init__" jW A.ud D.ud
 wg:FG K mg "check_trade" oJ A.uf D.uf
 wj:aae K "__init__" "Buy.__init__" iU A.ug D.ug [V.int 0]
 wk:FG K mg "_law_named" pF A.uh D.uh
 wl:FG K mg "check_named" oA A.ui D.ui
 wm:FG K mg "named_copy" pR A.uj D.uj
 wn:aae K "__init__" "Sell.__init__" iD A.uk D.uk [V.int 0,V.non]
 wo:FG K mg "_law_entries" mH A.ul D.ul
 wq:FG K mg "cost_of_parts" lO A.um D.um
 wt:Fun K "gain" "Sale.gain" qZ A.uo D.uo
 wu:Fun K "counted" "Sale.counted" mF A.uq D.uq
 wv:Fun K "__init__" "Sale.__init__" lN A.ut D.ut
 ww:FG K mg "copy_of_sale" mU A.uu D.uu
 wy:Fun K "sales" "Book.sales" pZ A.uv D.uv
 wz:FG K mg "gain_till" qR A.uw D.uw
 wA:FG K mg "_law_whole" pY A.ux D.ux
 wB:FG K mg "_law_gains" pW A.uy D.uy
 wC:Fun K "word" "Buy.word" tX A.uA D.uA
 wD:Fun K "told" "Buy.told" tR A.uB D.uB
 wE:FG K mg "named_told" pD A.uC D.uC
 wF:Fun K "word" "Sell.word" rm A.uD D.uD
 wG:Fun K "told" "Sell.told" qQ A.uE D.uE
 wH:FG K mg "refuse_twice" mJ A.uF D.uF
 wI:FG K mg "place_of" Al A.uG D.uG
 wJ:FG K mg "in_order" Af A.uH D.uH
 wK:Fun K "row_of" "Book.row_of" oM A.uI D.uI
 wM:Fun K "keep_row" "Book.keep_row" lA A.uJ D.uJ
 wN:FG K mg "place_in_row" mD A.uK D.uK
 wO:Fun K "__init__" "Lot.__init__" mO A.uL D.uL
 wP:Fun K "with_more" "Lot.with_more" lG A.uM D.uM
 wQ:FG K mg "row_with" Ah A.uN D.uN
 wR:Fun K "put" "Book.put" Aa A.uO D.uO
 wS:Fun K "lay_on" "Book.lay_on" nY A.uP D.uP
 wT:Fun K "do_buy" "Book.do_buy" ou A.uQ D.uQ
 wU:FG K mg "sum_of_weights" jX A.uR D.uR
 wV:FG K mg "part_of" Ef A.uS D.uS
 wW:FG K mg "dealt" Ow A.uT D.uT
 wX:FG K mg "sale_of" Fy A.uU D.uU
 wY:Fun K "levelled" "Way.levelled" mG A.uV D.uV
 wZ:FG K mg "cost_in" Fq A.uW D.uW
 xc:Fun K "levelled" "Mean.levelled" lK A.uX D.uX
 xf:Fun K "taken" "Lot.taken" rM A.uY D.uY
 xg:FG K mg "row_without" oE A.uZ D.uZ
 xh:FG K mg "picks_in_turn" lD A.u3 D.u3
 xi:Fun K "picks" "Eldest.picks" lZ A.u4 D.u4
 xj:Fun K "picks" "Newest.picks" mR A.u5 D.u5
 xk:Fun K "is_dearer" "Lot.is_dearer" lH A.u6 D.u6
 xl:FG K mg "dearest_first" kW A.u7 D.u7
 xm:Fun K "picks" "Dearest.picks" lw A.u8 D.u8
 xn:FG K mg "gone_from" qP A.u9 D.u9
 xo:Fun K "taken_for" "Book.taken_for" jY A.vc D.vc
 xp:Fun K "do_sell" "Book.do_sell" mL A.vd D.vd
 xq:Fun K "do_by_kind" "Book.do_by_kind" jJ A.ve D.ve
 xr:FG K mg "held_with" rH A.vg D.vg
 xt:FG K mg "held_with_more" jZ A.vh D.vh
 xu:Fun K "held_behind" "Buy.held_behind" jM A.vi D.vi
 xv:FG K mg "held_with_fewer" jK A.vj D.vj
 xw:Fun K "held_behind" "Sell.held_behind" jD A.vk D.vk
 xx:FG K mg "pieces_in" qY A.vm D.vm
 xy:Fun K "held" "Book.held" rD A.vn D.vn
 xz:Fun K "do" "Book.do" Dp A.vo D.vo
 xA:FG K mg "with_all_done" lF A.vp D.vp
 xB:Fun K "__init__" "Book.__init__" lB A.vq D.vq
 xC:FG K mg "book_of" FW A.vv D.vv
 xD:Fun K "word" "Eldest.word" oN A.vw D.vw
 xE:Fun K "word" "Newest.word" oR A.vx D.vx
 xF:Fun K "word" "Dearest.word" mV A.vy D.vy
 xG:Fun K "word" "Mean.word" rN A.vz D.vz
 xH:FG K mg "way_by" JR A.vA D.vA
 xI:FG K mg "law" aaA A.law D.law
 xJ:mg "range" =none
 xK:mg "len" =none
 xL:mg "list" =none
 xM:mg "min" =none
 xN:mg "isinstance" =none
 xO:mg "int" =none
 xP:mg "bool" =none
 xQ:mg "all" =none
 xR:mg "str" =none
 xS:mg "sum" =none
 xT:mg "tuple" =none
 xU:mg "sorted" =none
 xV:mg "zip" =none
 xW:mg "any" =none
 xX:mg "dict" =none
 xY:mg "reversed" =none
 xZ:mg "enumerate" =none
 x4:mg "set" =none
 x5:mg "max" =none
 x6:mg "Entry" =some (.ref A.vB)
 x8:mg "Buy" =some (.ref A.vC)
 x9:mg "Sell" =some (.ref A.vD)
 ya:mg "Sale" =some (.ref A.vE)
 yb:mg "Book" =some (.ref A.vF)
 yc:mg "Lot" =some (.ref A.vG)
 yd:mg "Mean" =some (.ref A.vI)
 ye:mg "Eldest" =some (.ref A.vJ)
 yf:mg "Newest" =some (.ref A.vL)
 yg:mg "Dearest" =some (.ref A.vM)
 yh:mg "Gift" =some (.ref A.vO)
 yi:mg "Give" =some (.ref A.vP)
 yj:mg "Split" =some (.ref A.vQ)
 yk:mg "Parting" =some (.ref A.vR)
 ym:mg "MOST_LETTERS" =some (.int 8 A.vS)
 yn:mg "MOST_DAY" =some (.int 1000000 A.vT)
 yo:mg "MOST_NUMBER" =some (.int 1000000 A.vU)
 yp:mg "MOST_PIECES" =some (.int 1000000000 A.vV)
 yq:mg "MOST_PRICE" =some (.int 1000000000 A.vW)
 yr:mg "MOST_FEE" =some (.int 1000000000 A.vX)
 yt:Cls K A.vC
 yu:aao K A.vC
 yv:fW K A.vC "day"
 yw:fW K A.vC "number"
 yx:fW K A.vC "ware"
 yy:fW K A.vC "pieces"
 yz:fW K A.vC "price"
 yA:fW K A.vC "fee"
 yB:fW K A.vC "cost"
 yC:Cls K A.vD
 yD:aao K A.vD
 yE:fW K A.vD "day"
 yF:fW K A.vD "number"
 yG:fW K A.vD "ware"
 yH:fW K A.vD "pieces"
 yI:fW K A.vD "price"
 yJ:fW K A.vD "fee"
 yK:fW K A.vD "named"
 yL:fW K A.vD "proceeds"
 yM:Cls K A.vE
 yN:fW K A.vE "number"
 yO:fW K A.vE "day"
 yP:fW K A.vE "ware"
 yQ:fW K A.vE "proceeds"
 yR:fW K A.vE "parts"
 yS:fW K A.vE "laid_on"
 yT:Cls K A.vF
 yU:fW K A.vF "way"
 yV:fW K A.vF "rows"
 yW:fW K A.vF "last_place"
 yX:fW K A.vF "paid"
 yY:fW K A.vF "brought"
 yZ:fW K A.vF "sales_done"
 y3:fW K A.vF "givings_done"
 y4:Cls K A.vG
 y6:fW K A.vG "number"
 y8:fW K A.vG "since"
 y9:fW K A.vG "pieces"
 za:fW K A.vG "cost"
 zb:Cls K A.vI
 zc:Cls K A.vJ
 zd:Cls K A.vL
 ze:Cls K A.vM
 zf:Mk K A.vC A.ug
 zg:Mk K A.vD A.uk
 zh:Mk K A.vE A.ut
 zi:Mk K A.vG A.uL
 zj:Mk K A.vF A.vq
 zk:Mk0 K A.vJ
 zl:Mk0 K A.vL
 zm:Mk0 K A.vM
 zn:Mk0 K A.vI
 zo:Meth K A.vE "gain" A.uo
 zp:Meth K A.vE "counted" A.uq
 zq:Meth K A.vF "sales" A.uv
 zr:Meth K A.vC "word" A.uA
 zt:Meth K A.vD "word" A.uD
 zu:Meth K A.vG "with_more" A.uM
 zv:Meth K A.vF "row_of" A.uI
 zw:Meth K A.vF "keep_row" A.uJ
 zx:Meth K A.vF "put" A.uO
 zy:Meth K A.vF "lay_on" A.uP
 zA:Meth K A.vG "taken" A.uY
 zB:Meth K A.vG "is_dearer" A.u6
 zC:Meth K A.vJ "levelled" A.uV
 zD:Meth K A.vL "levelled" A.uV
 zE:Meth K A.vM "levelled" A.uV
 zF:Meth K A.vI "levelled" A.uX
 zG:Meth K A.vJ "picks" A.u4
 zH:Meth K A.vL "picks" A.u5
 zI:Meth K A.vM "picks" A.u8
 zJ:Meth K A.vI "picks" A.u4
 zK:Meth K A.vF "taken_for" A.vc
 zL:Meth K A.vF "do_buy" A.uQ
 zM:Meth K A.vF "do_sell" A.vd
 zN:Meth K A.vF "do_by_kind" A.ve
 zO:Meth K A.vC "held_behind" A.vi
 zP:Meth K A.vD "held_behind" A.vk
 zQ:Meth K A.vF "held" A.vn
 zR:Meth K A.vF "do" A.vo
 zS:Meth K A.vJ "word" A.vw
 zT:Meth K A.vL "word" A.vx
 zU:Meth K A.vM "word" A.vy
 zV:Meth K A.vI "word" A.vz
 zW:Meth K A.vC "told" A.uB
 zX:Meth K A.vD "told" A.uE
 zY:aeH K A.vB "__init__" A.ud
 zZ:kitOne K (.ref A.vD) (.ref A.vC)=some false/\kitOne K (.ref A.vD) (.ref A.vO)=some false
local macro_rules | `(tactic| walk_at "s") => `(tactic| exact ⟨rfl, rfl, rfl, by decide +kernel, rfl, by decide +kernel, by decide +kernel⟩)
def jt:fD ["_law_cell_here", "_law_name_here", "_law_rest", "_law_k"] ["_law_cell_here"] (fc rG):=by walk_at "s"
def Kr:fD ["_law_script", "_law_k"] ["_law_script", "_law_k"] (fc rn):=by walk_at "s"
def fO:fD ["_law_script", "_law_rows", "_law_held", "_law_day", "_law_k", "_law_cell_here", "_law_much", "_law_dear", "_law_ware", "_law_price", "_law_pieces"] ["_law_script"] (fc mQ):=by walk_at "s"
def sZ:fD ["value"] ["value"] (fc jL):=by walk_at "s"
def Eu:fD ["what", "value", "least", "most"] ["what", "value", "least", "most"] (fc mj):=by walk_at "s"
def Su:fD ["value"] ["value"] (fc Er):=by walk_at "s"
def Jz:fD ["what", "value"] ["what", "value"] (fc pQ):=by walk_at "s"
def Ak:fD ["self", "day", "number", "ware"] ["self", "day", "number", "ware"] (fc jW):=by walk_at "s"
def GJ:fD ["pieces", "price", "fee"] ["pieces", "price", "fee"] (fc oJ):=by walk_at "s"
def Di:fD ["self", "day", "number", "ware", "pieces", "price", "fee"] ["self", "day", "number", "ware", "pieces", "price", "fee"] (fc iU):=by walk_at "s"
def gB:fD ["_law_left", "_law_wanted", "_law_turn", "_law_picks", "_law_numbers", "_law_number", "_law_some"] ["_law_left", "_law_wanted", "_law_turn"] (fc pF):=by walk_at "s"
def jP:fD ["named", "pieces", "seen", "lot", "lot_pieces"] ["named", "pieces"] (fc oA):=by walk_at "s"
def Jk:fD ["named"] ["named"] (fc pR):=by walk_at "s"
def Bu:fD ["self", "day", "number", "ware", "pieces", "price", "fee", "named"] ["self", "day", "number", "ware", "pieces", "price", "fee", "named"] (fc iD):=by walk_at "s"
def fY:fD ["_law_rows", "_law_script", "_law_names", "_law_entries_here", "_law_left", "_law_k", "_law_kind", "_law_day", "_law_number", "_law_ware", "_law_pieces", "_law_price", "_law_lots", "_law_picks", "_law_turn"] ["_law_rows", "_law_script", "_law_names"] (fc mH):=by walk_at "s"
def Bv:fD ["parts"] ["parts"] (fc lO):=by walk_at "s"
def Mf:fD ["self"] ["self"] (fc qZ):=by walk_at "s"
def DX:fD ["self"] ["self"] (fc mF):=by walk_at "s"
def Cr:fD ["self", "number", "day", "ware", "proceeds", "parts", "laid_on"] ["self", "number", "day", "ware", "proceeds", "parts", "laid_on"] (fc lN):=by walk_at "s"
def Fp:fD ["sale"] ["sale"] (fc mU):=by walk_at "s"
def Jq:fD ["self"] ["self"] (fc pZ):=by walk_at "s"
def Lr:fD ["book", "day"] ["book", "day"] (fc qR):=by walk_at "s"
def Jc:fD ["_law_found"] ["_law_found"] (fc pY):=by walk_at "s"
def sH:fD ["_law_book", "_law_days", "_law_gains_here"] ["_law_book", "_law_days"] (fc pW):=by walk_at "s"
def Ox:fD ["self"] ["self"] (fc tX):=by walk_at "s"
def PX:fD ["self"] ["self"] (fc tR):=by walk_at "s"
def Ie:fD ["named"] ["named"] (fc pD):=by walk_at "s"
def MK:fD ["self"] ["self"] (fc rm):=by walk_at "s"
def Bc:fD ["self", "named"] ["self"] (fc qQ):=by walk_at "s"
def jy:fD ["numbers", "rising", "ahead", "behind"] ["numbers"] (fc mJ):=by walk_at "s"
def Pb:fD ["entry"] ["entry"] (fc Al):=by walk_at "s"
def Qn:fD ["entries"] ["entries"] (fc Af):=by walk_at "s"
def Gz:fD ["self", "ware"] ["self", "ware"] (fc oM):=by walk_at "s"
def Bq:fD ["self", "ware", "row"] ["self", "ware", "row"] (fc lA):=by walk_at "s"
def Ec:fD ["lot"] ["lot"] (fc mD):=by walk_at "s"
def Es:fD ["self", "number", "since", "pieces", "cost"] ["self", "number", "since", "pieces", "cost"] (fc mO):=by walk_at "s"
def BP:fD ["self", "pieces", "cost"] ["self", "pieces", "cost"] (fc lG):=by walk_at "s"
def PB:fD ["lots", "lot"] ["lots", "lot"] (fc Ah):=by walk_at "s"
def oH:fD ["self", "ware", "lots", "row", "lot"] ["self", "ware", "lots"] (fc Aa):=by walk_at "s"
def GZ:fD ["self", "entry"] ["self", "entry"] (fc nY):=by walk_at "s"
def qM:fD ["self", "entry", "cost"] ["self", "entry"] (fc ou):=by walk_at "s"
def nJ:fD ["weights", "whole"] ["weights"] (fc jX):=by walk_at "s"
def Tg:fD ["amount", "part", "whole"] ["amount", "part", "whole"] (fc Ef):=by walk_at "s"
def kI:fD ["amount", "weights", "whole", "shares", "weight_till_here", "dealt_till_here", "weight", "dealt_with_it"] ["amount", "weights"] (fc Ow):=by walk_at "s"
def Ax:fD ["entry", "lots", "shares", "parts"] ["entry", "lots"] (fc Fy):=by walk_at "s"
def FT:fD ["self", "lots"] ["self", "lots"] (fc mG):=by walk_at "s"
def TY:fD ["lots"] ["lots"] (fc Fq):=by walk_at "s"
def pB:fD ["self", "lots", "costs"] ["self", "lots"] (fc lK):=by walk_at "s"
def pL:fD ["self", "pieces", "cost", "gone"] ["self", "pieces"] (fc rM):=by walk_at "s"
def ig:fD ["lots", "picks", "left", "taken", "number", "pieces", "lot", "parts"] ["lots", "picks"] (fc oE):=by walk_at "s"
def gU:fD ["lots", "pieces", "picks", "wanted", "lot", "going"] ["lots", "pieces"] (fc lD):=by walk_at "s"
def Dt:fD ["self", "lots", "pieces"] ["self", "lots", "pieces"] (fc lZ):=by walk_at "s"
def Fj:fD ["self", "lots", "pieces"] ["self", "lots", "pieces"] (fc mR):=by walk_at "s"
def Ci:fD ["self", "other"] ["self", "other"] (fc lH):=by walk_at "s"
def jm:fD ["lots", "turn", "lot", "cheaper"] ["lots"] (fc kW):=by walk_at "s"
def Cq:fD ["self", "lots", "pieces"] ["self", "lots", "pieces"] (fc lw):=by walk_at "s"
def pG:fD ["way", "lots", "pieces", "named", "row", "picks"] ["way", "lots", "pieces", "named"] (fc qP):=by walk_at "s"
def nu:fD ["self", "entry", "gone"] ["self", "entry"] (fc jY):=by walk_at "s"
def Ep:fD ["self", "entry"] ["self", "entry"] (fc mL):=by walk_at "s"
def sO:fD ["self", "entry"] ["self", "entry"] (fc jJ):=by walk_at "s"
def Ay:fD ["held", "ware", "pieces", "changed"] ["held", "ware", "pieces"] (fc rH):=by walk_at "s"
def Ag:fD ["held", "ware", "pieces"] ["held", "ware", "pieces"] (fc jZ):=by walk_at "s"
def sG:fD ["self", "held"] ["self", "held"] (fc jM):=by walk_at "s"
def lV:fD ["held", "ware", "pieces", "before"] ["held", "ware", "pieces"] (fc jK):=by walk_at "s"
def rF:fD ["self", "held"] ["self", "held"] (fc jD):=by walk_at "s"
def Kw:fD ["lots"] ["lots"] (fc qY):=by walk_at "s"
def Ms:fD ["self"] ["self"] (fc rD):=by walk_at "s"
def SJ:fD ["self", "entry"] ["self", "entry"] (fc Dp):=by walk_at "s"
def oY:fD ["book", "entries", "entry"] ["book", "entries"] (fc lF):=by walk_at "s"
def BX:fD ["self", "way"] ["self", "way"] (fc lB):=by walk_at "s"
def SM:fD ["way", "entries"] ["way", "entries"] (fc FW):=by walk_at "s"
def Gg:fD ["self"] ["self"] (fc oN):=by walk_at "s"
def Gi:fD ["self"] ["self"] (fc oR):=by walk_at "s"
def El:fD ["self"] ["self"] (fc mV):=by walk_at "s"
def Lh:fD ["self"] ["self"] (fc rN):=by walk_at "s"
def Ls:fD ["word", "way"] ["word"] (fc JR):=by walk_at "s"
def lR:fD ["_law_script", "_law_rows", "_law_held", "_law_due", "_law_ware", "_law_days", "_law_entries_here", "_law_told", "_law_least", "_law_paid", "_law_got", "_law_books", "_law_book", "_law_gains_here"] ["_law_script"] (fc aaA):=by walk_at "s"
section
variable{P:Program}{w:World}{K:Fg_}{mg:Str->Option Value}{base:Heap}{A:Adr}{D:Fds}
def Pq(T:Txt K mg A D):Binds K D.tZ ["_law_cell_here"] []:=T.vY.F.binds λ_ _ _ _ _ _=>ln1 λ_=>rfl
def iu(T:Txt K mg A D):Binds K D.t5 ["_law_script", "_law_k"] []:=T.vZ.F.binds λ_ _ _ _ _ _=>ln2 λ_ _=>rfl
def Gk(T:Txt K mg A D):Binds K D.t6 ["_law_script"] []:=T.wa.F.binds λ_ _ _ _ _ _=>ln1 λ_=>rfl
def Am(T:Txt K mg A D):Binds K D.t7 ["value"] []:=T.wb.F.binds λ_ _ _ _ _ _=>ln1 λ_=>rfl
def iw(T:Txt K mg A D):Binds K D.t8 ["what", "value", "least", "most"] []:=T.wc.F.binds λ_ _ _ _ _ _=>ln4 λ_ _ _ _=>rfl
def Xd(T:Txt K mg A D):Binds K D.t9 ["value"] []:=T.wd.F.binds λ_ _ _ _ _ _=>ln1 λ_=>rfl
def Km(T:Txt K mg A D):Binds K D.uc ["what", "value"] []:=T.we.F.binds λ_ _ _ _ _ _=>ln2 λ_ _=>rfl
def oU(T:Txt K mg A D):Binds K D.ud ["self", "day", "number", "ware"] []:=T.wf.binds λ_ _ _ _ _ _=>ln4 λ_ _ _ _=>rfl
def sJ(T:Txt K mg A D):Binds K D.uf ["pieces", "price", "fee"] []:=T.wg.F.binds λ_ _ _ _ _ _=>ln3 λ_ _ _=>rfl
def Nt(T:Txt K mg A D):Binds K D.uh ["_law_left", "_law_wanted", "_law_turn"] []:=T.wk.F.binds λ_ _ _ _ _ _=>ln3 λ_ _ _=>rfl
def JQ(T:Txt K mg A D):Binds K D.ui ["named", "pieces"] []:=T.wl.F.binds λ_ _ _ _ _ _=>ln2 λ_ _=>rfl
def Kz(T:Txt K mg A D):Binds K D.uj ["named"] []:=T.wm.F.binds λ_ _ _ _ _ _=>ln1 λ_=>rfl
def qN(T:Txt K mg A D):Binds K D.ul ["_law_rows", "_law_script", "_law_names"] []:=T.wo.F.binds λ_ _ _ _ _ _=>ln3 λ_ _ _=>rfl
def Dk(T:Txt K mg A D):Binds K D.um ["parts"] []:=T.wq.F.binds λ_ _ _ _ _ _=>ln1 λ_=>rfl
def Qc(T:Txt K mg A D):Binds K D.uo ["self"] []:=T.wt.binds λ_ _ _ _ _ _=>ln1 λ_=>rfl
def Gx(T:Txt K mg A D):Binds K D.uq ["self"] []:=T.wu.binds λ_ _ _ _ _ _=>ln1 λ_=>rfl
def pU(T:Txt K mg A D):Binds K D.ut ["self", "number", "day", "ware", "proceeds", "parts", "laid_on"] []:=T.wv.binds λ_ _ _ _ _ _=>ln7 λ_ _ _ _ _ _ _=>rfl
def Gf(T:Txt K mg A D):Binds K D.uu ["sale"] []:=T.ww.F.binds λ_ _ _ _ _ _=>ln1 λ_=>rfl
def Lg(T:Txt K mg A D):Binds K D.uv ["self"] []:=T.wy.binds λ_ _ _ _ _ _=>ln1 λ_=>rfl
def Ov(T:Txt K mg A D):Binds K D.uw ["book", "day"] []:=T.wz.F.binds λ_ _ _ _ _ _=>ln2 λ_ _=>rfl
def Nx(T:Txt K mg A D):Binds K D.ux ["_law_found"] []:=T.wA.F.binds λ_ _ _ _ _ _=>ln1 λ_=>rfl
def Bk(T:Txt K mg A D):Binds K D.uy ["_law_book", "_law_days"] []:=T.wB.F.binds λ_ _ _ _ _ _=>ln2 λ_ _=>rfl
def Te(T:Txt K mg A D):Binds K D.uA ["self"] []:=T.wC.binds λ_ _ _ _ _ _=>ln1 λ_=>rfl
def Hh(T:Txt K mg A D):Binds K D.uB ["self"] []:=T.wD.binds λ_ _ _ _ _ _=>ln1 λ_=>rfl
def Mt(T:Txt K mg A D):Binds K D.uC ["named"] []:=T.wE.F.binds λ_ _ _ _ _ _=>ln1 λ_=>rfl
def NK(T:Txt K mg A D):Binds K D.uD ["self"] []:=T.wF.binds λ_ _ _ _ _ _=>ln1 λ_=>rfl
def Ei(T:Txt K mg A D):Binds K D.uE ["self"] []:=T.wG.binds λ_ _ _ _ _ _=>ln1 λ_=>rfl
def Gr(T:Txt K mg A D):Binds K D.uF ["numbers"] []:=T.wH.F.binds λ_ _ _ _ _ _=>ln1 λ_=>rfl
def tL(T:Txt K mg A D):Binds K D.uG ["entry"] []:=T.wI.F.binds λ_ _ _ _ _ _=>ln1 λ_=>rfl
def Sv(T:Txt K mg A D):Binds K D.uH ["entries"] []:=T.wJ.F.binds λ_ _ _ _ _ _=>ln1 λ_=>rfl
def rT(T:Txt K mg A D):Binds K D.uI ["self", "ware"] []:=T.wK.binds λ_ _ _ _ _ _=>ln2 λ_ _=>rfl
def pO(T:Txt K mg A D):Binds K D.uJ ["self", "ware", "row"] []:=T.wM.binds λ_ _ _ _ _ _=>ln3 λ_ _ _=>rfl
def Gv(T:Txt K mg A D):Binds K D.uK ["lot"] []:=T.wN.F.binds λ_ _ _ _ _ _=>ln1 λ_=>rfl
def jh(T:Txt K mg A D):Binds K D.uL ["self", "number", "since", "pieces", "cost"] []:=T.wO.binds λ_ _ _ _ _ _=>ln5 λ_ _ _ _ _=>rfl
def Df(T:Txt K mg A D):Binds K D.uM ["self", "pieces", "cost"] []:=T.wP.binds λ_ _ _ _ _ _=>ln3 λ_ _ _=>rfl
def Tt(T:Txt K mg A D):Binds K D.uN ["lots", "lot"] []:=T.wQ.F.binds λ_ _ _ _ _ _=>ln2 λ_ _=>rfl
def TQ(T:Txt K mg A D):Binds K D.uO ["self", "ware", "lots"] []:=T.wR.binds λ_ _ _ _ _ _=>ln3 λ_ _ _=>rfl
def Jp(T:Txt K mg A D):Binds K D.uP ["self", "entry"] []:=T.wS.binds λ_ _ _ _ _ _=>ln2 λ_ _=>rfl
def Jh(T:Txt K mg A D):Binds K D.uQ ["self", "entry"] []:=T.wT.binds λ_ _ _ _ _ _=>ln2 λ_ _=>rfl
def Cm(T:Txt K mg A D):Binds K D.uR ["weights"] []:=T.wU.F.binds λ_ _ _ _ _ _=>ln1 λ_=>rfl
def Mi(T:Txt K mg A D):Binds K D.uS ["amount", "part", "whole"] []:=T.wV.F.binds λ_ _ _ _ _ _=>ln3 λ_ _ _=>rfl
def Vn(T:Txt K mg A D):Binds K D.uT ["amount", "weights"] []:=T.wW.F.binds λ_ _ _ _ _ _=>ln2 λ_ _=>rfl
def UV(T:Txt K mg A D):Binds K D.uU ["entry", "lots"] []:=T.wX.F.binds λ_ _ _ _ _ _=>ln2 λ_ _=>rfl
def mC(T:Txt K mg A D):Binds K D.uV ["self", "lots"] []:=T.wY.binds λ_ _ _ _ _ _=>ln2 λ_ _=>rfl
def VH(T:Txt K mg A D):Binds K D.uW ["lots"] []:=T.wZ.F.binds λ_ _ _ _ _ _=>ln1 λ_=>rfl
def Em(T:Txt K mg A D):Binds K D.uX ["self", "lots"] []:=T.xc.binds λ_ _ _ _ _ _=>ln2 λ_ _=>rfl
def Px(T:Txt K mg A D):Binds K D.uY ["self", "pieces"] []:=T.xf.binds λ_ _ _ _ _ _=>ln2 λ_ _=>rfl
def Iv(T:Txt K mg A D):Binds K D.uZ ["lots", "picks"] []:=T.xg.F.binds λ_ _ _ _ _ _=>ln2 λ_ _=>rfl
def lM(T:Txt K mg A D):Binds K D.u3 ["lots", "pieces"] []:=T.xh.F.binds λ_ _ _ _ _ _=>ln2 λ_ _=>rfl
def qL(T:Txt K mg A D):Binds K D.u4 ["self", "lots", "pieces"] []:=T.xi.binds λ_ _ _ _ _ _=>ln3 λ_ _ _=>rfl
def GX(T:Txt K mg A D):Binds K D.u5 ["self", "lots", "pieces"] []:=T.xj.binds λ_ _ _ _ _ _=>ln3 λ_ _ _=>rfl
def Dq(T:Txt K mg A D):Binds K D.u6 ["self", "other"] []:=T.xk.binds λ_ _ _ _ _ _=>ln2 λ_ _=>rfl
def DQ(T:Txt K mg A D):Binds K D.u7 ["lots"] []:=T.xl.F.binds λ_ _ _ _ _ _=>ln1 λ_=>rfl
def Du(T:Txt K mg A D):Binds K D.u8 ["self", "lots", "pieces"] []:=T.xm.binds λ_ _ _ _ _ _=>ln3 λ_ _ _=>rfl
def Pg(T:Txt K mg A D):Binds K D.u9 ["way", "lots", "pieces", "named"] []:=T.xn.F.binds λ_ _ _ _ _ _=>ln4 λ_ _ _ _=>rfl
def Cd(T:Txt K mg A D):Binds K D.vc ["self", "entry"] []:=T.xo.binds λ_ _ _ _ _ _=>ln2 λ_ _=>rfl
def GP(T:Txt K mg A D):Binds K D.vd ["self", "entry"] []:=T.xp.binds λ_ _ _ _ _ _=>ln2 λ_ _=>rfl
def tM(T:Txt K mg A D):Binds K D.ve ["self", "entry"] []:=T.xq.binds λ_ _ _ _ _ _=>ln2 λ_ _=>rfl
def Fb(T:Txt K mg A D):Binds K D.vg ["held", "ware", "pieces"] []:=T.xr.F.binds λ_ _ _ _ _ _=>ln3 λ_ _ _=>rfl
def Ck(T:Txt K mg A D):Binds K D.vh ["held", "ware", "pieces"] []:=T.xt.F.binds λ_ _ _ _ _ _=>ln3 λ_ _ _=>rfl
def Aq(T:Txt K mg A D):Binds K D.vi ["self", "held"] []:=T.xu.binds λ_ _ _ _ _ _=>ln2 λ_ _=>rfl
def Ab(T:Txt K mg A D):Binds K D.vj ["held", "ware", "pieces"] []:=T.xv.F.binds λ_ _ _ _ _ _=>ln3 λ_ _ _=>rfl
def rP(T:Txt K mg A D):Binds K D.vk ["self", "held"] []:=T.xw.binds λ_ _ _ _ _ _=>ln2 λ_ _=>rfl
def Qi(T:Txt K mg A D):Binds K D.vm ["lots"] []:=T.xx.F.binds λ_ _ _ _ _ _=>ln1 λ_=>rfl
def FN(T:Txt K mg A D):Binds K D.vn ["self"] []:=T.xy.binds λ_ _ _ _ _ _=>ln1 λ_=>rfl
def Xq(T:Txt K mg A D):Binds K D.vo ["self", "entry"] []:=T.xz.binds λ_ _ _ _ _ _=>ln2 λ_ _=>rfl
def Eb(T:Txt K mg A D):Binds K D.vp ["book", "entries"] []:=T.xA.F.binds λ_ _ _ _ _ _=>ln2 λ_ _=>rfl
def Fl(T:Txt K mg A D):Binds K D.vq ["self", "way"] []:=T.xB.binds λ_ _ _ _ _ _=>ln2 λ_ _=>rfl
def Fw(T:Txt K mg A D):Binds K D.vv ["way", "entries"] []:=T.xC.F.binds λ_ _ _ _ _ _=>ln2 λ_ _=>rfl
def JF(T:Txt K mg A D):Binds K D.vw ["self"] []:=T.xD.binds λ_ _ _ _ _ _=>ln1 λ_=>rfl
def Il(T:Txt K mg A D):Binds K D.vx ["self"] []:=T.xE.binds λ_ _ _ _ _ _=>ln1 λ_=>rfl
def Gq(T:Txt K mg A D):Binds K D.vy ["self"] []:=T.xF.binds λ_ _ _ _ _ _=>ln1 λ_=>rfl
def Qe(T:Txt K mg A D):Binds K D.vz ["self"] []:=T.xG.binds λ_ _ _ _ _ _=>ln1 λ_=>rfl
def Ih(T:Txt K mg A D):Binds K D.vA ["word"] []:=T.xH.F.binds λ_ _ _ _ _ _=>ln1 λ_=>rfl
def pA(T:Txt K mg A D):∃ds,Binds K D.ug ["self", "day", "number", "ware", "pieces", "price", "fee"] ds/\Vals (([V.int 0]:List V).drop 0) ds:=T.wj.binds (ps:=["self", "day", "number", "ware", "pieces", "price", "fee"]) 0 λTd kV q pm an aa ct its us h1 h2=>by
  revert us;revert h1;revert its;refine ln1 λi0 us h2=>?_;have z:us.length=6:=by simpa using h2
  clear h2;revert z;revert us;exact ln6 λ_ _ _ _ _ _=>⟨_,rfl,rfl⟩
def nj(T:Txt K mg A D):∃ds,Binds K D.uk ["self", "day", "number", "ware", "pieces", "price", "fee", "named"] ds/\Vals (([V.int 0,V.non]:List V).drop 0) ds:=T.wn.binds (ps:=["self", "day", "number", "ware", "pieces", "price", "fee", "named"]) 0 λTd kV q pm an aa ct its us h1 h2=>by
  revert us;revert h1;revert its;refine ln2 λi0 i1 us h2=>?_;have z:us.length=6:=by simpa using h2
  clear h2;revert z;revert us;exact ln6 λ_ _ _ _ _ _=>⟨_,rfl,rfl⟩
def mW(T:Txt K mg A D):∃ds,Binds K D.uk ["self", "day", "number", "ware", "pieces", "price", "fee", "named"] ds/\Vals (([V.int 0,V.non]:List V).drop 2) ds:=T.wn.binds (ps:=["self", "day", "number", "ware", "pieces", "price", "fee", "named"]) 2 λTd kV q pm an aa ct its us h1 h2=>by
  revert us;revert h1;revert its;refine ln2 λi0 i1 us h2=>?_;have z:us.length=8:=by simpa using h2
  clear h2;revert z;revert us;exact ln8 λ_ _ _ _ _ _ _ _=>⟨_,rfl,rfl⟩
end
end My
namespace My
open PySem L2 PyProof.Rows
open PySem.W (codeIn findCls findIn fnOf hasDictIn isFn keepIn kitOne makesIn mg_none_of mg_of mroIn nsIn plainGet plainOver readsIn specialIn takesIn)
end My
namespace My
open PySem L2 PyProof.Rows
open PySem.W (codeIn findCls findIn fnOf hasDictIn isFn keepIn kitOne makesIn mg_none_of mg_of mroIn nsIn plainGet plainOver readsIn specialIn takesIn)
section
variable{P:Program}{w:World}{K:Fg_}{mg:Str->Option Value}{base:Heap}{A:Adr}{D:Fds}
def gA{t u:TS}{D:_}{σ:L2.St}{H:Hp}(h:∀v,v=u->aeN t v D σ H):aeN t u D σ H:=h u rfl
def qx{wi:TI}{g:TG}{tb:TS}{D:_}{σ:L2.St}{H:Hp}(h:∀v,v=tb->afw wi g v D σ H):afw wi g tb D σ H:=h tb rfl
def Ac{c:_}{t u:TS}{D:_}{σ:L2.St}{H:Hp}(h:∀v w,v=t->w=u->abB c v w D σ H):abB c t u D σ H:=h t u rfl rfl
def CN.listN{K:Fg_}{a:Addr}{xs:List V}{g:TG}{tb:TS}{D:_}{σ:L2.St}{H:Hp}(z:Nat->L2.St->Hp->Prop)(h0:z 0 σ H)(hl:∀i σ H,i<=xs.length->z i σ H->SqL K H a xs)(hs:∀i x σ H,xs[i]? =some x->z i σ H->∀N:L2.St->Hp->Prop,(∀σ H,z (i+1) σ H->N σ H)->g x σ H λσ2 H2=>tb {D with nx:=N,ct:=N,bk:=D.nx} σ2 H2)(hd:∀σ H,z xs.length σ H->D.nx σ H):CN (Itl K a) g tb D σ H:=
 mZ z h0 hl (λi x σ H h p=>hs i x σ H h p _ λ_ _ q=>q) hd
def CN.rangeN{lo:Int}{n:Nat}{g:TG}{tb:TS}{D:_}{σ:L2.St}{H:Hp}(z:Nat->L2.St->Hp->Prop)(h0:z 0 σ H)(hs:∀i σ H,i<n->z i σ H->∀N:L2.St->Hp->Prop,(∀σ H,z (i+1) σ H->N σ H)->g (.int (lo+i)) σ H λσ2 H2=>tb {D with nx:=N,ct:=N,bk:=D.nx} σ2 H2)(hd:∀σ H,z n σ H->D.nx σ H):CN (Itr lo n) g tb D σ H:=
 CN.range z h0 (λi σ H h p=>hs i σ H h p _ λ_ _ q=>q) hd
def Yw{x:Int}{m k:Nat}(q:x.natAbs<2^m)(h:m<=k):x.natAbs<2^k:=zzC q (ZE (by decide) h)
def NZ{ns:List Int}{i:Nat}{y:V}(h:(ns.map V.int)[i]? =some y):∃z,y=V.int z/\ns[i]? =some z:=by
 rw[zzl]at h
 cases e:ns[i]? with
 |none=>rw[e]at h;cases h
 |some z=>rw[e]at h;exact⟨z,(zzq h).symm,rfl⟩
def tyL{K:Fg_}{H:Hp}{p:Addr}{xs:List V}(h:SqL K H p xs):tyV K "list" (.ref p) H:=.inl ⟨rfl,_,h⟩
def QM(xs:List V)(n:Nat):Ny xs (some (n:Int)) none=xs.drop n:=by
 unfold Ny;rw[HT.sIx_none,HT.sIx_nat];rcases Nat.le_total n xs.length with h|h
 ·rw[Nat.min_eq_left h,zz8 (by rw[yyw];exact zzc _)]
 ·rw[Nat.min_eq_right h,Zu (zzc _),Zu h,List.take_nil]
noncomputable def Nm(z:Str):Prop:=1<=z.length/\z.length<=8/\∀c∈z.cps.toList,97<=c/\c<=122
noncomputable def tH:Sp:=λvs H Q _=>∃i:Int,vs=[.int i]/\Q (.bl true) H
def tD(T:Txt K mg A D):gJ P w K mg base CX0 1 A.t7 D.t7 ["value"] tH:=by
 refine T.wb.F.okv sZ λ_ _ _ _ H vs Q E q h=>?_
 ·obtain⟨i,rfl,k⟩:=h
  refine⟨_,(eY (fJ (abL (fH (nR (K:=K)) (by rfl) T.xN (by decide+kernel) (pav 0 (eQ (Uw "int" (by rfl) T.xO (by decide+kernel)) eV))) (abS (abR (fH (nR (K:=K)) (by rfl) T.xN (by decide+kernel) (pav 0 (eQ (Uw "bool" (by rfl) T.xP (by decide+kernel)) eV)))))))),?_⟩;walk_at "a";refine⟨_,.int i,true,by with_unfolding_all rfl,?_⟩;walk_at "a";refine⟨_,.int i,false,by with_unfolding_all rfl,?_⟩;walk_at "a";exact k
noncomputable def FQ:Sp:=λvs H Q _=>∃(z:Str)(i lo hi:Int),vs=[.str z,.int i,.int lo,.int hi]/\lo<=i/\i<=hi/\Q .non H
def gR(T:Txt K mg A D):gJ P w K mg base CX0 2 A.t8 D.t8 ["what", "value", "least", "most"] FQ:=by
 refine T.wc.F.okv Eu λ_ _ _ _ H vs Q E q h=>?_
 ·obtain⟨z,i,lo,hi,rfl,h1,h2,k⟩:=h
  refine⟨_,(eY (iC (PW.pt (Kv (Mw (lU (pcg (tD T) q T.wb (Am T) (pav 1 eV)))) (Kv (fK (Lf) (pvD 1) (pvD 2) (fX _)) (MP (fK (Jf) (pvD 1) (pvD 3) (fX _)))))) (eY (iB)) gn)),?_⟩;walk_at "a";refine⟨i,rfl,?_⟩;walk_at "a";rw[z4 (by omega),z4 (by omega)];exact k
noncomputable def Uo:Sp:=λvs H Q _=>∃z:Str,vs=[.str z]/\Nm z/\∀H',Same H H'->Q (.bl true) H'
def Ui(T:Txt K mg A D):gJ P w K mg base CX0 1 A.t9 D.t9 ["value"] Uo:=by
 refine T.wd.F.okv Su λ_ _ _ _ H vs Q E hr h=>?_
 ·obtain⟨z,rfl,⟨n1,n2,n3⟩,k⟩:=h
  refine ⟨_,(eU (iC (PW.pt (Kv (Mw (lU (fH (nR (K:=K)) (by rfl) T.xN (by decide+kernel) (pav 0 (eQ (Uw "str" (by rfl) T.xR (by decide+kernel)) eV))))) (Kv (fK (Lf) (fH Ba (by rfl) T.xK (by decide+kernel) (pav 0 eV)) fB (fX _)) (MP (fK (Jf) (fH Ba (by rfl) T.xK (by decide+kernel) (pav 0 eV)) (jB (v:=V.int 8) (by rfl) T.ym ⟨_,rfl⟩) (fX _)))))) (eY (fJ Kg)) gn)
   (eY (fJ (fH (KQ (K:=K) rfl) (by rfl) T.xQ (by decide+kernel) (eQ (gF (cap:=[none]) (N':=["sign"]) rfl (by walk_at "c") (afu (pvD 0)) (λ_ _ _ _=>(fG (i:=0) nd1 rfl orl orr)) (λ_ _ _ _=>gQ) (λ_ _ _ _=>(Yt (Kf) (Kf) gP (pvD 0) gP))) eV))))),?_⟩
  walk_at "a";refine⟨_,.str z,true,by with_unfolding_all rfl,?_⟩;walk_at "a";have hz:z.length<=sizeLine:=by rw[zzk];omega
  iterate 2 (refine⟨hz,?_⟩;rw[z4 (by omega)])
  refine iK.str (λσ=>∃v,σ=[v]) (λ_=>true) (λ_=> .bl true) ⟨none,rfl⟩ hz ?_ ?_
  ·rintro x hx σ H5 R1 R2 ⟨v,rfl⟩ q k1 k2
   obtain⟨c,hc,rfl⟩:=z3.mp hx;obtain⟨c1,c2⟩:=n3 c hc;walk_at "a";have ea:(Str.ofString "a").cps.toList=[97]:=by decide+kernel
   have ez:(Str.ofString "z").cps.toList=[122]:=by decide+kernel
   rw[ea,ez]
   have h1:¬[c]<[97]:=λh=>by
    rcases List.cons_lt_cons_iff.mp h with h|h
    ·omega
    ·exact absurd h.2 (List.not_lt_nil _)
   have h2:¬[122]<[c]:=λh=>by
    rcases List.cons_lt_cons_iff.mp h with h|h
    ·omega
    ·exact absurd h.2 (List.not_lt_nil _)
   rw[z8 h1,zzH h2];exact k1 rfl _ _ ⟨_,rfl⟩ (same_refl _)
  ·intro Da H' hD q e
   rw[Fe]at e;walk_at "a";refine⟨(L2.signs z).map λ_=>true,fj (by rw[e,zzj];rfl),?_⟩;have:((L2.signs z).map λ_=>true).all id=true:=by simp
   rw[this];exact k H' q
noncomputable def Iz:Sp:=λvs H Q _=>∃(t z:Str),vs=[.str t,.str z]/\Nm z/\∀H',Same H H'->Q .non H'
def Jy(T:Txt K mg A D):gJ P w K mg base CX0 2 A.uc D.uc ["what", "value"] Iz:=by
 refine T.we.F.okv Jz λ_ _ _ _ H vs Q E hr h=>?_
 ·obtain⟨t,z,rfl,hn,k⟩:=h
  refine⟨_,(eY (iC (Mw (lU (pcg (Ui T) hr T.wd (Xd T) (pav 1 eV)))) (eY (iB)) gn)),?_⟩;walk_at "a";refine⟨z,rfl,hn,λH' q=>?_⟩;walk_at "a";exact k H' q
noncomputable def Gs:Sp:=λvs H Q _=>∃(p r f:Int),vs=[.int p,.int r,.int f]/\(1<=p/\p<=1000000000)/\(0<=r/\r<=1000000000)/\(0<=f/\f<=1000000000)/\Q .non H
def qH(T:Txt K mg A D):gJ P w K mg base CX0 3 A.uf D.uf ["pieces", "price", "fee"] Gs:=by
 refine T.wg.F.ok GJ (by walk_at "v") (λ_ _ _ s H vs Q E q h=>?_)
 ·obtain⟨p,r,f,rfl,h1,h2,z,k⟩:=h
  refine ⟨_,(eU (gj (pcg (gR T) q T.wc (iw T) (eQ gP (pav 0 (eQ fB (eQ (jB (v:=V.int 1000000000) (by rfl) T.yp ⟨_,rfl⟩) eV))))))
   (eU (gj (pcg (gR T) q T.wc (iw T) (eQ gP (pav 1 (eQ fB (eQ (jB (v:=V.int 1000000000) (by rfl) T.yq ⟨_,rfl⟩) eV))))))
   (eY (gj (pcg (gR T) q T.wc (iw T) (eQ gP (pav 2 (eQ fB (eQ (jB (v:=V.int 1000000000) (by rfl) T.yr ⟨_,rfl⟩) eV))))))))),?_⟩
  walk_at "a";refine⟨_,_,_,_,rfl,h1.1,h1.2,?_⟩;walk_at "a";refine⟨_,_,_,_,rfl,h2.1,h2.2,?_⟩;walk_at "a";refine⟨_,_,_,_,rfl,z.1,z.2,?_⟩;exact k
def iV{f:Str}{v:V}{fs:List (Str×V)}(ns:List Str)(e:fs.map (·.1)=ns:=by rfl)(h:ns.contains f=false:=by decide+kernel):Az f v fs=fs++[(f,v)]:=qj f v (e▸h)
noncomputable def fsE(d n:Int)(w:Str):List (Str×V):=[("day",.int d),("number",.int n),("ware",.str w)]
structure Base(d n:Int)(w:Str):Prop where
 d0:0<=d
 d1:d<=1000000
 n0:0<=n
 n1:n<=1000000
 w:Nm w
structure CE(K:Fg_)(C:Addr):Prop where
 c:Cls K C
 d:fW K C "day"
 n:fW K C "number"
 w:fW K C "ware"
structure New(B H:Hp)(x:Addr)(C dx:Addr)(fs:List (Str×V)):Prop where
 s:Same B H
 n:B x=none
 h:H x=some (.ins C dx fs)
def New.put{B H:Hp}{x C dx:Addr}{fs gs:List (Str×V)}(h:New B H x C dx fs)(e:gs=gs):New B (upd H x (.ins C dx gs)) x C dx gs:=⟨h.s.upd h.n,h.n,eX⟩
def New.same{B H H':Hp}{x C dx:Addr}{fs:List (Str×V)}(h:New B H x C dx fs)(e:Same H H'):New B H' x C dx fs:=⟨h.s.trans e,h.n,e _ _ h.h⟩
noncomputable def tQ(K:Fg_):Sp:=λvs H Q _=>∃(x:Addr)(d n:Int)(w:Str)(B:Hp)(C dx:Addr),vs=[.ref x,.int d,.int n,.str w]/\New B H x C dx []/\CE K C/\Base d n w/\
 ∀H',New B H' x C dx (fsE d n w)->Q .non H'
def nQ(T:Txt K mg A D):gJ P w K mg base CX0 3 A.ud D.ud ["self", "day", "number", "ware"] (tQ K):=by
 refine T.wf.okv Ak λ_ _ _ _ H vs Q E hr h=>?_
 ·obtain⟨x,d,n,w,B,C,dx,rfl,q,z,hB,k⟩:=h
  refine ⟨_,(eU (gj (pcg (gR T) hr T.wc (iw T) (eQ gP (pav 1 (eQ fB (eQ (jB (v:=V.int 1000000) (by rfl) T.yn ⟨_,rfl⟩) eV))))))
   (eU (gj (pcg (gR T) hr T.wc (iw T) (eQ gP (pav 2 (eQ fB (eQ (jB (v:=V.int 1000000) (by rfl) T.yo ⟨_,rfl⟩) eV))))))
   (eU (gj (pcg (Jy T) hr T.we (Km T) (eQ gP (pav 3 eV))))
   (eU (gw (K:=K) (pv 0) (pvD 1) rfl)
   (eU (gw (K:=K) (pv 0) (pvD 2) rfl)
   (eY (gw (K:=K) (pv 0) (pvD 3) rfl))))))),?_⟩
  walk_at "a";refine⟨_,_,_,_,rfl,hB.d0,hB.d1,?_⟩;walk_at "a";refine⟨_,_,_,_,rfl,hB.n0,hB.n1,?_⟩;walk_at "a";refine⟨_,_,rfl,hB.w,λH' sm=>?_⟩;walk_at "a";have q:=q.same sm;refine sw q.h z.c z.d (by decide) (?_);rw[qj _ _ (by decide+kernel)];have q:=q.put (gs:=[]++[(Str.ofString "day",V.int d)]) rfl;refine sw q.h z.c z.n (by simp) (?_);rw[iV (f:=Str.ofString "number") ["day"]];have q:=q.put (gs:=([]++[(Str.ofString "day",V.int d)])++[(Str.ofString "number",V.int n)]) rfl;refine sw q.h z.c z.w (by simp) (?_);rw[iV (f:=Str.ofString "ware") ["day", "number"]];exact k _ (q.put rfl)
abbrev Rs:=List (Addr×Int×Int)
noncomputable def refs(rs:Rs):List V:=rs.map λr=>V.ref r.1
noncomputable def QC(H:Hp)(rs:Rs):Prop:=∀r∈rs,H r.1=some (.tup [.int r.2.1,.int r.2.2])
def QC.same{H H':Hp}{rs:Rs}(h:QC H rs)(s:Same H H'):QC H' rs:=λr q=>s _ _ (h r q)
structure afa(rs:Rs)(p:Int):Prop where
 l:rs.length<=60
 b:∀r∈rs,0<=r.2.1/\r.2.1<=1000000/\1<=r.2.2/\r.2.2<=p
 u:(rs.map (·.2.1)).Nodup
 s:(rs.map (·.2.2)).sum=p
noncomputable def NL(H:Hp)(v:V):Option Rs->Prop
 |none=>v=.non
 |some rs=>∃l,v=.ref l/\H l=some (.lst (refs rs))/\QC H rs
noncomputable def acW(p:Int):Option Rs->Prop
 |none=>True
 |some rs=>afa rs p
theorem NL.same{H H':Hp}{v:V}{o:Option Rs}(h:NL H v o)(s:Same H H'):NL H' v o:=by
 cases o with
 |none=>exact h
 |some rs=>obtain⟨l,e,h1,h2⟩:=h;exact⟨l,e,s _ _ h1,h2.same s⟩
def Yl{κ:Type} [DecidableEq κ] (kvs:List (κ×V)) (k:κ) (v:V):(putK kvs k v).length<=kvs.length+1:=by
 unfold putK;split
 ·rw[z0];omega
 ·rw[zzt];exact zzc _
def Ra{rs:Rs}{i:Nat}{y:V}(h:(refs rs)[i]? =some y):∃r,rs[i]? =some r/\y=.ref r.1:=by
 unfold refs at h;rw[zzl]at h
 cases e:rs[i]? with
 |none=>rw[e]at h;cases h
 |some r=>rw[e]at h;exact⟨r,rfl,(zzq h).symm⟩
def fresh_at{rs:Rs}{i:Nat}{r:Addr×Int×Int}(h:(rs.map (·.2.1)).Nodup)(e:rs[i]? =some r):r.2.1∉(rs.take i).map (·.2.1):=by
 intro hm;have z:i<rs.length:=(zzm.mp e).1;have h2:rs.map (·.2.1)=(rs.take i).map (·.2.1)++(rs.drop i).map (·.2.1):=by rw[<-zza,zzN]
 rw[h2]at h
 have q:=(zzS.mp h).2.2 _ hm r.2.1 (by
  rw[z3];exact⟨r,by rw[List.mem_iff_getElem?];exact⟨0,by rw[ZP];exact e⟩,rfl⟩)
 exact q rfl
def Ii(rs:Rs):(refs rs).length=rs.length:=by unfold refs;rw[z0]
noncomputable def secs(H:Hp):V->V
 |.ref a=>match H a with
  |some (.tup [_,x])=>x
  |_=> .non
 |_=> .non
def Vf{H:Hp}{r:Addr×Int×Int}(h:H r.1=some (.tup [.int r.2.1,.int r.2.2])):secs H (.ref r.1)=.int r.2.2:=by
 show(match H r.1 with|some (.tup [_,x])=>x|_=> .non)=_;rw[h]
def Wt{H:Hp}{rs:Rs}(h:QC H rs):(refs rs).map (secs H)=rs.map λr=>V.int r.2.2:=by
 unfold refs;rw[zzj];exact zzy λr q=>Vf (h r q)
noncomputable def Gb(K:Fg_):Sp:=λvs H Q _=>∃(v:V)(p:Int)(o:Option Rs),vs=[v,.int p]/\NL H v o/\acW p o/\∀H',Same H H'->Q .non H'
def Hg(T:Txt K mg A D):gJ P w K mg base CX0 3 A.ui D.ui ["named", "pieces"] (Gb K):=by
 refine T.wl.F.ok jP (by walk_at "v") (λ_ _ _ s H vs Q E hr h=>?_)
 ·obtain⟨v,p,o,rfl,hn,hg,k⟩:=h
  refine ⟨_,(eU (iC (fK (sI) (pvD 0) jx (fX _)) (eY (acf)) gn)
   (eU (iC (Mw (lU (fH (nR (K:=K)) (by rfl) T.xN (by decide+kernel) (pav 0 (eQ (Uw "list" (by rfl) T.xL (by decide+kernel)) eV))))) (eY (iB)) gn)
   (eU (fL (i:=2) jP.nd rfl orl nZ)
   (eU (kE zzM rfl (gm (K:=K) (pv 0)) (jV (K:=K) (n:=2) rfl (fZ (fG (i:=3) jP.nd rfl orl) (fZ (fG (i:=4) jP.nd rfl orl) jU)))
    (eU (gj (pcg (gR T) hr T.wc (iw T) (eQ gP (pav 3 (eQ fB (eQ (jB (v:=V.int 1000000) (by rfl) T.yo ⟨_,rfl⟩) eV))))))
    (eU (gj (pcg (gR T) hr T.wc (iw T) (eQ gP (pav 4 (eQ fB (pav 1 eV))))))
    (eU (iC (fK (Wq (jr hr)) (pvD 3) (pvD 2) (by with_unfolding_all rfl)) (eY (iB)) gn)
    (eY (lJ (jr hr) (pvD 2) (pvD 3) Kg rfl))))))
   (eY (iC (fK (acA) (fH (jE (K:=K) rfl) (by rfl) T.xS (by decide+kernel) (eQ (gF (cap:=[none]) (N':=["pair"]) rfl (by walk_at "c") (gm (K:=K) (pv 0)) (λ_ _ _ _=>(fG (i:=0) nd1 rfl orl orr)) (λ_ _ _ _=>gQ) (λ_ _ _ _=>(jG (jT (K:=K)) (pvD 0) fB (λ_ _=>rfl)))) eV)) (pvD 1) (fX _)) (eY (iB)) gn)))))),?_⟩
  cases o with
  |none=>
   cases hn;walk_at "a";exact k H (same_refl H)
  |some rs=>
   obtain⟨l,rfl,hl,hL⟩:=hn;walk_at "a";refine⟨_,.lst hl,true,by with_unfolding_all rfl,?_⟩;walk_at "a";intro sd ab;refine⟨⟨_,(eZ ab).seq (fj hl)⟩,?_⟩
   refine mZ (K:=K) (xs:=refs rs) (λi σ H2=>∃v3 v4 kvs,σ=[some (.ref l),some (.int p),some (.ref sd),v3,v4]/\Same H H2/\H2 sd=some (.dK kvs)/\kvs.length<=i/\∀j:Int,j∉(rs.take i).map (·.2.1)->jo kvs (Sum.inl j)=none)
    ⟨none,none,[],rfl,eZ ab,eX,zzc _,λ_ _=>rfl⟩ (λi σ H2 _ ⟨_,_,_,_,z,_⟩=>z.seq (fj hl)) ?_ ?_
   ·rintro i y σ H2 hi ⟨v3,v4,kvs,rfl,z,h2,hk,hv⟩
    obtain⟨r,aa,rfl⟩:=Ra hi;have ad:i<rs.length:=(zzm.mp aa).1;have q:r∈rs:=zzp aa;have hb:=hg.b r q;have ae:=hg.l;walk_at "a";refine⟨_,gM (z _ _ (hL r q)),rfl,?_⟩;walk_at "a";refine⟨_,_,_,_,rfl,hb.1,hb.2.1,?_⟩;walk_at "a";refine⟨_,_,_,_,rfl,hb.2.2.1,hb.2.2.2,?_⟩;walk_at "a";have ac:=hv _ (fresh_at hg.u aa);refine⟨_,nH (k:=Sum.inl r.2.1) h2,?_⟩;rw[ac];simp only[Option.isSome_none,yyx,if_false];refine⟨_,qD (k:=Sum.inl r.2.1) h2 (by rw[zzk];omega),z.upd ab,_,eX,?_,?_⟩
    ·have:=Yl kvs (Sum.inl r.2.1:Key) (V.bl true)
     omega
    ·intro j hj
     rw[zzO,aa,zza,zzs,not_or]at hj;rw[Rm,z4,hv j hj.1];intro e;cases e;exact hj.2 (by simp)
   ·rintro σ H2 ⟨v3,v4,kvs,rfl,z,h2,hk,hv⟩
    walk_at "a";refine⟨⟨_,z.seq (fj hl)⟩,?_⟩;refine iK.list (xs:=refs rs) (λσ=>∃v,σ=[v]) (λ_=>true) (secs H) (z.seq (fj hl)) ⟨none,rfl⟩ (by rw[Ii,zzk];have:=hg.l;omega) ?_ ?_
    ·rintro x hx σ H5 R1 R2 ⟨v,rfl⟩ sm k1 k2
     obtain⟨r,q,rfl⟩:=z3.mp hx;walk_at "a";refine⟨_,gM (sm _ _ (z _ _ (hL r q))),_,qO (j:=1) rfl,?_⟩;have:=k1 rfl [some (V.ref r.1)] H5 ⟨_,rfl⟩ (same_refl _);rw[Vf (hL r q)]at this;exact this
    ·intro Da H' hD sm e
     rw[Fe,Wt hL]at e;walk_at "a";refine⟨rs.map (·.2.2),fj (by rw[e,zzj];rfl),?_⟩;rw[hg.s];walk_at "a";exact k H' (z.trans sm)
noncomputable def Im(K:Fg_):Sp:=λvs H Q _=>∃(v:V)(o:Option Rs),vs=[v]/\NL H v o/\∀v' H',Same H H'->NL H' v' o->(∀q,v'=.ref q->H q=none)->Q v' H'
def JL(T:Txt K mg A D):gJ P w K mg base CX0 1 A.uj D.uj ["named"] (Im K):=by
 refine T.wm.F.ok Jk (by walk_at "v") (λ_ _ _ s H vs Q E hr h=>?_)
 ·obtain⟨v,o,rfl,hn,k⟩:=h
  refine⟨_,(eY (fJ (sS (fK (sI) (pvD 0) jx (fX _)) jx (iT (ql (K:=K)) (by rfl) T.xL (by decide+kernel) (pav 0 eV))))),?_⟩
  cases o with
  |none=>
   cases hn;walk_at "a";exact k _ H (same_refl H) rfl (λq e=>by cases e)
  |some rs=>
   obtain⟨l,rfl,hl,hL⟩:=hn;walk_at "a";refine⟨_,.inl (fj hl),λq z=>k _ _ (eZ z) ⟨q,rfl,eX,hL.same (eZ z)⟩ (λq' e=>by cases e;exact z)⟩
noncomputable def NT(H:Hp)(v:V):Option Rs->Prop
 |none=>v=.non
 |some rs=>∃l,v=.ref l/\H l=some (.tup (refs rs))/\QC H rs
local macro_rules | `(tactic| walk_at "n") => `(tactic| ((try dsimp only); refine gA fun u hu => ?_; rw [ap_seq]; walk_at "i"; subst hu))
def NL.updI{H:Hp}{v:V}{o:Option Rs}{x C dx:Addr}{fs:List (Str×V)}{u:HO}(h:NL H v o)(hx:H x=some (.ins C dx fs)):NL (upd H x u) v o:=by
 cases o with
 |none=>exact h
 |some rs=>
  obtain⟨l,e,h1,h2⟩:=h;refine⟨l,e,?_,λr hr=>?_⟩
  ·rw[fC (λz=>by rw[z,hx]at h1;cases h1)];exact h1
  ·have q:=h2 r hr
   rw[fC (λz=>by rw[z,hx]at q;cases q)];exact q
inductive Ent where
 |buy (d n:Int) (w:Str) (p r f:Int)
 |sell (d n:Int) (w:Str) (p r f:Int) (o:Option Rs)
noncomputable def Rg(lo hi x:Int):Prop:=lo<=x/\x<=hi
noncomputable def Ent.good:Ent->Prop
 |.buy d n w p r f=>Base d n w/\Rg 1 1000000000 p/\Rg 0 1000000000 r/\Rg 0 1000000000 f
 |.sell d n w p r f o=>Base d n w/\Rg 1 1000000000 p/\Rg 0 1000000000 r/\Rg 0 1000000000 f/\acW p o
noncomputable def Ent.fs(nv:V):Ent->List (Str×V)
 |.buy d n w p r f=>[("day",.int d),("number",.int n),("ware",.str w),("pieces",.int p),("price",.int r),("fee",.int f),("cost",.int (p*r+f))]
 |.sell d n w p r f _=>[("day",.int d),("number",.int n),("ware",.str w),("pieces",.int p),("price",.int r),("fee",.int f),("named",nv),("proceeds",.int (p*r - f))]
noncomputable def Ent.word:Ent->Str
 |.buy ..=> "buy"
 |.sell ..=> "sell"
noncomputable def Ent.args(nv:V):Ent->List V
 |.buy d n w p r f=>[.int d,.int n,.str w,.int p,.int r,.int f]
 |.sell d n w p r f _=>[.int d,.int n,.str w,.int p,.int r,.int f,nv]
noncomputable def Ent.lots:Ent->Option Rs
 |.sell _ _ _ _ _ _ o=>o
 |_=>none
noncomputable def Ent.cls(A:Adr):Ent->Addr
 |.buy ..=>A.vC
 |.sell ..=>A.vD
noncomputable def Made(A:Adr)(B H:Hp)(x:Addr)(e:Ent):Prop:=∃dx nv,New B H x (e.cls A) dx (e.fs nv)/\NL H nv e.lots/\∀q,nv=.ref q->B q=none
noncomputable def IsE(A:Adr)(H:Hp)(x:Addr)(e:Ent):Prop:=∃dx nv,H x=some (.ins (e.cls A) dx (e.fs nv))/\NL H nv e.lots
theorem IsE.same{A:Adr}{H H':Hp}{x:Addr}{e:Ent}(s:Same H H'):IsE A H x e->IsE A H' x e:=fun⟨dx,q,h,n⟩=>⟨dx,q,s _ _ h,n.same s⟩
def acB{B H:Hp}{x C dx:Addr}{gs:List (Str×V)}{f:Str}{v:V}{R:Hp->Prop}(ks:List Str)(q:New B H x C dx gs)(c:Cls K C)(n:fW K C f)(e:gs.map (·.1)=ks)(h:ks.contains f=false)(z:ks.length<1000)(k:∀H',New B H' x C dx (gs++[(f,v)])->R H'):∃C dx fs,H x=some (.ins C dx fs)/\Cls K C/\fW K C f/\fs.length<1000/\R (upd H x (.ins C dx (Az f v fs))):=by
 refine⟨C,dx,gs,q.h,c,n,by rw[<-e,z0]at z;exact z,?_⟩;rw[iV ks e h];exact k _ (q.put rfl)
def agh{B H:Hp}{x C dx:Addr}{gs:List (Str×V)}{f:Str}{v z:V}{o:Option Rs}{R:Hp->Prop}(ks:List Str)(q:New B H x C dx gs)(hn:NL H z o)(c:Cls K C)(n:fW K C f)(e:gs.map (·.1)=ks)(h:ks.contains f=false)(hl:ks.length<1000)(k:∀H',New B H' x C dx (gs++[(f,v)])->NL H' z o->R H'):∃C dx fs,H x=some (.ins C dx fs)/\Cls K C/\fW K C f/\fs.length<1000/\R (upd H x (.ins C dx (Az f v fs))):=by
 refine⟨C,dx,gs,q.h,c,n,by rw[<-e,z0]at hl;exact hl,?_⟩;rw[iV ks e h];exact k _ (q.put rfl) (hn.updI q.h)
def Ri{p r:Int}(h1:Rg 1 1000000000 p)(h2:Rg 0 1000000000 r):Bw p r:=Bw.big (Zl (show p.natAbs<=1000000000 from by unfold Rg at h1;omega) (by decide)) (Zl (show r.natAbs<=1000000000 from by unfold Rg at h2;omega) (by decide))
noncomputable def Sg:Ent->Bool:=λe=>match e with|.buy ..=>true|_=>false
def abk(T:Txt K mg A D):CE K A.vC:=⟨T.yt,T.yv,T.yw,T.yx⟩
noncomputable def Ip:Ent->Bool:=λe=>match e with|.sell ..=>true|_=>false
def Wj(T:Txt K mg A D):CE K A.vD:=⟨T.yC,T.yE,T.yF,T.yG⟩
noncomputable def adi(A:Adr):Sp:=λvs H Q _=>∃(x:Addr)(d n p r f:Int)(w:Str)(B:Hp)(dx:Addr),vs=[.ref x,.int d,.int n,.str w,.int p,.int r,.int f]/\New B H x A.vC dx []/\(Ent.good (.buy d n w p r f))/\∀H',Made A B H' x (.buy d n w p r f)->Q .non H'
def Fz(T:Txt K mg A D):gJ P w K mg base CX0 4 A.ug D.ug ["self", "day", "number", "ware", "pieces", "price", "fee"] (adi A):=by
 refine T.wj.okv Di λ_ _ _ _ H vs Q E hr h=>?_
 ·obtain⟨x,d,n,p,r,f,w,B,dx,rfl,z,hg,k⟩:=h
  refine ⟨_,(eU (gj (Ht T.zY (nQ (K:=K) T) (hr.mono (by decide)) (by rfl) T.x6 T.wf.kp (oU T) .nil iI (pav 0 (pav 1 (pav 2 (pav 3 eV))))))
   (eU (gj (pcg (qH T) hr T.wg (sJ T) (pav 4 (pav 5 (pav 6 eV)))))
   (eU (gw (K:=K) (pv 0) (pvD 4) rfl)
   (eU (gw (K:=K) (pv 0) (pvD 5) rfl)
   (eU (gw (K:=K) (pv 0) (pvD 6) rfl)
   (eY (gw (K:=K) (pv 0) (fQ iY (fQ jq (pvD 4) (pvD 5)) (pvD 6)) rfl))))))),?_⟩
  simp only[start_eq];walk_at "n";refine⟨x,d,n,w,B,_,dx,rfl,z,abk T,hg.1,λH1 z=>?_⟩;walk_at "n";refine⟨_,_,_,rfl,hg.2.1,hg.2.2.1,hg.2.2.2,?_⟩;walk_at "n";refine acB ["day", "number", "ware"] z T.yt T.yy rfl (by decide+kernel) (by decide) λH2 z=>?_;walk_at "n";refine acB ["day", "number", "ware", "pieces"] z T.yt T.yz rfl (by decide+kernel) (by decide) λH2 z=>?_;walk_at "n";refine acB ["day", "number", "ware", "pieces", "price"] z T.yt T.yA rfl (by decide+kernel) (by decide) λH2 z=>?_;walk_at "a";exact⟨Ri hg.2.1 hg.2.2.1,acB ["day", "number", "ware", "pieces", "price", "fee"] z T.yt T.yB rfl (by decide+kernel) (by decide) λH2 z=>k H2 ⟨dx,.non,z,rfl,λq e=>by cases e⟩⟩def sp_SellI (A:Adr):Sp:=λvs H Q _=>∃(x:Addr)(d n p r f:Int)(w:Str)(o:Option Rs)(nv:V)(B:Hp)(dx:Addr),vs=[.ref x,.int d,.int n,.str w,.int p,.int r,.int f,nv]/\New B H x A.vD dx []/\(Ent.good (.sell d n w p r f o))/\NL B nv o/\∀H',Made A B H' x (.sell d n w p r f o)->Q .non H'
def ph(T:Txt K mg A D):gJ P w K mg base CX0 4 A.uk D.uk ["self", "day", "number", "ware", "pieces", "price", "fee", "named"] (sp_SellI A):=by
 refine T.wn.okv Bu λ_ _ _ _ H vs Q E hr h=>?_
 ·obtain⟨x,d,n,p,r,f,w,o,nv,B,dx,rfl,z,hg,hv,k⟩:=h
  refine ⟨_,(eU (gj (Ht T.zY (nQ (K:=K) T) (hr.mono (by decide)) (by rfl) T.x6 T.wf.kp (oU T) .nil iI (pav 0 (pav 1 (pav 2 (pav 3 eV))))))
   (eU (gj (pcg (qH T) hr T.wg (sJ T) (pav 4 (pav 5 (pav 6 eV)))))
   (eU (gj (pcg (Hg T) hr T.wl (JQ T) (pav 7 (pav 4 eV))))
   (eU (gw (K:=K) (pv 0) (pvD 4) rfl)
   (eU (gw (K:=K) (pv 0) (pvD 5) rfl)
   (eU (gw (K:=K) (pv 0) (pvD 6) rfl)
   (eU (gw (K:=K) (pv 0) (pcg (JL T) hr T.wm (Kz T) (pav 7 eV)) rfl)
   (eY (gw (K:=K) (pv 0) (fQ nO (fQ jq (pvD 4) (pvD 5)) (pvD 6)) rfl))))))))),?_⟩
  simp only[start_eq];walk_at "n";refine⟨x,d,n,w,B,_,dx,rfl,z,Wj T,hg.1,λH1 z=>?_⟩;walk_at "n";refine⟨_,_,_,rfl,hg.2.1,hg.2.2.1,hg.2.2.2.1,?_⟩;walk_at "n";refine⟨_,_,_,rfl,hv.same z.s,hg.2.2.2.2,λH2 sm=>?_⟩;have z:=z.same sm;walk_at "n";refine acB ["day", "number", "ware"] z T.yC T.yH rfl (by decide+kernel) (by decide) λH2 z=>?_;walk_at "n";refine acB ["day", "number", "ware", "pieces"] z T.yC T.yI rfl (by decide+kernel) (by decide) λH2 z=>?_;walk_at "n";refine acB ["day", "number", "ware", "pieces", "price"] z T.yC T.yJ rfl (by decide+kernel) (by decide) λH2 z=>?_;walk_at "n";refine⟨_,_,rfl,hv.same z.s,λv' H3 sm aa hq=>?_⟩;have hb:∀q,v'=.ref q->B q=none:=λq e=>z.s.free (hq q e);have z:=z.same sm;refine agh ["day", "number", "ware", "pieces", "price", "fee"] z aa T.yC T.yK rfl (by decide+kernel) (by decide) λH2 z aa=>?_;walk_at "a";exact⟨Ri hg.2.1 hg.2.2.1,agh ["day", "number", "ware", "pieces", "price", "fee", "named"] z aa T.yC T.yL rfl (by decide+kernel) (by decide) λH2 z aa=>k H2 ⟨dx,v',z,aa,hb⟩⟩
local macro_rules | `(tactic| walk_at "m") => `(tactic| ((try dsimp only); rw [ap_seq]; walk_at "i"))
noncomputable def afY(H:Hp)(t:Addr)(e:Ent):Prop:=∃nt,H t=some (.tup (.str e.word::e.args nt))/\NT H nt e.lots
def pJ{H:Hp}{x dx C:Addr}(z:H x=none)(q:H dx=none):New H (upd (upd H dx (.own x)) x (.ins C dx [])) x C dx []:=⟨(eZ q).upd z,z,eX⟩
noncomputable def Ent.day:Ent->Int
 |.buy d ..=>d
 |.sell d ..=>d
noncomputable def Ent.num:Ent->Int
 |.buy _ n ..=>n
 |.sell _ n ..=>n
noncomputable def Ent.ware:Ent->Str
 |.buy _ _ w ..=>w
 |.sell _ _ w ..=>w
def aaV(T:Txt K mg A D)(e:Ent):CE K (e.cls A):=by
 cases e with
 |buy=>exact abk T
 |sell=>exact Wj T
def RV(e:Ent)(q:V):(e.fs q).lookup (Str.ofString "day")=some (.int e.day):=by cases e<;>rfl
def qW(e:Ent)(q:V):(e.fs q).lookup (Str.ofString "number")=some (.int e.num):=by cases e<;>rfl
def QC.put{H:Hp}{rs:Rs}{l:Addr}{xs:List V}{u:HO}(h:QC H rs)(hl:H l=some (.lst xs)):QC (upd H l u) rs:=λr q=>by
 have h2:=h r q;rw[fC (λz=>by rw[z,hl]at h2;cases h2)];exact h2
theorem NT.put{H:Hp}{v:V}{o:Option Rs}{l:Addr}{xs:List V}{u:HO}(h:NT H v o)(hl:H l=some (.lst xs)):NT (upd H l u) v o:=by
 cases o with
 |none=>exact h
 |some rs=>
  obtain⟨q,rfl,h1,h2⟩:=h;refine⟨q,rfl,?_,h2.put hl⟩;rw[fC (λz=>by rw[z,hl]at h1;cases h1)];exact h1
theorem afY.put{H:Hp}{t:Addr}{e:Ent}{l:Addr}{xs:List V}{u:HO}(h:afY H t e)(q:H l=some (.lst xs)):afY (upd H l u) t e:=by
 obtain⟨nt,h1,h2⟩:=h;refine⟨nt,?_,h2.put q⟩;rw[fC (λz=>by rw[z,q]at h1;cases h1)];exact h1
local macro_rules | `(tactic| walk_at "l") => `(tactic| (rw [ap_seq]; walk_at "i"))
def e6:(10:Int)^Int.toNat 6=1000000:=by decide
noncomputable def iZ(kvs:List (Key×V))(z:Str):Int:=match jo kvs (Sum.inr z)with
 |some (.int i)=>i
 |_=>0
theorem Ia:∀{kvs:List (Key×V)}{k:Key}{v:V},jo kvs k=some v->(k,v)∈kvs
 |[],_,_,h=>by cases h
 |p::kvs,k,v,h=>by
  by_cases e:p.1=k
  ·rw[gC e]at h
   cases h;rw[<-e];exact zze
  ·rw[gD e]at h
   exact zzh _ (Ia h)
def HF{kvs:List (Key×V)}{k:Key}{v:V}(q:(kvs.map (·.1)).Nodup)(h:(k,v)∈kvs):jo kvs k=some v:=by
 induction kvs with
 |nil=>exact(zzd h).elim
 |cons p kvs ih=>
  rw[z6,zzw]at q;rcases zzb.mp h with e|h
  ·subst e
   exact gC rfl
  ·have:p.1≠k:=λe=>q.1 (by rw[e];exact z3.mpr ⟨(k,v),h,rfl⟩)
   rw[gD this];exact ih q.2 h
def Mu{kvs:List (Key×V)}{k:Key}{v:V}(z:(kvs.map (·.1)).Nodup):((putK kvs k v).map (·.1)).Nodup:=by
 cases e:jo kvs k with
 |none=>exact adb v z e
 |some w=>
  unfold putK;rw[z8 (by rw[jn,e];rfl),zzj]
  have:((λx:Key×V=>x.1)∘λq:Key×V=>if q.1=k then(q.1,v)else q)=λx=>x.1:=by
   funext q;show(if q.1=k then(q.1,v)else q).1=q.1;split<;>rfl
  rw[this];exact z
def Oj{kvs:List (Key×V)}{k:Key}{v:V}{p:Key×V}(h:p∈putK kvs k v):p=(k,v)\/p∈kvs:=by
 unfold putK at h;split at h
 ·obtain⟨q,z,rfl⟩:=z3.mp h
  split
  ·rename_i e
   exact .inl (by rw[e])
  ·exact .inr z
 ·rcases zzs.mp h with h|h
  ·exact .inr h
  ·exact .inl (z9.mp h)
structure Cnt(kvs:List (Key×V)):Prop where
 k:∀kv∈kvs,∃(z:Str)(i:Int),kv=(Sum.inr z,.int i)/\0<=i
 u:(kvs.map (·.1)).Nodup
theorem Cnt.nil:Cnt []:=⟨λq h=>(zzd h).elim,.nil⟩
def Cnt.put{kvs:List (Key×V)}(h:Cnt kvs)(z:Str){n:Int}(hn:0<=n):Cnt (putK kvs (Sum.inr z) (.int n)):=
 ⟨λkv q=>(Oj q).elim (λe=>⟨z,n,e,hn⟩) (h.k kv),Mu h.u⟩
theorem Qy{α:Type}{f:α->α}:∀{l:List α},(∀x∈l,f x=x)->l.map f=l
 |[],_=>rfl
 |x::l,h=>by rw[z6,h x (.head _),Qy λy q=>h y (.tail _ q)]
abbrev EL:=List (Addr×Ent)
noncomputable def iz(es:EL):List V:=es.map λr=>V.ref r.1
noncomputable def nG(A:Adr)(H:Hp)(es:EL):Prop:=∀r∈es,IsE A H r.1 r.2
theorem nG.same{H H':Hp}{es:EL}(h:nG A H es)(s:Same H H'):nG A H' es:=λr q=>(h r q).same s
def gH(es:EL):(iz es).length=es.length:=by unfold iz;rw[z0]
def Ky{rs:EL}{i:Nat}{y:V}(h:(iz rs)[i]? =some y):∃r,rs[i]? =some r/\y=.ref r.1:=by
 unfold iz at h;rw[zzl]at h
 cases e:rs[i]? with
 |none=>rw[e]at h;cases h
 |some r=>rw[e]at h;exact⟨r,rfl,(zzq h).symm⟩
def YB{f:Addr×Ent->Int}{rs:EL}:∀{acc:List V},acc.length=rs.length->(∀(i:Nat) v,acc[i]? =some v->∃l,rs[i]? =some l/\v=.int (f l))->acc=(rs.map f).map V.int:=by
 intro acc q h;refine Zt λi=>?_;rw[zzl,zzl];by_cases hi:i<acc.length
 ·obtain⟨l,h1,h2⟩:=h i _ (zzg hi)
  rw[zzg hi,h2,h1];rfl
 ·rw[yyc (by omega),yyc (by omega)]
  rfl
def aal(T:Txt K mg A D){H:Hp}{q:Addr}{es:EL}{Q:VK}{σ:L2.St}(hq:H q=some (.lst (iz es)))(hE:nG A H es)(hl:es.length<=100)
  (k:∀D H',H D=none->Same H H'->H' D=some (.lst ((es.map λl=>l.2.num).map V.int))->Q (.ref D) H'):iK [none] (Itl K q) (TF 0) Tv (tFV K 0 "number") σ H Q:=by
 refine iK.listE (K:=K) (λσ=>∃a,σ=[a]) (λi v _=>∃l,es[i]? =some l/\v=.int l.2.num) (fj hq) ⟨_,rfl⟩ (by rw[gH,zzk];omega) ?_ ?_
 ·rintro Da i x hx σ H5 R ⟨_,rfl⟩ sm hD _ kk
  obtain⟨l,aa,rfl⟩:=Ky hx;obtain⟨dx,nv,ab,hn⟩:=(hE l (zzp aa)).same sm;have hC:=aaV T l.2;walk_at "i";exact rd ab hC.c hC.n (qW l.2 nv) (kk _ _ H5 ⟨_,rfl⟩ (same_refl _) λH' _=>⟨l,aa,rfl⟩)
 ·intro Da H' acc hD sm hA z hF
  rw[YB (f:=λl=>l.2.num) (by rw[z,gH]) hF]at hA;exact k Da H' hD sm hA
def agJ{g:TG}{tb:TS}{D:Ends}{σ:L2.St}{H:Hp}{a b:Addr}{xs ys:List V}(q:Nat->L2.St->Hp->Prop)(n:Nat)(ac:n<=xs.length)(ab:n<=ys.length)(z:xs.length<=n\/ys.length<=n)(h0:q 0 σ H)(hl:∀i σ H,i<=n->q i σ H->SqL K H a xs/\SqL K H b ys)
  (hs:∀i x y σ H p,xs[i]? =some x->ys[i]? =some y->q i σ H->H p=none->g (.ref p) σ (upd H p (.tup [x,y])) λσ2 H2=>tb {D with nx:=q (i+1),ct:=q (i+1),bk:=D.nx} σ2 H2) (hd:∀σ H,q n σ H->D.nx σ H):CN (Itz K a b) g tb D σ H:=by
 refine⟨λi m σ H=>m=n - i/\i<=n/\q i σ H,⟨n,by simp,zzB _,h0⟩,?_⟩;rintro i m σ H ⟨rfl,hi,p⟩;obtain⟨q1,q2⟩:=hl i σ H hi p;by_cases aa:i<n
 ·have h1:i<xs.length:=by omega
  have h2:i<ys.length:=by omega
  refine .inr ⟨⟨xs,ys,xs[i],ys[i],q1,q2,by simp,by simp⟩,q (i+1),λσ' H' p'=>⟨n - (i+1),by omega,rfl,aa,p'⟩,λv H' y=>?_⟩;obtain⟨pp,x,y,hp,rfl,rfl,e1,e2⟩:=y;exact hs i x y σ _ pp (e1 xs q1) (e2 ys q2) p hp
 ·have e:i=n:=by omega
  subst e;exact .inl ⟨⟨xs,ys,q1,q2,z⟩,hd σ H p⟩
noncomputable def Fv(K:Fg_):Sp:=λvs H Q _=>∃(a:Addr)(ns:List Int),vs=[.ref a]/\SqL K H a (ns.map V.int)/\ns.length<64/\ns.Nodup/\∀H',Same H H'->Q .non H'
def Fi(T:Txt K mg A D):gJ P w K mg base CX0 1 A.uF D.uF ["numbers"] (Fv K):=by
 refine T.wH.F.okv jy λ_ _ _ _ H vs Q E hr h=>?_
 ·obtain⟨a,ns,rfl,hS,hl,hu,k⟩:=h
  refine ⟨_,(eU (fL (i:=1) jy.nd rfl orl (fH (Pn (K:=K)) (by rfl) T.xU (by decide+kernel) (pav 0 eV)))
   (eY (kE zzM rfl (Xg (K:=K) (by rfl) T.xV (pav 1 (eQ (Je (Ig (K:=K)) (pvD 1) (PQ fB) Ol) eV))) (jV (K:=K) (n:=2) rfl (fZ (fG (i:=2) jy.nd rfl orl) (fZ (fG (i:=3) jy.nd rfl orl) jU)))
    (eY (iC (fK (qX) (pvD 2) (pvD 3) (fX _)) (eY (iB)) gn))))),?_⟩
  simp only[start_eq];walk_at "m";refine⟨ns,hS,hl,λp q hp ad ah=>?_⟩;have ae:q.Nodup:=ad.nodup_iff.mpr hu;have S1:=eZ (o:=.lst (q.map V.int)) hp;have h1:(upd H p (.lst (q.map V.int))) p=some (.lst (q.map V.int)):=eX;generalize upd H p (.lst (q.map V.int))=H1 at S1 h1
  try dsimp only
  rw[ap_for];walk_at "i";refine⟨_,fj h1,λpc ab=>?_⟩;rw[show Ny (q.map V.int) (some 1) none=(q.drop 1).map V.int by rw[Ya1];exact QM (q.map V.int) 1];have S2:=S1.trans (eZ (o:=.lst ((q.drop 1).map V.int)) ab);have h2:(upd H1 pc (.lst ((q.drop 1).map V.int))) pc=some (.lst ((q.drop 1).map V.int)):=eX;have z:=eZ (o:=.lst ((q.drop 1).map V.int)) ab _ _ h1;generalize upd H1 pc (.lst ((q.drop 1).map V.int))=H2 at S2 h2 z;refine⟨⟨_,fj z⟩,⟨_,fj h2⟩,?_⟩
  refine agJ (K:=K) (a:=p) (b:=pc) (xs:=q.map V.int) (ys:=(q.drop 1).map V.int) (λi σ Hx=>(∃v2 v3,σ=[some (.ref a),some (.ref p),v2,v3])/\Same H2 Hx) (q.length - 1) (by rw[z0];omega) (by rw[z0,yyw];omega) (.inr (by rw[z0,yyw];omega))
   ⟨⟨_,_,rfl⟩,same_refl _⟩ (λi σ Hx _ ⟨_,s⟩=>⟨s.seq (fj z),s.seq (fj h2)⟩) ?_ ?_
  ·rintro i x y σ H3 pt hx hy ⟨⟨v2,v3,rfl⟩,s3⟩ af
   rw[zzl]at hx hy;obtain⟨m1,ag,rfl⟩:=Zs.mp hx;obtain⟨m2,aa,rfl⟩:=Zs.mp hy;rw[ZP]at aa
   have ac:m1≠m2:=by
    obtain⟨q1,e1⟩:=zzm.mp ag;obtain⟨q2,e2⟩:=zzm.mp aa;have:=yyt.mp ae i (1+i) q1 q2 (by omega);rw[e1,e2]at this;exact this
   have S3:=s3.trans (eZ (o:=.tup [V.int m1,V.int m2]) af);have h3:(upd H3 pt (.tup [V.int m1,V.int m2])) pt=some (.tup [V.int m1,V.int m2]):=eX;generalize upd H3 pt (.tup [V.int m1,V.int m2])=H4 at S3 h3;walk_at "i";refine⟨_,gM h3,rfl,_,_,rfl,_,_,rfl,rfl,?_⟩;refine⟨rfl,?_⟩;rw[z4 (λe=>ac (by cases e;rfl))];exact S3
  ·rintro σ H3 ⟨⟨v2,v3,rfl⟩,s3⟩
   exact k _ (S2.trans s3)
noncomputable def Og(A:Adr):Sp:=λvs H Q _=>∃(x:Addr)(e:Ent),vs=[.ref x]/\IsE A H x e/\∀t,H t=none->Q (.ref t) (upd H t (.tup [.int e.day,.int e.num]))
def rC(T:Txt K mg A D):gJ P w K mg base CX0 1 A.uG D.uG ["entry"] (Og A):=by
 refine T.wI.F.okv Pb λ_ _ _ _ H vs Q E hr h=>?_
 ·obtain⟨x,e,rfl,⟨dx,z,hx,hn⟩,k⟩:=h
  refine⟨_,(eY (fJ (jQ (eQ (fv K 0) (eQ (fv K 0) eV))))),?_⟩;have q:=aaV T e;walk_at "a";exact rd hx q.c q.d (RV e z) (rd hx q.c q.n (qW e z) ⟨sz,λt ht=>k t ht⟩)
noncomputable def agi:V->Int
 |.int i=>i
 |_=>0
noncomputable def kfE(H:Hp):V->List Int
 |.ref b=>match H b with
  |some (.ins _ _ fs)=>[agi ((fs.lookup (Str.ofString "day")).getD .non),agi ((fs.lookup (Str.ofString "number")).getD .non)]
  |_=>[]
 |_=>[]
def Dm{H:Hp}{b:Addr}{e:Ent}(h:IsE A H b e):kfE H (.ref b)=[e.day,e.num]:=by
 obtain⟨dx,z,q,_⟩:=h;unfold kfE;dsimp only;rw[q];dsimp only;rw[RV,qW];rfl
noncomputable def BfE(d e:Ent):Prop:=d.day<e.day\/(d.day=e.day/\d.num<e.num)
def BfE.asym{d e:Ent}(h:BfE d e)(h':BfE e d):False:=by
 unfold BfE at h h';omega
def acJ{d e:Ent}(h:Bp [d.day,d.num] [e.day,e.num] false=true)(hn:d.num≠e.num):BfE d e:=by
 rw[Bp]at h;by_cases q:d.day=e.day
 ·rw[z8 q,Bp,z4 hn]at h
  exact .inr ⟨q,zzW h⟩
 ·rw[z4 q]at h
  exact .inl (zzW h)
def adV{l k:List Ent}(h:l.Perm k)(h1:l.Pairwise BfE)(h2:k.Pairwise BfE):l=k:=List.Perm.eq_of_pairwise (λa b _ _ x y=>(x.asym y).elim) h1 h2 h
def HJ{α:Type}{f:α->V}:∀{zs ys:List V},zs.Perm ys->∀{rs:List α},ys=rs.map f->∃q:List α,zs=q.map f/\q.Perm rs:=by
 intro zs ys h
 induction h with
 |nil=>intro rs e;exact⟨[],rfl,by cases rs with|nil=>exact .nil|cons _ _=>cases e⟩
 |cons x _ ih=>
  intro rs e
  cases rs with
  |nil=>cases e
  |cons r rs=>
   rw[z6]at e;obtain⟨z,e2⟩:=yyQ e;obtain⟨q,a1,a2⟩:=ih e2;exact⟨r::q,by rw[z6,<-a1,z],a2.cons r⟩
 |swap x y l=>
  intro rs e
  cases rs with
  |nil=>cases e
  |cons r rs=>cases rs with
   |nil=>cases e
   |cons r2 rs=>
    rw[z6,z6]at e;obtain⟨z,e2⟩:=yyQ e;obtain⟨e3,e4⟩:=yyQ e2;exact⟨r2::r::rs,by rw[z6,z6,z,e3,e4],.swap _ _ _⟩
 |trans _ _ ih1 ih2=>
  intro rs e;obtain⟨r2,a1,a2⟩:=ih2 e;obtain⟨r3,b1,b2⟩:=ih1 a1;exact⟨r3,b1,b2.trans a2⟩
noncomputable def Oe(A:Adr):Sp:=λvs H Q _=>∃(q:Addr)(es:EL),vs=[.ref q]/\H q=some (.lst (iz es))/\nG A H es/\es.length<64/\(es.map (·.2.num)).Nodup/\
 ∀p es' H',Same H H'->H p=none->H' p=some (.lst (iz es'))->es'.Perm es->(es'.map (·.2)).Pairwise BfE->Q (.ref p) H'
def Pa(T:Txt K mg A D):gJ P w K mg base CX0 4 A.uH D.uH ["entries"] (Oe A):=by
 refine T.wJ.F.okv Qn λ_ _ _ _ H vs Q E hr h=>?_
 ·obtain⟨q,es,rfl,hq,hE,hl,hu,k⟩:=h
  refine ⟨_,(eU (gj (pcg (Fi T) hr T.wH (Gr T) (eQ (gF (cap:=[none]) (N':=["entry"]) rfl (by walk_at "c") (gm (K:=K) (pv 0)) (λ_ _ _ _=>(fG (i:=0) nd1 rfl orl orr)) (λ_ _ _ _=>gQ) (λ_ _ _ _=>(fv K 0))) eV)))
   (eY (fJ (Fx (K:=K) (by rfl) (Hl (rC (K:=K) T) (hr.mono (by decide)) (tL T) (by rfl) T.xU (by decide+kernel) (by rfl) T.wI.m (pav 0 eV)))))),?_⟩
  simp only[start_eq];walk_at "m";refine⟨⟨_,fj hq⟩,aal T hq hE (by omega) λD1 H1 ah s1 h1=>?_⟩;refine⟨D1,_,rfl,fj h1,by rw[z0];exact hl,hu,λH2 s2=>?_⟩;have S2:=s1.trans s2;have aa:=hE.same S2;walk_at "i";refine⟨_,fj (S2 _ _ hq),by rw[gH];exact hl,kfE H2,λy hy=>?_,λp zs H3 s3 hn hz ac ad=>?_⟩
  ·obtain⟨o,ho,rfl⟩:=z3.mp hy
   rw[Dm (aa o ho)];refine⟨by simp,λH5 s5 R hR=>⟨o.1,o.2,rfl,(aa o ho).same s5,λt ht=>hR t _ (eZ ht) ?_⟩⟩;rw[Dm (aa o ho)];exact eX
  ·obtain⟨os,rfl,ab⟩:=HJ (f:=λr:Addr×Ent=>V.ref r.1) ac rfl
   have ae:es.Pairwise λa b=>a.2.num≠b.2.num:=yyk.mp hu
   have hou':os.Pairwise λa b=>a.2.num≠b.2.num:=by
    have:(os.map λr=>r.2.num).Nodup:=(ab.map λr=>r.2.num).nodup_iff.mpr hu;exact yyk.mp this
   have ag:=ad 2 (λy hy=>by
    obtain⟨r,hr,rfl⟩:=z3.mp hy;rw[Dm (aa r hr)];rfl) (by
    refine yyk.mpr (yyk.mpr (List.Pairwise.imp_of_mem (fun{a b} ha hb af z=>af ?_) ae));rw[Dm (aa a ha),Dm (aa b hb)]at z;exact(yyQ (yyQ z).2).1)
   refine k p os H3 (S2.trans s3) (S2.free hn) hz ab ?_;refine yyk.mpr (List.Pairwise.imp_of_mem (fun{a b} ha hb h=>?_) ((yyk.mp ag).and hou'));have h1:=h.1;rw[Dm (aa a (ab.mem_iff.mp ha)),Dm (aa b (ab.mem_iff.mp hb))]at h1;exact acJ h1 h.2
structure fP where
 n:Int
 s:Int
 p:Int
 c:Int
noncomputable def fP.fs(d:fP):List (Str×V):=[("number",.int d.n),("since",.int d.s),("pieces",.int d.p),("cost",.int d.c)]
noncomputable def fP.vs(d:fP):List V:=[.int d.n,.int d.s,.int d.p,.int d.c]
noncomputable def jw(A:Adr)(H:Hp)(x:Addr)(d:fP):Prop:=∃dx,H x=some (.ins A.vG dx d.fs)
def jw.same{H H':Hp}{x:Addr}{d:fP}(h:jw A H x d)(s:Same H H'):jw A H' x d:=let⟨dx,e⟩:=h;⟨dx,s _ _ e⟩
def jw.but{H H':Hp}{D:Addr}{x:Addr}{d:fP}(h:jw A H x d)(q:x≠D)(s:But D H H'):jw A H' x d:=let⟨dx,e⟩:=h;⟨dx,s _ _ q e⟩
noncomputable def pP(A:Adr):Sp:=λvs H Q _=>∃(x:Addr)(d:fP)(B:Hp)(dx:Addr),vs=.ref x::d.vs/\New B H x A.vG dx []/\∀H',New B H' x A.vG dx d.fs->Q .non H'
def jb(T:Txt K mg A D):gJ P w K mg base CX0 1 A.uL D.uL ["self", "number", "since", "pieces", "cost"] (pP A):=by
 refine T.wO.ok Es (by walk_at "v") (λ_ _ _ s H vs Q E z h=>?_)
 ·obtain⟨x,⟨n,s,p,c⟩,B,dx,rfl,q,k⟩:=h
  refine ⟨_,(eU (gw (K:=K) (pv 0) (pvD 1) rfl)
   (eU (gw (K:=K) (pv 0) (pvD 2) rfl)
   (eU (gw (K:=K) (pv 0) (pvD 3) rfl)
   (eY (gw (K:=K) (pv 0) (pvD 4) rfl))))),?_⟩
  simp only[fP.vs];walk_at "a";refine sw q.h T.y4 T.y6 (by decide) (?_);rw[qj _ _ (by decide+kernel)];have q:=q.put (gs:=[]++[(Str.ofString "number",V.int n)]) rfl;refine sw q.h T.y4 T.y8 (by simp) (?_);rw[iV (f:=Str.ofString "since") ["number"]];have q:=q.put (gs:=([]++[(Str.ofString "number",V.int n)])++[(Str.ofString "since",V.int s)]) rfl;refine sw q.h T.y4 T.y9 (by simp) (?_);rw[iV (f:=Str.ofString "pieces") ["number", "since"]];have q:=q.put (gs:=(([]++[(Str.ofString "number",V.int n)])++[(Str.ofString "since",V.int s)])++[(Str.ofString "pieces",V.int p)]) rfl;refine sw q.h T.y4 T.za (by simp) (?_);rw[iV (f:=Str.ofString "cost") ["number", "since", "pieces"]];exact k _ (q.put rfl)
def su{R:Hp->Prop}{E:XK}{H:Hp}{x dx:Addr}(d:fP)(hx:H x=none)(q:H dx=none)(k:∀H',Same H H'->jw A H' x d->R H'):
  pP A (.ref x::d.vs) (upd (upd H dx (.own x)) x (.ins A.vG dx [])) (λv H2=>v=.non/\R H2) E:=
 ⟨x,d,H,dx,rfl,pJ hx q,λH' z=>⟨rfl,k H' z.s ⟨dx,z.h⟩⟩⟩
abbrev RL:=List (Addr×fP)
noncomputable def gq(rs:RL):List V:=rs.map λr=>V.ref r.1
noncomputable def jd(A:Adr)(H:Hp)(rs:RL):Prop:=∀r∈rs,jw A H r.1 r.2
theorem jd.same{H H':Hp}{rs:RL}(h:jd A H rs)(s:Same H H'):jd A H' rs:=λr q=>(h r q).same s
structure Good(d:fP):Prop where
 n:0<=d.n/\d.n<=1000000
 s:0<=d.s/\d.s<=1000000
 p:1<=d.p/\d.p<=1000000000
 c:0<=d.c/\d.c<=1000000000000000000
def iG{rs:RL}{i:Nat}{y:V}(h:(gq rs)[i]? =some y):∃r,rs[i]? =some r/\y=.ref r.1:=by
 unfold gq at h;rw[zzl]at h
 cases e:rs[i]? with
 |none=>rw[e]at h;cases h
 |some r=>rw[e]at h;exact⟨r,rfl,(zzq h).symm⟩
def fM(rs:RL):(gq rs).length=rs.length:=by unfold gq;rw[z0]
def get_mem{rs:RL}{i:Nat}{r:Addr×fP}(h:rs[i]? =some r):r∈rs:=zzp h
def acS(F:V->Hp->Addr×fP->Prop){acc:List V}{H:Hp}:∀{ds:List fP},acc.length=ds.length->(∀(i:Nat) v,acc[i]? =some v->∃b d,ds[i]? =some d/\v=.ref b/\F v H (b,d))->
  ∃rs:RL,acc=gq rs/\rs.map (·.2)=ds/\∀r∈rs,F (.ref r.1) H r:=by
 induction acc with
 |nil=>
  intro ds q _
  cases ds with
  |nil=>exact⟨[],rfl,rfl,λr h=>by cases h⟩
  |cons _ _=>simp at q
 |cons v acc ih=>
  intro ds q h
  cases ds with
  |nil=>simp at q
  |cons d ds=>
   obtain⟨b,d',e,rfl,hf⟩:=h 0 v rfl;cases e;obtain⟨rs,e1,e2,e3⟩:=ih (ds:=ds) (by simpa using q) λi v hv=>h (i+1) v hv;refine⟨(b,d)::rs,by rw[e1];rfl,by rw[z6,e2],λr z=>?_⟩;rcases zzb.mp z with rfl|z
   ·exact hf
   ·exact e3 r z
noncomputable def Wl(H:Hp)(Q:VK)(ns:List Int):Prop:=∀p H',Same H H'->H p=none->H' p=some (.lst (ns.map V.int))->Q (.ref p) H'
def oO{q l2:List Int}(h:q.Perm l2):q.sum=l2.sum:=by
 induction h with
 |nil=>rfl
 |cons x _ ih=>rw[zzr,zzr,ih]
 |swap x y l=>rw[zzr,zzr,zzr,zzr];omega
 |trans _ _ ih1 ih2=>rw[ih1,ih2]
noncomputable def pcs(ls:RL):Int:=(ls.map (·.2.p)).sum
structure Shp(ns:List Int)(ls:RL):Prop where
 u:(ls.map (·.2.n)).Nodup
 p:∀l∈ls,1<=l.2.p
 m:∀l∈ls,l.2.n∈ns
noncomputable def Qp(l:Addr×fP):Int×Int:=(l.2.n,l.2.p)
noncomputable def Sim(ls ms:RL):Prop:=ms.map Qp=ls.map Qp
def Sim.len{ls q:RL}(h:Sim ls q):q.length=ls.length:=by simpa using congrArg List.length h
def Sim.ns{ls q:RL}(h:Sim ls q):q.map (·.2.n)=ls.map (·.2.n):=by
 have:=congrArg (List.map Prod.fst) h
 rwa [zzj,zzj]at this
def Sim.ps{ls q:RL}(h:Sim ls q):q.map (·.2.p)=ls.map (·.2.p):=by
 have:=congrArg (List.map Prod.snd) h
 rwa [zzj,zzj]at this
theorem Sim.pcs{ls q:RL}(h:Sim ls q):pcs q=pcs ls:=by unfold My.pcs;rw[h.ps]
def Sim.shp{ns:List Int}{ls z:RL}(h:Sim ls z)(s:Shp ns ls):Shp ns z:=by
 refine⟨by rw[h.ns];exact s.u,λl hl=>?_,λl hl=>?_⟩
 ·have:l.2.p∈z.map (·.2.p):=z3.mpr ⟨l,hl,rfl⟩
  rw[h.ps]at this;obtain⟨q,hq,e⟩:=z3.mp this;exact e▸s.p q hq
 ·have:l.2.n∈z.map (·.2.n):=z3.mpr ⟨l,hl,rfl⟩
  rw[h.ns]at this;obtain⟨q,hq,e⟩:=z3.mp this;exact e▸s.m q hq
theorem Shp.nil{ns:List Int}:Shp ns []:=⟨.nil,λl h=>(zzd h).elim,λl h=>(zzd h).elim⟩
theorem qi{α:Type} [DecidableEq α]:∀{l k:List α},l.Nodup->(∀x∈l,x∈k)->l.length<=k.length
 |[],_,_,_=>zzB _
 |x::l,k,h,s=>by
  have h':=zzw.mp h;have q:x∈k:=s x (.head _);have:=qi (l:=l) (k:=k.erase x) h'.2 λy z=>(yy9 (λe=>by subst e;exact h'.1 z)).mpr (s y (.tail _ z));rw[yyP q]at this;have hp:0<k.length:=yyZ q;rw[zzu];omega
def Shp.len{ns:List Int}{ls:RL}(s:Shp ns ls):ls.length<=ns.length:=by
 have:=qi s.u λn hn=>by
  obtain⟨l,q,rfl⟩:=z3.mp hn;exact s.m l q
 rwa [z0]at this
def Ja(l:Addr×fP)(ls:RL):pcs (l::ls)=l.2.p+pcs ls:=zzr
theorem rB:∀{ls:RL},(∀l∈ls,1<=l.2.p)->(ls.length:Int)<=pcs ls
 |[],_=>zz3 _
 |l::ls,h=>by
  have h1:=h l (.head _);have h2:=rB (ls:=ls) λq z=>h q (.tail _ z);rw[Ja,zzu];omega
theorem Qq:∀{ls:RL}{l:Addr×fP},(∀l∈ls,1<=l.2.p)->l∈ls->l.2.p<=pcs ls
 |q::ls,l,h,hl=>by
  rw[Ja];have h2:=rB (ls:=ls) λq z=>h q (.tail _ z);rcases zzb.mp hl with rfl|hl
  ·omega
  ·have:=Qq (ls:=ls) (λq z=>h q (.tail _ z)) hl
   have:=h q (.head _);omega
def JD{a b:RL}(h:a.Perm b):pcs a=pcs b:=oO (h.map (λl:Addr×fP=>l.2.p))
noncomputable def Uv:Sp:=λvs H Q _=>∃a p w:Int,vs=[.int a,.int p,.int w]/\Bw a p/\Tr 0 w/\Q (.int (a*p/w)) H
def HS(T:Txt K mg A D):gJ P w K mg base CX0 1 A.uS D.uS ["amount", "part", "whole"] Uv:=by
 refine T.wV.F.okv Tg λ_ _ _ _ H vs Q E z h=>?_
 ·obtain⟨a,p,q,rfl,h1,h2,k⟩:=h
  refine⟨_,(eY (fJ (fQ iQ (fQ jq (pvD 0) (pvD 1)) (pvD 2)))),?_⟩;walk_at "a";exact⟨h1,h2,k⟩
noncomputable def Ko(A:Adr):Sp:=λvs H Q _=>∃(x:Addr)(d:fP)(p:Int),vs=[.ref x,.int p]/\jw A H x d/\Bw d.c p/\Tr 0 d.p/\
 ∀t y v H',Same H H'->H t=none->H' t=some (.tup [.ref y,v])->jw A H' y ⟨d.n,d.s,p,d.c*p/d.p⟩->(p=d.p->v=.non)->(p≠d.p->∃z,v=.ref z/\jw A H' z ⟨d.n,d.s,d.p - p,d.c - d.c*p/d.p⟩)->Q (.ref t) H'
def Nq(T:Txt K mg A D):gJ P w K mg base CX0 3 A.uY D.uY ["self", "pieces"] (Ko A):=by
 refine T.xf.ok pL (by walk_at "v") (λ_ _ _ s H vs Q E hr h=>?_)
 ·obtain⟨x,⟨n,s,p,c⟩,p',rfl,⟨dx,hx⟩,m1,m2,k⟩:=h
  refine ⟨_,(eU (fL (i:=2) pL.nd rfl orl (pcg (HS T) hr T.wV (Mi T) (eQ (fv K 0) (pav 1 (eQ (fv K 0) eV)))))
   (eU (fL (i:=3) pL.nd rfl orl (lC T.zi (jb (K:=K) T) (hr.mono (by decide)) (by rfl) T.yc (jh T) .nil iI (eQ (fv K 0) (eQ (fv K 0) (pav 1 (pav 2 eV))))))
   (eU (iC (fK (qX) (pvD 1) (fv K 0) (fX _)) (eY (fJ (jQ (pav 3 (eQ jx eV))))) gn)
   (eY (fJ (jQ (pav 3 (eQ (lC T.zi (jb (K:=K) T) (hr.mono (by decide)) (by rfl) T.yc (jh T) .nil iI (eQ (fv K 0) (eQ (fv K 0) (eQ (fQ nO (fv K 0) (pvD 1)) (eQ (fQ nO (fv K 0) (pvD 2)) eV))))) eV)))))))),?_⟩
  simp only[start_eq];walk_at "m";refine rd hx T.y4 T.za (by rfl) (rd hx T.y4 T.y9 (by rfl) ⟨c,p',p,rfl,m1,m2,?_⟩);walk_at "m";refine rd hx T.y4 T.y6 (by rfl) (rd hx T.y4 T.y8 (by rfl) (λy dy hy aa _=>?_));refine su (A:=A) ⟨n,s,p',c*p'/p⟩ hy aa λH1 s1 hY=>?_;have q:=s1 _ _ hx;walk_at "m";refine rd q T.y4 T.y9 (by rfl) ⟨rfl,?_⟩;by_cases e:p'=p
  ·rw[z8 (by simp[e])]
   refine⟨sz,λt ht=>k t y .non _ (s1.trans (eZ ht)) (s1.free ht) eX (hY.same (eZ ht)) (λ_=>rfl) λh=>(h e).elim⟩
  ·rw[z4 (by simp[e])]
   refine rd q T.y4 T.y6 (by rfl) (rd q T.y4 T.y8 (by rfl) (rd q T.y4 T.y9 (by rfl) ⟨_,rfl,rd q T.y4 T.za (by rfl) ⟨_,rfl,λz dz hz ab _=>?_⟩⟩));refine su (A:=A) ⟨n,s,p - p',c - c*p'/p⟩ hz ab λH2 s2 hZ=>⟨sz,λt ht=>?_⟩;exact k t y (.ref z) _ (s1.trans (s2.trans (eZ ht))) ((s1.trans s2).free ht) eX (hY.same (s2.trans (eZ ht))) (λh=>(e h).elim) λ_=>⟨z,rfl,hZ.same (eZ ht)⟩
noncomputable def shares(a W:Int):Int->List Int->List Int
 |_,[]=>[]
 |t,w::r=>(a*(t+w)/W - a*t/W)::shares a W (t+w) r
theorem Dl(a W:Int):∀(t:Int)(l:List Int)(x:Int),shares a W t (l++[x])=shares a W t l++[a*(t+l.sum+x)/W - a*(t+l.sum)/W]
 |t,[],x=>by simp[shares]
 |t,y::r,x=>by
  show _::shares a W (t+y) (r++[x])=_::shares a W (t+y) r++_;rw[Dl a W (t+y) r x,zzr,Int.add_assoc t y r.sum];rfl
theorem qy(a W:Int):∀(t:Int)(l:List Int),(shares a W t l).length=l.length
 |_,[]=>rfl
 |t,y::r=>congrArg (·+1) (qy a W (t+y) r)
theorem qu(a W:Int):∀(t:Int)(l:List Int),(shares a W t l).sum=a*(t+l.sum)/W - a*t/W
 |t,[]=>by simp[shares]
 |t,y::r=>by
  show((a*(t+y)/W - a*t/W)::shares a W (t+y) r).sum=_;rw[zzr,qu a W (t+y) r,zzr,Int.add_assoc t y r.sum];omega
theorem jN:∀{l:List Int},(∀x∈l,0<=x)->0<=l.sum
 |[],_=>by simp
 |x::r,h=>by
  have h1:=h x zze;have h2:=jN (l:=r) λy q=>h y (zzh _ q);rw[zzr];omega
def NQ{l:List Int}(h:∀x∈l,0<=x)(i:Nat):0<=(l.take i).sum/\(l.take i).sum<=l.sum:=by
 have h1:0<=(l.take i).sum:=jN λx q=>h x (yyz q);have h2:0<=(l.drop i).sum:=jN λx q=>h x (ZD q);have z:l.sum=(l.take i).sum+(l.drop i).sum:=by rw[<-zz5,zzN]
 omega
noncomputable def Aw(K:Fg_):Sp:=λvs H Q _=>∃(l:Addr)(ws:List Int),vs=[.ref l]/\SqL K H l (ws.map V.int)/\(∀x∈ws,0<=x)/\0<ws.sum/\ws.length<=1000/\∀H',Same H H'->Q (.int ws.sum) H'
def Av(T:Txt K mg A D):gJ P w K mg base CX0 1 A.uR D.uR ["weights"] (Aw K):=by
 refine T.wU.F.okv nJ λ_ _ _ _ H vs Q E hr h=>?_
 ·obtain⟨l,ws,rfl,hS,h0,hp,hl,k⟩:=h
  refine ⟨_,(eU (iC (lU (fH (Nh (K:=K) rfl) (by rfl) T.xW (by decide+kernel) (eQ (gF (cap:=[none]) (N':=["weight"]) rfl (by walk_at "c") (gm (K:=K) (pv 0)) (λ_ _ _ _=>(fG (i:=0) nd1 rfl orl orr)) (λ_ _ _ _=>gQ) (λ_ _ _ _=>(Iw (Lf) (pvD 0) fB (fX _)))) eV))) (eY (iB)) gn)
   (eU (fL (i:=1) nJ.nd rfl orl (fH (jE (K:=K) rfl) (by rfl) T.xS (by decide+kernel) (pav 0 eV)))
   (eU (iC (fK (qX) (pvD 1) fB (fX _)) (eY (iB)) gn)
   (eY (fJ (pvD 1)))))),?_⟩
  walk_at "a";refine⟨⟨_,hS⟩,?_⟩;refine iK.list (xs:=ws.map V.int) (λσ=>∃v,σ=[v]) (λ_=>true) (λv=>match v with|.int z=> .bl (decide (z<0))|_=> .non) hS ⟨none,rfl⟩ (by rw[z0,zzk];omega) ?_ ?_
  ·rintro x hx σ H5 R1 R2 ⟨v,rfl⟩ sm k1 k2
   obtain⟨c,_,rfl⟩:=z3.mp hx;walk_at "a";exact k1 rfl _ _ ⟨_,rfl⟩ (same_refl _)
  ·intro Da H' hD sm e
   rw[Fe,zzj]at e;walk_at "i";refine⟨ws.map λz=>decide (z<0),fj (by rw[e,zzj];rfl),?_⟩
   have q:(ws.map λz=>decide (z<0)).any id=false:=by
    rw[List.any_eq_false];intro b hb;obtain⟨z,hz,rfl⟩:=z3.mp hb;have:=h0 z hz;simp only[id,decide_eq_true_eq];omega
   rw[q];walk_at "a";refine⟨ws,sm.seq hS,?_⟩;rw[z4 (by omega)];exact k H' sm
noncomputable def aah(K:Fg_):Sp:=λvs H Q _=>∃(a:Int)(l:Addr)(ws:List Int),vs=[.int a,.ref l]/\SqL K H l (ws.map V.int)/\(∀x∈ws,0<=x)/\0<ws.sum/\ws.length<=1000/\ws.sum<2^63/\Wl H Q (shares a ws.sum 0 ws)
def Rc(T:Txt K mg A D):gJ P w K mg base CX0 2 A.uT D.uT ["amount", "weights"] (aah K):=by
 refine T.wW.F.okv kI λ_ _ _ _ H vs Q E hr h=>?_
 ·obtain⟨a,l,q,rfl,hS,h0,hp,hl,hw,k⟩:=h
  refine ⟨_,(eU (fL (i:=2) kI.nd rfl orl (pcg (Av T) hr T.wU (Cm T) (pav 1 eV)))
   (eU (fL (i:=3) kI.nd rfl orl (jc eV))
   (eU (fL (i:=4) kI.nd rfl orl fB)
   (eU (fL (i:=5) kI.nd rfl orl fB)
   (eU (kE zzM rfl (gm (K:=K) (pv 1)) (fG (i:=6) kI.nd rfl orl)
    (eU (fL (i:=4) kI.nd rfl orl (fQ iY (pvD 4) (pvD 6)))
    (eU (fL (i:=7) kI.nd rfl orl (pcg (HS T) hr T.wV (Mi T) (pav 0 (pav 4 (pav 2 eV)))))
    (eU (gj (lW (K:=K) zzF zzI zzJ iH (pvD 3) (eQ (fQ nO (pvD 7) (pvD 5)) eV)))
    (eY (fL (i:=5) kI.nd rfl orl (pvD 7)))))))
   (eY (fJ (pvD 3)))))))),?_⟩
  walk_at "a";refine⟨l,q,rfl,hS,h0,hp,hl,λH1 s1=>?_⟩;walk_at "a";refine⟨zzB _,λp ac=>⟨⟨_,(s1.trans (eZ ac)).seq hS⟩,?_⟩⟩;have z:H p=none:=s1.free ac;have hd:Tr 0 q.sum:=⟨hp,Yw (show q.sum.natAbs<2^63 by omega) (by decide)⟩
  refine mZ (xs:=q.map V.int) (λi σ H2=>(∃v6 v7,σ=[some (.int a),some (.ref l),some (.int q.sum),some (.ref p),some (.int (q.take i).sum),some (.int (a*(q.take i).sum/q.sum)),v6,v7])/\Same H H2/\H2 p=some (.lst ((shares a q.sum 0 (q.take i)).map V.int)))
   ⟨⟨none,none,by simp⟩,s1.upd z,by rw[eX];simp[shares]⟩ (λi σ H2 _ ⟨_,s2,_⟩=>s2.seq hS) ?_ ?_
  ·rintro i y σ H2 hi ⟨⟨v6,v7,rfl⟩,s2,h2⟩
   obtain⟨x,rfl,ab⟩:=NZ hi;have ad:i<q.length:=(zzm.mp ab).1;have ht:q.take (i+1)=q.take i++[x]:=by rw[zzO,ab];rfl
   have aa:(q.take (i+1)).sum=(q.take i).sum+x:=by rw[ht,zz5];simp
   have hb:=NQ h0 (i+1);rw[aa]at hb;walk_at "a";refine⟨a,(q.take i).sum+x,q.sum,rfl,Dy (by omega) (by omega),hd,?_⟩;walk_at "a";refine⟨tyL (fj h2),_,h2,?_,by rw[aa],by rw[aa],s2.upd z,?_⟩
   ·rw[z0,qy,zzR]
    exact Xh (by omega)
   ·rw[eX,ht,Dl,zza,yy0]
    rfl
  ·rintro σ H2 ⟨⟨v6,v7,rfl⟩,s2,h2⟩
   rw[z0,yyb]at h2;walk_at "a";exact k p H2 s2 z h2
def CP{ls:RL}{f:Addr×fP->Int}{acc:List V}(hl:acc.length=ls.length)(h:∀(i:Nat) v,acc[i]? =some v->∃l,ls[i]? =some l/\v=.int (f l)):acc=(ls.map f).map V.int:=by
 refine yyU (by simp[hl]) λi h1 h2=>?_;obtain⟨l,q,z⟩:=h i acc[i] (by simp);rw[z];have h3:i<ls.length:=by omega
 have:ls[i]=l:=by
  rw[zzg h3]at q;exact zzq q
 simp[this]
noncomputable def SX(A:Adr):Sp:=λvs H Q _=>∃(q:Addr)(ls:RL),vs=[.ref q]/\H q=some (.lst (gq ls))/\jd A H ls/\ls.length<=100/\∀H',Same H H'->Q (.int ((ls.map (·.2)).map fP.c).sum) H'
def Tz(T:Txt K mg A D):gJ P w K mg base CX0 1 A.uW D.uW ["lots"] (SX A):=by
 refine T.wZ.F.okv TY λ_ _ _ _ H vs Q E hr h=>?_
 ·obtain⟨q,ls,rfl,hq,hL,hl,k⟩:=h
  refine⟨_,(eY (fJ (fH (jE (K:=K) rfl) (by rfl) T.xS (by decide+kernel) (eQ (gF (cap:=[none]) (N':=["lot"]) rfl (by walk_at "c") (gm (K:=K) (pv 0)) (λ_ _ _ _=>(fG (i:=0) nd1 rfl orl orr)) (λ_ _ _ _=>gQ) (λ_ _ _ _=>(fv K 0))) eV)))),?_⟩;walk_at "a";refine⟨⟨_,fj hq⟩,?_⟩;refine iK.listE (K:=K) (λσ=>∃a,σ=[a]) (λi v _=>∃l,ls[i]? =some l/\v=.int l.2.c) (fj hq) ⟨_,rfl⟩ (by rw[fM,zzk];omega) ?_ ?_
  ·rintro Da i x hx σ H5 R ⟨_,rfl⟩ sm hD _ kk
   obtain⟨l,aa,rfl⟩:=iG hx;obtain⟨dx,ab⟩:=(hL l (get_mem aa)).same sm;walk_at "i";exact rd ab T.y4 T.za (by rfl) (kk _ _ H5 ⟨_,rfl⟩ (same_refl _) λH' _=>⟨l,aa,rfl⟩)
  ·intro Da H' acc hD sm hA z hF
   rw[CP (f:=λl=>l.2.c) (by rw[z,fM]) hF]at hA;have ec:(ls.map (·.2)).map fP.c=ls.map (λl=>l.2.c):=by rw[zzj];rfl
   rw[ec]at k;walk_at "a";exact⟨_,fj hA,k H' sm⟩
noncomputable def Mz(A:Adr):Sp:=λvs H Q _=>∃(q:Addr)(ls:RL),vs=[.ref q]/\H q=some (.lst (gq ls))/\jd A H ls/\ls.length<=100/\∀H',Same H H'->Q (.int ((ls.map (·.2)).map fP.p).sum) H'
def LR(T:Txt K mg A D):gJ P w K mg base CX0 1 A.vm D.vm ["lots"] (Mz A):=by
 refine T.xx.F.okv Kw λ_ _ _ _ H vs Q E hr h=>?_
 ·obtain⟨q,ls,rfl,hq,hL,hl,k⟩:=h
  refine⟨_,(eY (fJ (fH (jE (K:=K) rfl) (by rfl) T.xS (by decide+kernel) (eQ (gF (cap:=[none]) (N':=["lot"]) rfl (by walk_at "c") (gm (K:=K) (pv 0)) (λ_ _ _ _=>(fG (i:=0) nd1 rfl orl orr)) (λ_ _ _ _=>gQ) (λ_ _ _ _=>(fv K 0))) eV)))),?_⟩;walk_at "a";refine⟨⟨_,fj hq⟩,?_⟩;refine iK.listE (K:=K) (λσ=>∃a,σ=[a]) (λi v _=>∃l,ls[i]? =some l/\v=.int l.2.p) (fj hq) ⟨_,rfl⟩ (by rw[fM,zzk];omega) ?_ ?_
  ·rintro Da i x hx σ H5 R ⟨_,rfl⟩ sm hD _ kk
   obtain⟨l,aa,rfl⟩:=iG hx;obtain⟨dx,ab⟩:=(hL l (get_mem aa)).same sm;walk_at "i";exact rd ab T.y4 T.y9 (by rfl) (kk _ _ H5 ⟨_,rfl⟩ (same_refl _) λH' _=>⟨l,aa,rfl⟩)
  ·intro Da H' acc hD sm hA z hF
   rw[CP (f:=λl=>l.2.p) (by rw[z,fM]) hF]at hA;have ec:(ls.map (·.2)).map fP.p=ls.map (λl=>l.2.p):=by rw[zzj];rfl
   rw[ec]at k;walk_at "a";exact⟨_,fj hA,k H' sm⟩
noncomputable def psi(t:Int)(d:fP):Int:=max 0 (d.c - t*d.p)
noncomputable def phi(t:Int)(ds:List fP):Int:=(ds.map (psi t)).sum
def afF(t:Int)(d:fP):0<=psi t d:=by unfold psi;omega
theorem VF(t:Int):∀ds:List fP,0<=phi t ds
 |[]=>zz3 _
 |d::ds=>by
  have h1:=afF t d;have h2:=VF t ds;show 0<=psi t d+phi t ds;omega
def aay{t:Int}{a b:List fP}(h:a.Perm b):phi t a=phi t b:=oO (h.map (psi t))
theorem Cy{t u:Int}(h:t<=u):∀{ds:List fP},(∀d∈ds,1<=d.p)->phi u ds<=phi t ds
 |[],_=>zz3 _
 |d::ds,hp=>by
  have h1:=Cy h (ds:=ds) λe q=>hp e (.tail _ q);have h2:=zzQ h (show 0<=d.p by have:=hp d (.head _);omega);show psi u d+phi u ds<=psi t d+phi t ds;unfold psi;omega
theorem Vp:∀ds:List fP,(∀d∈ds,1<=d.p)->∃t,0<=t/\phi t ds=0
 |[],_=>⟨0,zz3 _,rfl⟩
 |d::ds,hp=>by
  obtain⟨t,h0,h1⟩:=Vp ds λe q=>hp e (.tail _ q);have hd:=hp d (.head _);refine⟨max t (max 0 d.c),by omega,?_⟩;have h2:=Cy (show t<=max t (max 0 d.c) by omega) (ds:=ds) λe q=>hp e (.tail _ q);have h3:=VF (max t (max 0 d.c)) ds;have z:max t (max 0 d.c)*1<=max t (max 0 d.c)*d.p:=Int.mul_le_mul_of_nonneg_left hd (by omega);show psi _ d+phi _ ds=0;unfold psi;omega
noncomputable def los(t:Int)(d:fP)(w:Int):Int:=t*w+psi t d - d.c*w/d.p - psi t ⟨d.n,d.s,d.p - w,d.c - d.c*w/d.p⟩
def agc{t w:Int}{d:fP}(h1:1<=w)(h2:w<=d.p):0<=los t d w:=by
 unfold los psi;have z:d.c*w/d.p*d.p<=d.c*w:=Int.ediv_mul_le _ (by omega);generalize aa:d.c*w/d.p=q at z
 have ha:q<=t*w+max 0 (d.c - t*d.p):=by
  refine yyq (a:=d.p) ?_ (by omega);refine Int.le_trans z ?_;by_cases c:d.c<=t*d.p
  ·rw[show max 0 (d.c - t*d.p)=0 by omega,yyo,zz9]
   exact zzQ c (by omega)
  ·rw[show max 0 (d.c - t*d.p)=d.c - t*d.p by omega]
   have:=Int.mul_nonneg (show 0<=d.c - t*d.p by omega) (show 0<=d.p - w by omega)
   grind
 have hb:t*(d.p - w)=t*d.p - t*w:=Yb7 ..;show 0<=t*w+max 0 (d.c - t*d.p) - q - max 0 (d.c - q - t*(d.p - w));rw[hb];omega
noncomputable def Ex(d:fP):Prop:=∃r:Int,0<=r/\d.c=r*d.p
def afh{t w:Int}{d:fP}(h1:1<=w)(h2:w<=d.p)(he:Ex d)(h:t*d.p<=d.c):los t d w=0:=by
 obtain⟨r,_,e⟩:=he;have hr:t<=r:=by rw[e]at h;exact yyq h (by omega)
 have hq:d.c*w/d.p=r*w:=by rw[e,zz9];exact yyr _ (by omega)
 have h3:=Int.mul_nonneg (show 0<=r - t by omega) (show 0<=d.p - w by omega);have h4:=Int.mul_nonneg (show 0<=r - t by omega) (show 0<=d.p by omega);unfold los psi;rw[hq,e];show t*w+max 0 (r*d.p - t*d.p) - r*w - max 0 (r*d.p - r*w - t*(d.p - w))=0;have q:(r - t)*d.p=r*d.p - t*d.p:=Int.sub_mul ..;have z:(r - t)*(d.p - w)=r*d.p - r*w - t*(d.p - w):=by grind
 have e3:t*(d.p - w)=t*d.p - t*w:=Yb7 ..;rw[<-q,<-z];rw[q]at h4;rw[z]at h3;rw[q,z];omega
def acE{d:fP}{w:Int}(h1:1<=d.p)(q:Ex d):Ex ⟨d.n,d.s,d.p - w,d.c - d.c*w/d.p⟩:=by
 obtain⟨r,z,e⟩:=q;refine⟨r,z,?_⟩;show d.c - d.c*w/d.p=r*(d.p - w);rw[e,zz9,yyr _ (by omega),Yb7]
theorem Ss{C N t:Int}(q:0<N)(h:C<=t*N):∀{ws:List Int}{s:Int},(∀w∈ws,0<=w)->∀(i:Nat)(c w:Int),(shares C N s ws)[i]? =some c->ws[i]? =some w->c<=t*w
 |[],s,_,i,c,w,h1,h2=>by simp at h2
 |x::ws,s,hp,i,c,w,h1,h2=>by
  cases i with
  |succ i=>exact Ss q h (λw hw=>hp w (.tail _ hw)) i c w h1 h2
  |zero=>
   cases h1;cases h2;have z:=hp x (.head _)
   have:=Int.ediv_le_ediv q (show C*(s+x)<=C*s+t*x*N by
    rw[ZY,zz9];exact Int.add_le_add_left (zzQ h z) _)
   rw[Int.add_mul_ediv_right _ _ (by omega)]at this;omega
theorem QV{C N t:Int}(q:0<N)(h:t*N<=C):∀{ws:List Int}{s:Int},(∀w∈ws,0<=w)->∀(i:Nat)(c w:Int),(shares C N s ws)[i]? =some c->ws[i]? =some w->t*w<=c
 |[],s,_,i,c,w,h1,h2=>by simp at h2
 |x::ws,s,hp,i,c,w,h1,h2=>by
  cases i with
  |succ i=>exact QV q h (λw hw=>hp w (.tail _ hw)) i c w h1 h2
  |zero=>
   cases h1;cases h2;have z:=hp x (.head _)
   have:=Int.ediv_le_ediv q (show C*s+t*x*N<=C*(s+x) by
    rw[ZY,zz9];exact Int.add_le_add_left (zzQ h z) _)
   rw[Int.add_mul_ediv_right _ _ (by omega)]at this;omega
theorem abb(t:Int):∀ds:List fP,(ds.map fP.c).sum - t*(ds.map fP.p).sum<=phi t ds
 |[]=>by simp[phi]
 |d::ds=>by
  have h:=abb t ds;show d.c+(ds.map fP.c).sum - t*(d.p+(ds.map fP.p).sum)<=psi t d+phi t ds;unfold psi;rw[ZY];omega
theorem abl{t:Int}:∀{ds:List fP},(∀d∈ds,t*d.p<=d.c)->phi t ds=(ds.map fP.c).sum - t*(ds.map fP.p).sum
 |[],_=>by simp[phi]
 |d::ds,h=>by
  have h1:=abl λe q=>h e (.tail _ q);have h2:=h d (.head _);show psi t d+phi t ds=d.c+(ds.map fP.c).sum - t*(d.p+(ds.map fP.p).sum);unfold psi;rw[h1,ZY];omega
theorem acK{t:Int}:∀{ds:List fP},(∀d∈ds,d.c<=t*d.p)->phi t ds=0
 |[],_=>rfl
 |d::ds,h=>by
  have h1:=acK λe q=>h e (.tail _ q);have h2:=h d (.head _);show psi t d+phi t ds=0;unfold psi;omega
noncomputable def qd(ls:RL):Int:=(ls.map (·.2.c)).sum
def pI(ls:RL):qd ls=((ls.map (·.2)).map fP.c).sum:=by unfold qd;rw[zzj];rfl
theorem abg{H:Hp}:∀{acc:List V}{ls:RL}{cs:List Int},acc.length=ls.length->cs.length=ls.length->(∀(i:Nat) v,acc[i]? =some v->∃b l d,ls[i]? =some l/\v=.ref b/\jw A H b d/\d.n=l.2.n/\d.p=l.2.p/\cs[i]? =some d.c)->∃q:RL,acc=gq q/\jd A H q/\Sim ls q/\q.map (·.2.c)=cs
 |[],ls,cs,hl,hc,_=>by
  cases ls with
  |nil=>cases cs with
   |nil=>exact⟨[],rfl,λr h=>(zzd h).elim,rfl,rfl⟩
   |cons _ _=>simp at hc
  |cons _ _=>simp at hl
 |v::acc,ls,cs,hl,hc,h=>by
  cases ls with
  |nil=>simp at hl
  |cons l ls=>
   cases cs with
   |nil=>simp at hc
   |cons c cs=>
    obtain⟨b,l',d,e,rfl,hb,e1,e2,e3⟩:=h 0 v rfl;cases e;cases e3;obtain⟨q,g1,g2,g3,g4⟩:=abg (acc:=acc) (ls:=ls) (cs:=cs) (by simpa using hl) (by simpa using hc) λi v hv=>h (i+1) v hv;refine⟨(b,d)::q,by rw[g1];rfl,λr z=>?_,?_,?_⟩
    ·rcases zzb.mp z with rfl|z
     ·exact hb
     ·exact g2 r z
    ·show Qp (b,d)::q.map Qp=Qp l::ls.map Qp
     rw[g3];unfold Qp;rw[e1,e2]
    ·rw[z6,g4]
def aeP{ls q:RL}{t:Int}(hp:∀l∈ls,1<=l.2.p)(hs:Sim ls q)(hc:q.map (·.2.c)=shares ((ls.map (·.2)).map fP.c).sum (pcs ls) 0 (ls.map (·.2.p))):phi t (q.map (·.2))<=phi t (ls.map (·.2)):=by
 cases ls with
 |nil=>
  obtain rfl:q=[]:=yyV.mp hs.len;exact zz3 _
 |cons l0 ls0=>
  have hN:0<pcs (l0::ls0):=by have:=rB hp;rw[zzu]at this;omega
  generalize hl:l0::ls0=ls at hp hs hc hN⊢
  have h0:∀w∈ls.map (·.2.p),0<=w:=λw hw=>by
   obtain⟨l,hl,rfl⟩:=z3.mp hw;have:=hp l hl;omega
  have aa:∀d∈q.map (·.2),∃i:Nat,(shares ((ls.map (·.2)).map fP.c).sum (pcs ls) 0 (ls.map (·.2.p)))[i]? =some d.c/\(ls.map (·.2.p))[i]? =some d.p:=λd hd=>by
   obtain⟨r,hr,rfl⟩:=z3.mp hd;obtain⟨i,hi,e⟩:=zzL hr;refine⟨i,?_,?_⟩
   ·rw[<-hc,zzl,zzg hi,e];rfl
   ·rw[<-hs.ps,zzl,zzg hi,e];rfl
  have z:((q.map (·.2)).map fP.c).sum=((ls.map (·.2)).map fP.c).sum:=by
   rw[zzj];show(q.map (·.2.c)).sum=_;rw[hc,qu,show(ls.map (·.2.p)).sum=pcs ls from rfl,yy0,yyr _ (by omega),Yb0,Int.zero_ediv,Zv]
  have ab:((q.map (·.2)).map fP.p).sum=((ls.map (·.2)).map fP.p).sum:=by
   rw[zzj,zzj];show(q.map (·.2.p)).sum=(ls.map (·.2.p)).sum;rw[hs.ps]
  by_cases c:((ls.map (·.2)).map fP.c).sum<=t*pcs ls
  ·rw[acK λd hd=>let⟨i,a,b⟩:=aa d hd;Ss hN c h0 i _ _ a b]
   exact VF _ _
  ·rw[abl λd hd=>let⟨i,a,b⟩:=aa d hd;QV hN (by omega) h0 i _ _ a b,z,ab]
   exact abb _ _
noncomputable def PJ(A:Adr)(m:Bool):Sp:=λvs H Q _=>∃(x q:Addr)(ls:RL),vs=[.ref x,.ref q]/\H q=some (.lst (gq ls))/\jd A H ls/\ls.length<=100/\(∀l∈ls,1<=l.2.p)/\pcs ls<2^60/\
 ∀p ms H',Same H H'->H p=none->H' p=some (.lst (gq ms))->jd A H' ms->Sim ls ms->qd ms=qd ls->(∀t,phi t (ms.map (·.2))<=phi t (ls.map (·.2)))->(m=false->ms=ls)->Q (.ref p) H'
def kY(T:Txt K mg A D):gJ P w K mg base CX0 1 A.uV D.uV ["self", "lots"] (PJ A false):=by
 refine T.wY.okv FT λ_ _ _ _ H vs Q E hr h=>?_
 ·obtain⟨x,q,ls,rfl,hq,hL,hl,z,hs,k⟩:=h
  refine⟨_,(eY (fJ (iT (ql (K:=K)) (by rfl) T.xL (by decide+kernel) (pav 1 eV)))),?_⟩;simp only[start_eq];walk_at "i";exact⟨_,.inl (fj hq),λp z=>k p ls _ (eZ z) z eX (hL.same (eZ z)) rfl rfl (λt=>zz3 _) λ_=>rfl⟩
def Cp(T:Txt K mg A D):gJ P w K mg base CX0 3 A.uX D.uX ["self", "lots"] (PJ A true):=by
 refine T.xc.okv pB λ_ _ _ _ H vs Q E hr h=>?_
 ·obtain⟨x,q,ls,rfl,hq,hL,hl,hp,hs,k⟩:=h
  refine ⟨_,(eU (iC (fK (qX) (fH (ji (K:=K)) (by rfl) T.xK (by decide+kernel) (pav 1 eV)) fB (fX _)) (eY (fJ (jc eV))) gn)
   (eU (fL (i:=2) pB.nd rfl orl (pcg (Rc T) hr T.wW (Vn T) (eQ (pcg (Tz T) hr T.wZ (VH T) (pav 1 eV)) (eQ (gF (cap:=[none]) (N':=["lot"]) rfl (by walk_at "c") (gm (K:=K) (pv 1)) (λ_ _ _ _=>(fG (i:=0) nd1 rfl orl orr)) (λ_ _ _ _=>gQ) (λ_ _ _ _=>(fv K 0))) eV))))
   (eY (fJ (gF (cap:=[none,none]) (N':=["lot", "cost"]) rfl (by walk_at "c") (Xg (K:=K) (by rfl) T.xV (pav 1 (pav 2 eV))) (λ_ _ _ _=>(jV (K:=K) (n:=2) rfl (fZ (fG (i:=0) (show(["lot", "cost"]:List Str).Nodup from by decide+kernel) rfl orl orr) (fZ (fG (i:=1) (show(["lot", "cost"]:List Str).Nodup from by decide+kernel) rfl orl orr) jU)))) (λ_ _ _ _=>gQ) (λ_ _ _ _=>(lC T.zi (jb (K:=K) T) (hr.mono (by decide)) (by rfl) T.yc (jh T) .nil iI (eQ (fv K 0) (eQ (fv K 0) (eQ (fv K 0) (pav 1 eV))))))))))),?_⟩
  simp only[start_eq];walk_at "n";refine⟨_,.inl (fj hq),?_⟩;rw[fM];have ao:=hp;have lz:∀n:Nat,n<=1000->n<=sizeLine:=λn h=>by rw[zzk];omega
  by_cases h0:ls=[]
  ·subst h0
   rw[z8 (by simp)];exact⟨lz _ (by decide),λp hp=>k p [] _ (eZ hp) hp eX (λr h=>(zzd h).elim) rfl rfl (λt=>zz3 _) λ_=>rfl⟩
  ·have au:0<ls.length:=yyC.mpr h0
   rw[z4 (by omega)];have ae:=rB hp;walk_at "n";refine⟨q,ls,rfl,hq,hL,hl,λH1 s1=>⟨⟨_,fj (s1 _ _ hq)⟩,?_⟩⟩;refine iK.listE (K:=K) (λσ=>∃a,σ=[a]) (λi v _=>∃l,ls[i]? =some l/\v=.int l.2.p) (fj (s1 _ _ hq)) ⟨_,rfl⟩ (lz _ (by rw[fM];omega)) ?_ ?_
   ·rintro Da i x hx σ H5 R ⟨_,rfl⟩ sm hD _ kk
    obtain⟨l,ab,rfl⟩:=iG hx;obtain⟨dx,aa⟩:=(hL l (get_mem ab)).same (s1.trans sm);walk_at "i";exact rd aa T.y4 T.y9 (by rfl) (kk _ _ H5 ⟨_,rfl⟩ (same_refl _) λH' _=>⟨l,ab,rfl⟩)
   ·intro Da H2 acc hD sm hA ai al
    rw[CP (f:=λl=>l.2.p) (by rw[ai,fM]) al]at hA;have S2:=s1.trans sm;refine⟨_,Da,_,rfl,fj hA,λy hy=>?_,by show 0<pcs ls;omega,by rw[z0];omega,by show pcs ls<2^63;omega,λpc H3 s3 av af=>?_⟩
    ·obtain⟨l,ab,rfl⟩:=z3.mp hy
     have:=hp l ab;omega
    have S3:=S2.trans s3;dsimp only;rw[ap_ret];walk_at "i";refine⟨⟨_,fj (S3 _ _ hq)⟩,⟨_,fj af⟩,?_⟩;obtain⟨cs,ad⟩:∃cs,cs=shares ((ls.map (·.2)).map fP.c).sum (ls.map λl=>l.2.p).sum 0 (ls.map λl=>l.2.p):=⟨_,rfl⟩;have aj:cs.length=ls.length:=by rw[ad,qy,z0]
    rw[<-ad]at af;refine iK.zipE (K:=K) (λσ=>∃a b,σ=[a,b]) (λi v H'=>∃b l d,ls[i]? =some l/\v=.ref b/\jw A H' b d/\d.n=l.2.n/\d.p=l.2.p/\cs[i]? =some d.c) (fj (S3 _ _ hq)) (fj af) (by rw[fM,z0,aj]) ⟨_,_,rfl⟩ (lz _ (by rw[fM];omega)) ?_ ?_
    ·rintro Db i x y hx hy σ H5 p R ⟨_,_,rfl⟩ ap ag ⟨afA,an⟩ hp kk
     obtain⟨l,ab,rfl⟩:=iG hx;obtain⟨c,rfl,hc⟩:=NZ hy;obtain⟨dx,aa⟩:=(hL l (get_mem ab)).same (S3.trans ap);have aa:=eZ (o:=.tup [V.ref l.1,V.int c]) hp _ _ aa;have ae:(upd H5 p (.tup [V.ref l.1,V.int c])) p=some (.tup [V.ref l.1,V.int c]):=eX;have ah:=eZ (o:=.tup [V.ref l.1,V.int c]) hp _ _ an;generalize upd H5 p (.tup [V.ref l.1,V.int c])=H6 at aa ae ah kk;walk_at "i";refine⟨_,gM ae,rfl,_,_,rfl,_,_,rfl,rfl,?_⟩;refine rd aa T.y4 T.y6 (by rfl) (rd aa T.y4 T.y8 (by rfl) (rd aa T.y4 T.y9 (by rfl) (λz dz hz ar _=>?_)));exact su (A:=A) ⟨l.2.n,l.2.s,l.2.p,c⟩ hz ar λH7 s7 hZ=>kk (.ref z) _ H7 ⟨_,_,rfl⟩ s7 λH' hb=>⟨z,l,_,ab,rfl,hZ.but (λe=>by rw[e,ah]at hz;cases hz) hb,rfl,rfl,hc⟩
    ·intro Db H4 as ag am aq ac ak
     rw[fM]at ac;obtain⟨ms,q1,q2,q3,q4⟩:=abg ac aj ak;refine k Db ms H4 (S3.trans am) (S3.free ag) (q1▸aq) q2 q3 ?_ (λt=>aeP ao q3 (by rw[q4,ad];rfl)) λc=>by cases c
     have hW:(ls.map λl=>l.2.p).sum≠0:=by show pcs ls≠0;omega
     show(ms.map (·.2.c)).sum=_;rw[q4,ad,qu,yy0,yyr _ hW,Yb0,Int.zero_ediv,Zv,pI]
noncomputable def Bo(A:Adr):Sp:=λvs H Q _=>∃(x y:Addr)(d e:fP),vs=[.ref x,.ref y]/\jw A H x d/\jw A H y e/\Bw d.c e.p/\Bw e.c d.p/\Q (.bl (decide (d.c*e.p>e.c*d.p))) H
def Bx(T:Txt K mg A D):gJ P w K mg base CX0 1 A.u6 D.u6 ["self", "other"] (Bo A):=by
 refine T.xk.ok Ci (by walk_at "v") (λ_ _ _ s H vs Q E hr h=>?_)
 ·obtain⟨x,y,⟨n,s,p,c⟩,⟨n',s',p',c'⟩,rfl,⟨dx,z⟩,⟨dy,q⟩,m1,m2,k⟩:=h
  refine⟨_,(eY (fJ (Iw (Jf) (fQ jq (fv K 0) (fv K 1)) (fQ jq (fv K 1) (fv K 0)) (fX _)))),?_⟩;walk_at "a";refine rd z T.y4 T.za (by rfl) (?_);refine rd q T.y4 T.y9 (by rfl) (?_);exact⟨_,rfl,_,rfl,m1,rd q T.y4 T.za (by rfl) (rd z T.y4 T.y9 (by rfl) ⟨_,rfl,_,rfl,m2,k⟩)⟩
abbrev PL:=List (Addr×Int×Int)
noncomputable def Cu(ps:PL):List V:=ps.map λr=>V.ref r.1
noncomputable def aaI(H:Hp)(ps:PL):Prop:=∀r∈ps,H r.1=some (.tup [.int r.2.1,.int r.2.2])
def aaI.same{H H':Hp}{ps:PL}(h:aaI H ps)(s:Same H H'):aaI H' ps:=λr q=>s _ _ (h r q)
def UT{ps:PL}{i:Nat}{y:V}(h:(Cu ps)[i]? =some y):∃r,ps[i]? =some r/\y=.ref r.1:=by
 unfold Cu at h;rw[zzl]at h
 cases e:ps[i]? with
 |none=>rw[e]at h;cases h
 |some r=>rw[e]at h;exact⟨r,rfl,(zzq h).symm⟩
def Lk(ps:PL):(Cu ps).length=ps.length:=by unfold Cu;rw[z0]
noncomputable def qU:List fP->Int->List (Int×Int)
 |[],_=>[]
 |d::ds,w=>if w<=0 then[]else(d.n,min d.p w)::qU ds (w - min d.p w)
def Rj{ds:List fP}{w:Int}(h:w<=0):qU ds w=[]:=by
 cases ds with
 |nil=>rfl
 |cons d ds=>rw[qU,z8 h]
noncomputable def BK(A:Adr):Sp:=λvs H Q _=>∃(q:Addr)(ls:RL)(w:Int),vs=[.ref q,.int w]/\H q=some (.lst (gq ls))/\jd A H ls/\ls.length<=100/\
 ∀pk ps H',Same H H'->H pk=none->H' pk=some (.lst (Cu ps))->aaI H' ps->ps.map (·.2)=qU (ls.map (·.2)) w->Q (.ref pk) H'
def jR(T:Txt K mg A D):gJ P w K mg base CX0 1 A.u3 D.u3 ["lots", "pieces"] (BK A):=by
 refine T.xh.F.okv gU λ_ _ _ _ H vs Q E hr h=>?_
 ·obtain⟨q,ls,w,rfl,hq,hL,hl,k⟩:=h
  refine ⟨_,(eU (fL (i:=2) gU.nd rfl orl (jc eV))
   (eU (fL (i:=3) gU.nd rfl orl (pvD 1))
   (eU (kE zzM rfl (gm (K:=K) (pv 0)) (fG (i:=4) gU.nd rfl orl)
    (eU (iC (fK (adB) (pvD 3) fB (fX _)) (eY (Ym)) gn)
    (eU (fL (i:=5) gU.nd rfl orl (fH (pH rfl) (by rfl) T.xM (by decide+kernel) (eQ (fv K 4) (pav 3 eV))))
    (eU (gj (lW (K:=K) zzF zzI zzJ iH (pvD 2) (eQ (jQ (eQ (fv K 4) (pav 5 eV))) eV)))
    (eY (fL (i:=3) gU.nd rfl orl (fQ nO (pvD 3) (pvD 5))))))))
   (eY (fJ (pvD 2)))))),?_⟩
  simp only[start_eq];walk_at "m";refine⟨sz,λpk aa=>?_⟩;have S1:=eZ (o:=.lst []) aa;have h1:(upd H pk (.lst [])) pk=some (.lst []):=eX;generalize upd H pk (.lst [])=H1 at S1 h1;walk_at "m";rw[ap_seq,ap_for];walk_at "i";refine⟨⟨_,fj (S1 _ _ hq)⟩,?_⟩
  refine CN.listN (K:=K) (a:=q) (xs:=gq ls) (λi σ Hx=>∃(ps:PL)(wx:Int)(v4 v5:Option V),σ=[some (.ref q),some (.int w),some (.ref pk),some (.int wx),v4,v5]/\Same H Hx/\Hx pk=some (.lst (Cu ps))/\aaI Hx ps/\ps.length=i/\ps.map (·.2)++qU ((ls.map (·.2)).drop i) wx=qU (ls.map (·.2)) w)
   ⟨[],w,_,_,rfl,S1,h1,λr h=>(zzd h).elim,rfl,rfl⟩ (λi σ Hx _ ⟨_,_,_,_,_,s,_⟩=>fj (s _ _ hq)) ?_ ?_
  ·rintro i y σ Hx hy ⟨ps,wx,v4,v5,rfl,Sx,z,hP,ae,he⟩ N hN
   obtain⟨l,ac,rfl⟩:=iG hy;obtain⟨dy,ad⟩:=(hL l (get_mem ac)).same Sx;have af:i<ls.length:=(zzm.mp ac).1
   have hd:(ls.map (·.2)).drop i=l.2::(ls.map (·.2)).drop (i+1):=by
    rw[yyu (by simpa using af)];congr 1;rw[yyF,(zzm.mp ac).2]
   walk_at "i";walk_at "m";by_cases hw:wx<=0
   ·rw[z8 hw]
    refine k pk ps Hx Sx aa z hP ?_;rw[Rj hw,zz4]at he;exact he
   ·rw[z4 hw]
    walk_at "m";refine rd ad T.y4 T.y9 (by rfl) (?_);refine⟨_,_,rfl,?_⟩;walk_at "m";refine⟨.inl ⟨rfl,_,fj z⟩,rd ad T.y4 T.y6 (by rfl) ⟨sz,λt ht=>⟨_,eZ ht _ _ z,by rw[Lk,zzk];omega,?_⟩⟩⟩;have em:(if wx<l.2.p then wx else l.2.p)=min l.2.p wx:=by split<;>omega
    rw[em];have ab:=eZ (o:=.tup [V.int l.2.n,V.int (min l.2.p wx)]) ht;have ag:pk≠t:=fU z ht;refine hN _ _ ⟨ps++[(t,l.2.n,min l.2.p wx)],_,_,_,rfl,(Sx.trans ab).upd aa,?_,λr hr=>?_,by rw[zzt,ae];rfl,?_⟩
    ·rw[eX];unfold Cu;rw[zza];rfl
    ·rcases zzs.mp hr with hr|hr
     ·have e1:=hP r hr
      exact(fC λe=>by rw[e,z]at e1;cases e1).trans (ab _ _ e1)
     ·obtain rfl:=z9.mp hr
      exact(fC ag.symm).trans eX
    ·rw[hd,qU,z4 hw]at he
     rw[zza,yy6,<-he];rfl
  ·rintro σ Hx ⟨ps,wx,v4,v5,rfl,Sx,z,hP,ae,he⟩
   walk_at "a";refine k pk ps Hx Sx aa z hP ?_;rw[Zu (by rw[z0,fM];exact zzc _),qU,zz4]at he;exact he
structure PkS(ls:RL)(ks:List (Int×Int))(w:Int):Prop where
 u:(ks.map (·.1)).Nodup
 h:∀k∈ks,∃l∈ls,l.2.n=k.1/\1<=k.2/\k.2<=l.2.p
 s:(ks.map (·.2)).sum=w
def PkS.perm{ls q:RL}{ks:List (Int×Int)}{w:Int}(h:PkS ls ks w)(p:ls.Perm q):PkS q ks w:=⟨h.u,λk z=>let⟨l,a,b⟩:=h.h k z;⟨l,p.mem_iff.mp a,b⟩,h.s⟩
theorem qp:∀{ls:RL}{w:Int},(ls.map (·.2.n)).Nodup->(∀l∈ls,1<=l.2.p)->0<=w->w<=pcs ls->PkS ls (qU (ls.map (·.2)) w) w
 |[],w,_,_,h0,h1=>by
  have:w=0:=by have:pcs []=0:=rfl;omega
  subst this;exact⟨.nil,λk h=>(zzd h).elim,rfl⟩
 |l::ls,w,hu,hp,h0,h1=>by
  rw[z6,qU];split
  ·have:w=0:=by omega
   subst this;exact⟨.nil,λk h=>(zzd h).elim,rfl⟩
  ·rename_i hw
   have hl:=hp l (.head _);rw[Ja]at h1;have hu':=zzw.mp hu;have aa:=rB (ls:=ls) λq hq=>hp q (.tail _ hq);have ih:=qp (ls:=ls) (w:=w - min l.2.p w) hu'.2 (λq hq=>hp q (.tail _ hq)) (by omega) (by omega);refine⟨zzw.mpr ⟨λz=>?_,ih.u⟩,λk hk=>?_,?_⟩
   ·obtain⟨k,hk,e⟩:=z3.mp z
    obtain⟨q,hq,e2,_⟩:=ih.h k hk;exact hu'.1 (z3.mpr ⟨q,hq,e2.trans e⟩)
   ·rcases zzb.mp hk with rfl|hk
    ·exact⟨l,.head _,rfl,by show 1<=min l.2.p w;omega,by show min l.2.p w<=_;omega⟩
    ·obtain⟨q,hq,r⟩:=ih.h k hk
     exact⟨q,.tail _ hq,r⟩
   ·rw[z6,zzr,ih.s]
    show min l.2.p w+_=w;omega
noncomputable def Geq(d e:fP):Prop:=e.c*d.p<=d.c*e.p
def adH{a b l:fP}(ha:0<a.p)(hb:0<b.p)(hl:0<l.p)(h1:a.c*b.p<=b.c*a.p)(h2:b.c*l.p<l.c*b.p):a.c*l.p<l.c*a.p:=by
 have z:=zzQ h1 (Yb1 hl);have q:=Int.mul_lt_mul_of_pos_right h2 ha;refine Int.lt_of_mul_lt_mul_right (a:=b.p) ?_ (Yb1 hb);rw[zz9 a.c l.p b.p,zz9 l.c a.p b.p];rw[zz9 b.c l.p a.p]at q;exact Int.lt_of_le_of_lt z q
def aci{ds:List fP}{l:fP}{n:Nat}(h:ds.Pairwise Geq)(h1:∀d∈ds.take n,Geq d l)(h2:∀d∈ds.drop n,Geq l d):(ds.take n++l::ds.drop n).Pairwise Geq:=by
 rw[<-zzN n ds]at h;obtain⟨a,b,c⟩:=yyf.mp h;exact yyf.mpr ⟨a,yyY.mpr ⟨h2,b⟩,λx q y z=>(zzb.mp z).elim (λe=>e▸h1 x q) (c x q y)⟩
theorem Rf:∀{ds:List fP}{w:Int}{k:Int×Int},k∈qU ds w->k.1∈ds.map fP.n
 |[],_,_,h=>by cases h
 |d::ds,w,k,h=>by
  rw[qU]at h;split at h
  ·cases h
  ·rcases zzb.mp h with rfl|h
   ·exact .head _
   ·exact .tail _ (Rf h)
noncomputable def Thr(ds:List fP)(ks:List (Int×Int)):Prop:=∃s,0<=s/\(∀k∈ks,∀d∈ds,d.n=k.1->s*d.p<=d.c)/\∀d∈ds,(∀k∈ks,k.1=d.n->k.2<d.p)->d.c<=s*d.p
theorem RD:∀{ds:List fP}{w:Int},ds.Pairwise Geq->(ds.map fP.n).Nodup->(∀d∈ds,1<=d.p/\Ex d)->1<=w->w<=(ds.map fP.p).sum->∃s,0<=s/\(∃e∈ds,e.c=s*e.p)/\(∀k∈qU ds w,∀d∈ds,d.n=k.1->s*d.p<=d.c)/\∀d∈ds,(∀k∈qU ds w,k.1=d.n->k.2<d.p)->d.c<=s*d.p
 |[],w,_,_,_,h1,h2=>by
  have:w<=0:=h2;omega
 |d::ds,w,hs,hu,hp,h1,h2=>by
  obtain⟨ah,af⟩:=yyY.mp hs;rw[z6,zzw]at hu;obtain⟨hd,r,ai,hr⟩:=hp d (.head _)
  have ad:∀e∈ds,e.c<=r*e.p:=λe q=>by
   have h:=ah e q;unfold Geq at h;rw[hr,zz9]at h;exact yyq h (by omega)
  have ab:∀e∈d::ds,e.n=d.n->e=d:=λe q en=>by
   rcases zzb.mp q with e1|q
   ·exact e1
   ·exact(hu.1 (en▸z3.mpr ⟨e,q,rfl⟩)).elim
  rw[qU,z4 (by omega)];by_cases c:w<=d.p
  ·rw[show min d.p w=w by omega,Int.sub_self,Rj (zz3 0)]
   refine⟨r,ai,⟨d,.head _,hr⟩,λk z e q en=>?_,λe q _=>?_⟩
   ·rw[z9.mp z]at en
    rw[ab e q en];exact Int.le_of_eq hr.symm
   ·rcases zzb.mp q with rfl|q
    ·exact Int.le_of_eq hr
    ·exact ad e q
  ·rw[show min d.p w=d.p by omega]
   rw[z6,zzr]at h2;obtain⟨s,h0,⟨e0,aa,ac⟩,hA,hB⟩:=RD (ds:=ds) (w:=w - d.p) af hu.2 (λe q=>hp e (.tail _ q)) (by omega) (by omega)
   have ae:s<=r:=by
    have:=ad e0 aa;rw[ac]at this;exact yyq this (by have:=(hp e0 (.tail _ aa)).1;omega)
   refine⟨s,h0,⟨e0,.tail _ aa,ac⟩,λk z e q en=>?_,λe q z=>?_⟩
   ·rcases zzb.mp z with rfl|z
    ·rw[ab e q en,hr]
     exact zzQ ae (by omega)
    ·rcases zzb.mp q with rfl|q
     ·exact(hu.1 (en▸Rf z)).elim
     ·exact hA k z e q en
   ·rcases zzb.mp q with rfl|q
    ·exact(Int.lt_irrefl _ (z _ (.head _) rfl)).elim
    ·exact hB e q λk ag=>z k (.tail _ ag)
noncomputable def Cg(A:Adr):Sp:=λvs H Q _=>∃(q:Addr)(ls:RL),vs=[.ref q]/\H q=some (.lst (gq ls))/\jd A H ls/\ls.length<=100/\(∀l∈ls,1<=l.2.p/\l.2.p<2^60)/\
 ∀p ms H',Same H H'->H p=none->H' p=some (.lst (gq ms))->jd A H' ms->ms.Perm ls->(ms.map (·.2)).Pairwise Geq->Q (.ref p) H'
def BZ(T:Txt K mg A D):gJ P w K mg base CX0 2 A.u7 D.u7 ["lots"] (Cg A):=by
 refine T.xl.F.okv jm λ_ _ _ _ H vs Q E hr h=>?_
 ·obtain⟨q,ls,rfl,hq,hL,hl,hp,k⟩:=h
  refine ⟨_,(eU (fL (i:=1) jm.nd rfl orl (jc eV))
   (eU (kE zzM rfl (gm (K:=K) (pv 0)) (fG (i:=2) jm.nd rfl orr)
    (eU (nW (i:=3) jm.nd rfl rfl (cap:=[none,none,some 2]) (N':=["place", "other", "lot"]) rfl (by walk_at "c") (adh (K:=K) (by rfl) T.xZ (pav 1 eV)) (λ_ _ _ _=>(jV (K:=K) (n:=2) rfl (fZ (fG (i:=0) (show(["place", "other", "lot"]:List Str).Nodup from by decide+kernel) rfl orl orr) (fZ (fG (i:=1) (show(["place", "other", "lot"]:List Str).Nodup from by decide+kernel) rfl orl orr) jU)))) (λ_ _ _ _=>(rK (lU (gY (pv 2) (mc T.y4 T.zB (Bx T) hr (Dq T) .nil) iI (pav 1 eV))))) (λ_ _ _ _=>(pvD 0)))
    (eY (gj (lW (K:=K) zzF PySem.F.slot_list_insert PySem.F.type_list_insert VG (pvD 1) (eQ (Yx (K:=K) (by rfl) (adz rfl (by rfl) T.xM (pav 3 eV) (fH (ji (K:=K)) (by rfl) T.xK (by decide+kernel) (pav 1 eV)))) (pav 2 eV)))))))
   (eY (fJ (pvD 1))))),?_⟩
  simp only[start_eq];walk_at "n";refine⟨sz,λpt ag=>?_⟩;have S1:=eZ (o:=.lst []) ag;have h1:(upd H pt (.lst [])) pt=some (.lst []):=eX;generalize upd H pt (.lst [])=H1 at S1 h1
  try dsimp only
  rw[ap_seq,ap_for];walk_at "i";refine⟨⟨_,fj (S1 _ _ hq)⟩,?_⟩
  refine CN.listN (K:=K) (a:=q) (xs:=gq ls) (λi σ Hx=>∃(ts:RL)(v2 v3:Option V),σ=[some (.ref q),some (.ref pt),v2,v3]/\Same H Hx/\Hx pt=some (.lst (gq ts))/\ts.Perm (ls.take i)/\(ts.map (·.2)).Pairwise Geq)
   ⟨[],_,_,rfl,S1,h1,.refl _,.nil⟩ (λi σ Hx _ ⟨_,_,_,_,s,_⟩=>fj (s _ _ hq)) ?_ ?_
  ·rintro i y σ Hx hi ⟨ts,v2,v3,rfl,Sx,hx,aa,ad⟩ N hN
   obtain⟨l,ab,rfl⟩:=iG hi;obtain⟨dy,al⟩:=(hL l (get_mem ab)).same Sx;have ay:i<ls.length:=(zzm.mp ab).1;have aw:ts.length<=100:=by rw[aa.length_eq,zzR];omega
   have aj:∀m∈ts,m∈ls:=λm hm=>yyz (aa.mem_iff.mp hm);walk_at "n";refine⟨⟨_,fj hx⟩,?_⟩;refine iK.enumI (K:=K) (λσ=>∃a b,σ=[a,b,some (.ref l.1)]) (λj=>((ts.map (·.2))[j]?).any λe=>decide (l.2.c*e.p>e.c*l.2.p)) (fj hx) ⟨_,_,rfl⟩ (by rw[fM,zzk];omega) ?_ ?_
   ·rintro j x au σ H5 qt R1 R2 ⟨_,_,rfl⟩ s5 av k1 k2
    obtain⟨m,hm,rfl⟩:=iG au;have ai:=aj m (get_mem hm);have p1:=hp l (get_mem ab);have p2:=hp m ai;walk_at "i";refine⟨_,gM av,rfl,_,_,rfl,_,_,rfl,rfl,md (s5 _ _ al) zze (by rfl) ⟨l.1,m.1,l.2,m.2,rfl,⟨dy,s5 _ _ al⟩,(hL m ai).same (Sx.trans s5),Dy (by omega) (by omega),Dy (by omega) (by omega),_,rfl,?_⟩⟩;have ak:(((ts.map (·.2))[j]?).any λe=>decide (l.2.c*e.p>e.c*l.2.p))=decide (l.2.c*m.2.p>m.2.c*l.2.p):=by rw[zzl,hm];rfl
    by_cases c:l.2.c*m.2.p>m.2.c*l.2.p
    ·rw[z8 (zzx c)]
     exact k1 (ak.trans (zzx c)) _ H5 ⟨_,_,rfl⟩ (same_refl _)
    ·rw[z4 (λz=>c (zzW z))]
     exact k2 (ak.trans (zzH c)) _ H5 ⟨_,_,rfl⟩ (same_refl _)
   ·intro Dc H2 hD s2 af
    rw[fM]at af;obtain⟨js,ae⟩:∃js,js=(List.range ts.length).filter λj=>((ts.map (·.2))[j]?).any λe=>decide (l.2.c*e.p>e.c*l.2.p):=⟨_,rfl⟩;have ap:∀j∈js,j<ts.length:=λj hj=>zzU.mp (zzY.mp (ae▸hj)).1;have am:js.Pairwise (·<·):=ae▸List.pairwise_lt_range.filter _;rw[<-ae]at af;have ac:=s2 _ _ hx
    (try dsimp only)
    walk_at "i";refine⟨.inl ⟨rfl,_,fj ac⟩,_,.inl (fj ac),js.map λi:Nat=>(i:Int),fj (by rw[af,zzj];rfl),yyk.mpr (am.imp λh=>by omega),?_⟩;rw[fM]
    obtain ⟨n0,e0,ax,ao,ar⟩:∃n0:Nat,(js.map λi:Nat=>(i:Int)).headD (ts.length:Int)=n0/\n0<=ts.length/\(∀j<n0,j∉js)/\(n0<ts.length->n0∈js):=by
     cases js with
     |nil=>exact⟨ts.length,rfl,zzc _,λj _ h=>(by cases h),λh=>absurd h (yyn _)⟩
     |cons j js=>exact⟨j,rfl,Zc (ap j (.head _)),λi hi h=>(zzb.mp h).elim (λe=>by omega) (λh=>by have:=(yyY.mp am).1 i h;omega),λ_=> .head _⟩
    rw[e0];refine⟨pt,gq ts,(n0:Int),.ref l.1,rfl,rfl,ac,by omega,by rw[fM];omega,by omega,by rw[fM,zzk];omega,hN _ _ ⟨ts.take n0++l::ts.drop n0,_,_,rfl,(Sx.trans s2).upd ag,?_,?_,?_⟩⟩
    ·rw[eX,yyA]
     unfold gq;rw[zza,z6,List.map_take,Ya1]
    ·rw[zzO,ab]
     refine List.Perm.trans ?_ (aa.append_right _);refine List.perm_middle.trans ?_;rw[zzN];exact(ZO _ _).symm
    ·have an:∀(j:Nat)(m:Addr×fP),ts[j]? =some m->(j∈js↔m.2.c*l.2.p<l.2.c*m.2.p):=λj m hm=>by
      rw[ae,zzY,zzl,hm];have as:=(zzm.mp hm).1;constructor
      ·intro h
       exact zzW h.2
      ·intro h
       exact⟨zzU.mpr as,zzx h⟩
     rw[zza,z6,List.map_take,Ya1];refine aci ad (λd hd=>?_) λd hd=>?_
     ·obtain⟨j,hj,e⟩:=zzL hd
      rw[zzR,z0]at hj;rw[List.getElem_take,yyF]at e;have h5:=mt (an j ts[j] (zzg (by omega))).mpr (ao j (by omega));rw[<-e];unfold Geq;omega
     ·obtain⟨j,hj,e⟩:=zzL hd
      rw[yyw,z0]at hj;have ah:n0<ts.length:=by omega
      have h5:=(an n0 ts[n0] (zzg ah)).mp (ar ah);rw[List.getElem_drop,yyF]at e;rw[<-e];by_cases aq:j=0
      ·subst aq
       exact Yb1 h5
      ·have h6:=yyt.mp ad n0 (n0+j) (by rw[z0];omega) (by rw[z0];omega) (by omega)
       rw[yyF,yyF]at h6;have pp:∀(i:Nat)(h:i<ts.length),0<ts[i].2.p:=λi h=>by have:=(hp _ (aj _ (yya h))).1;omega
       exact Yb1 (adH (pp _ (by omega)) (pp n0 ah) (by have:=(hp l (get_mem ab)).1;omega) h6 h5)
  ·rintro σ Hx ⟨ts,v2,v3,rfl,Sx,hx,aa,ad⟩
   walk_at "a";rw[fM,yyb]at aa;exact k pt ts Hx Sx ag hx (λr hr=>(hL r (aa.mem_iff.mp hr)).same Sx) aa ad
noncomputable def Bf(A:Adr)(dr:Bool):Sp:=λvs H Q _=>∃(x q:Addr)(ls:RL)(w:Int),vs=[.ref x,.ref q,.int w]/\H q=some (.lst (gq ls))/\jd A H ls/\ls.length<=100/\(ls.map (·.2.n)).Nodup/\(∀l∈ls,1<=l.2.p/\l.2.p<2^60)/\0<=w/\w<=pcs ls/\
 ∀pk ps H',Same H H'->H pk=none->H' pk=some (.lst (Cu ps))->aaI H' ps->PkS ls (ps.map (·.2)) w->(dr=true->1<=w->(∀l∈ls,Ex l.2)->Thr (ls.map (·.2)) (ps.map (·.2)))->Q (.ref pk) H'
def pX(T:Txt K mg A D):gJ P w K mg base CX0 2 A.u4 D.u4 ["self", "lots", "pieces"] (Bf A false):=by
 refine T.xi.okv Dt λ_ _ _ _ H vs Q E hr h=>?_
 ·obtain⟨x,q,ls,w,rfl,hq,hL,z,hu,hp,h0,h1,k⟩:=h
  refine⟨_,(eY (fJ (pcg (jR T) hr T.xh (lM T) (pav 1 (pav 2 eV))))),?_⟩;simp only[start_eq];walk_at "i";exact⟨q,ls,w,rfl,hq,hL,z,λpk ps H' s hn h hP e=>k pk ps H' s hn h hP (e▸qp hu (λl z=>(hp l z).1) h0 h1) λc=>by cases c⟩
def DN(T:Txt K mg A D):gJ P w K mg base CX0 2 A.u5 D.u5 ["self", "lots", "pieces"] (Bf A false):=by
 refine T.xj.okv Fj λ_ _ _ _ H vs Q E hr h=>?_
 ·obtain⟨x,q,ls,w,rfl,hq,hL,hl,hu,hp,h0,h1,k⟩:=h
  refine⟨_,(eY (fJ (pcg (jR T) hr T.xh (lM T) (eQ (Oz (K:=K) (by rfl) (Tf rfl (by rfl) T.xL (by rfl) T.xY (pav 1 eV))) (pav 2 eV))))),?_⟩;simp only[start_eq];walk_at "i";refine⟨_,fj hq,λl aa=>?_⟩;have z:=List.reverse_perm ls;have s1:=eZ (o:=.lst (gq ls).reverse) aa;refine⟨l,ls.reverse,w,rfl,by rw[eX];unfold gq;rw[Ya6],λr hr=>(hL r (z.mem_iff.mp hr)).same s1,by rw[z.length_eq];exact hl,λpk ps H' s hn h hP e=>k pk ps H' (s1.trans s) (s1.free hn) h hP (e▸(qp ((z.map (λl:Addr×fP=>l.2.n)).nodup_iff.mpr hu) (λl hl=>(hp l (z.mem_iff.mp hl)).1) h0 (by rw[JD z];exact h1)).perm z) λc=>by cases c⟩
def Bs(T:Txt K mg A D):gJ P w K mg base CX0 3 A.u8 D.u8 ["self", "lots", "pieces"] (Bf A true):=by
 refine T.xm.okv Cq λ_ _ _ _ H vs Q E hr h=>?_
 ·obtain⟨x,q,ls,w,rfl,hq,hL,hl,hu,hp,h0,h1,k⟩:=h
  refine⟨_,(eY (fJ (pcg (jR T) hr T.xh (lM T) (eQ (pcg (BZ T) hr T.xl (DQ T) (pav 1 eV)) (pav 2 eV))))),?_⟩;simp only[start_eq];walk_at "i";refine⟨q,ls,rfl,hq,hL,hl,hp,λp ms H1 s1 af ad ac z ab=>?_⟩;refine⟨p,ms,w,rfl,ad,ac,by rw[z.length_eq];exact hl,λpk ps H' s hn h hP e=>k pk ps H' (s1.trans s) (s1.free hn) h hP (e▸(qp ((z.map (λl:Addr×fP=>l.2.n)).nodup_iff.mpr hu) (λl hl=>(hp l (z.mem_iff.mp hl)).1) h0 (by rw[JD z];exact h1)).perm z) λ_ hw ae=>?_⟩;have aa:(ms.map (·.2)).Perm (ls.map (·.2)):=z.map _;obtain⟨s,t0,_,t1,t2⟩:=RD (w:=w) ab (by rw[zzj];exact(z.map (λl:Addr×fP=>l.2.n)).nodup_iff.mpr hu) (λd hd=>by obtain⟨l,hl,rfl⟩:=z3.mp (aa.mem_iff.mp hd);exact⟨(hp l hl).1,ae l hl⟩) hw (by rw[zzj];show w<=pcs ms;rw[JD z];exact h1);rw[e];exact⟨s,t0,λk hk d hd=>t1 k hk d (aa.mem_iff.mpr hd),λd hd=>t2 d (aa.mem_iff.mpr hd)⟩
abbrev Pk:=List (Int×Int)
noncomputable def iy(ks:Pk)(d:fP):fP:=match ks.lookup d.n with
 |some w=>⟨d.n,d.s,d.p - w,d.c - d.c*w/d.p⟩
 |none=>d
noncomputable def pK(ds:List fP)(k:Int×Int):fP:=match ds.find? (λd=>d.n==k.1)with
 |some d=>⟨d.n,d.s,k.2,d.c*k.2/d.p⟩
 |none=>⟨0,0,0,0⟩
noncomputable def qz(ks:Pk)(ds:List fP):List fP:=(ds.map (iy ks)).filter λd=>decide (0<d.p)
structure rE(ds:List fP):Prop where
 u:(ds.map fP.n).Nodup
 g:∀d∈ds,1<=d.p/\d.p<=100000000000
 l:ds.length<=63
structure Ux(ds:List fP)(ks:Pk):Prop where
 u:(ks.map (·.1)).Nodup
 h:∀k∈ks,∃d∈ds,d.n=k.1/\1<=k.2/\k.2<=d.p
noncomputable def kz(ds:List fP)(vs:List V):List (Key×V):=List.zipWith (λd v=>((Sum.inl d.n:Key),v)) ds vs
theorem Wc:∀{ds:List fP}{vs:List V}{j:Nat}{d:fP}{v:V},(ds.map fP.n).Nodup->ds[j]? =some d->vs[j]? =some v->jo (kz ds vs) (Sum.inl d.n)=some v
 |[],_,_,_,_,_,h,_=>by simp at h
 |_::_,[],_,_,_,_,_,h=>by simp at h
 |d0::ds,v0::vs,0,d,v,_,h1,h2=>by
  cases h1;cases h2;exact gC rfl
 |d0::ds,v0::vs,j+1,d,v,hu,h1,h2=>by
  rw[z6,zzw]at hu;have h1':ds[j]? =some d:=h1
  have q:¬((Sum.inl d0.n:Key)=Sum.inl d.n):=λe=>hu.1 (by
   have e':d0.n=d.n:=Zm e;rw[e'];exact z3.mpr ⟨d,zzp h1',rfl⟩)
  show jo ((Sum.inl d0.n,v0)::kz ds vs) _=_;rw[gD q];exact Wc hu.2 h1' h2
theorem abC:∀{ds:List fP}{vs:List V}{j:Nat}{d:fP}{v':V},(ds.map fP.n).Nodup->ds[j]? =some d->(kz ds vs).map (λq=>if q.1=(Sum.inl d.n:Key)then(q.1,v')else q)=kz ds (vs.set j v')
 |[],_,_,_,_,_,h=>by simp at h
 |d0::ds,[],j,d,v',_,_=>by simp[kz]
 |d0::ds,v0::vs,0,d,v',hu,h1=>by
  cases h1;rw[z6,zzw]at hu;show(if(Sum.inl d0.n:Key)=Sum.inl d0.n then((Sum.inl d0.n:Key),v')else _)::(kz ds vs).map _=(Sum.inl d0.n,v')::kz ds vs;rw[z8 rfl];congr 1;refine(zzy λq aa=>?_).trans (ZF _);rw[z4]
  ·rfl
  ·intro e
   obtain⟨i,hi,e2⟩:=zzL aa;have hd:i<ds.length:=by simp[kz]at hi;omega
   have:q.1=Sum.inl ds[i].n:=by rw[<-e2];simp[kz]
   rw[this]at e;exact hu.1 (by rw[<-Zm e];exact z3.mpr ⟨ds[i],yya hd,rfl⟩)
 |d0::ds,v0::vs,j+1,d,v',hu,h1=>by
  rw[z6,zzw]at hu;have h1':ds[j]? =some d:=h1
  have z:¬((Sum.inl d0.n:Key)=Sum.inl d.n):=λe=>hu.1 (by
   have e':d0.n=d.n:=Zm e;rw[e'];exact z3.mpr ⟨d,zzp h1',rfl⟩)
  show(if(Sum.inl d0.n:Key)=Sum.inl d.n then _ else((Sum.inl d0.n:Key),v0))::(kz ds vs).map _=(Sum.inl d0.n,v0)::kz ds (vs.set j v');rw[z4 z,abC hu.2 h1']
def aeA{ds:List fP}{vs:List V}{j:Nat}{d:fP}{v z:V}(q:(ds.map fP.n).Nodup)(h1:ds[j]? =some d)(h2:vs[j]? =some v):putK (kz ds vs) (Sum.inl d.n) z=kz ds (vs.set j z):=by
 unfold putK;rw[z8 (by rw[jn,Wc q h1 h2];rfl)];exact abC q h1
theorem Wr:∀{ds:List fP}{vs:List V}{n:Int},n∉ds.map fP.n->jo (kz ds vs) (Sum.inl n)=none
 |[],_,_,_=>rfl
 |_::_,[],_,_=>rfl
 |d::ds,v::vs,n,h=>by
  rw[z6,zzb,not_or]at h;show jo ((Sum.inl d.n,v)::kz ds vs) _=_;rw[gD (λe=>h.1 (Zm e).symm)];exact Wr h.2
def aef{ds:List fP}{vs:List V}{d:fP}{v:V}(q:vs.length=ds.length)(h:d.n∉ds.map fP.n):putK (kz ds vs) (Sum.inl d.n) v=kz (ds++[d]) (vs++[v]):=by
 unfold putK;rw[z4 (by rw[jn,Wr h];simp)];unfold kz;rw[List.zipWith_append q.symm];rfl
theorem Xx:∀{ds:List fP}{vs:List V},vs.length=ds.length->(kz ds vs).map (·.2)=vs
 |[],[],_=>rfl
 |[],_::_,h=>by simp at h
 |_::_,[],h=>by simp at h
 |d::ds,v::vs,h=>by
  show v::(kz ds vs).map (·.2)=_;rw[Xx (by simpa using h)]
def abE{ds:List fP}{vs:List V}(h:vs.length=ds.length):(kz ds vs).length=ds.length:=by simp[kz,h]
def mX{ks:Pk}{n:Int}(h:n∉ks.map (·.1)):ks.lookup n=none:=by
 induction ks with
 |nil=>rfl
 |cons k ks ih=>
  rw[z6,zzb,not_or]at h;have e:(n==k.1)=false:=by simpa using h.1
  obtain⟨a,b⟩:=k;show(match n==a with|true=>some b|false=>ks.lookup n)=_;rw[show(n==a)=false from e];exact ih h.2
def FJ{ks:Pk}{n w:Int}(m:Int):(ks++[(n,w)]).lookup m=match ks.lookup m with|some x=>some x|none=>if m=n then some w else none:=by
 induction ks with
 |nil=>
  show(match m==n with|true=>some w|false=>none)=_;by_cases e:m=n
  ·simp[e]
  ·have e':(m==n)=false:=by simpa using e
   rw[e'];simp[e]
 |cons k ks ih=>
  obtain⟨a,b⟩:=k;show(match m==a with|true=>some b|false=>(ks++[(n,w)]).lookup m)=match(match m==a with|true=>some b|false=>ks.lookup m)with|some x=>some x|none=>_
  cases m==a with
  |true=>rfl
  |false=>exact ih
def rY{ks:Pk}{n w:Int}{d:fP}(h:d.n≠n):iy (ks++[(n,w)]) d=iy ks d:=by
 unfold iy;rw[FJ]
 cases ks.lookup d.n with
 |none=>simp[h]
 |some x=>rfl
def Ji{ks:Pk}{w:Int}{d:fP}(h:d.n∉ks.map (·.1)):iy (ks++[(d.n,w)]) d=⟨d.n,d.s,d.p - w,d.c - d.c*w/d.p⟩:=by
 unfold iy;rw[FJ,mX h];simp
def Jb{ks:Pk}{d:fP}(h:d.n∉ks.map (·.1)):iy ks d=d:=by
 unfold iy;rw[mX h]
def some_at{ds:List fP}{d:fP}{w:Int}(q:(ds.map fP.n).Nodup)(h:d∈ds):pK ds (d.n,w)=⟨d.n,d.s,w,d.c*w/d.p⟩:=by
 have:ds.find? (λe=>e.n==d.n)=some d:=by
  induction ds with
  |nil=>cases h
  |cons e ds ih=>
   rw[z6,zzw]at q;rcases zzb.mp h with rfl|h
   ·simp
   ·have:e.n≠d.n:=λz=>q.1 (by rw[z];exact z3.mpr ⟨d,h,rfl⟩)
    rw[List.find?_cons_of_neg (by simpa using this)];exact ih q.2 h
 unfold pK;rw[this]
def IV{ks:Pk}{i:Nat}{k:Int×Int}(h:(ks.map (·.1)).Nodup)(e:ks[i]? =some k):k.1∉(ks.take i).map (·.1):=by
 intro hm;have h2:ks.map (·.1)=(ks.take i).map (·.1)++(ks.drop i).map (·.1):=by rw[<-zza,zzN]
 rw[h2]at h;exact(zzS.mp h).2.2 _ hm k.1 (z3.mpr ⟨k,by rw[List.mem_iff_getElem?];exact⟨0,by rw[ZP];exact e⟩,rfl⟩) rfl
theorem KZ:∀{l k:List Int},l.Nodup->(∀x∈l,x∈k)->l.length<=k.length
 |[],_,_,_=>zzB _
 |x::l,k,h,s=>by
  have h':=zzw.mp h;have q:x∈k:=s x (.head _);have:=KZ (l:=l) (k:=k.erase x) h'.2 λy z=>(yy9 (λe=>by subst e;exact h'.1 z)).mpr (s y (.tail _ z));rw[yyP q]at this;have hp:0<k.length:=yyZ q;rw[zzu];omega
def jw.put{H:Hp}{x l:Addr}{d:fP}{o:HO}(h:jw A H x d)(q:∀C dx fs,H l≠some (.ins C dx fs)):jw A (upd H l o) x d:=by
 obtain⟨dx,e⟩:=h;exact⟨dx,(fC λz=>q _ _ _ (z▸e)).trans e⟩
noncomputable def OkV(A:Adr)(H:Hp)(d:fP)(v:V):Prop:=(0<d.p/\∃x,v=.ref x/\jw A H x d)\/(d.p=0/\v=.non)
theorem OkV.same{H H':Hp}{d:fP}{v:V}(h:OkV A H d v)(s:Same H H'):OkV A H' d v:=h.imp (fun⟨a,x,e,l⟩=>⟨a,x,e,l.same s⟩) id
theorem OkV.put{H:Hp}{d:fP}{v:V}{l:Addr}{o:HO}(h:OkV A H d v)(q:∀C dx fs,H l≠some (.ins C dx fs)):OkV A (upd H l o) d v:=h.imp (fun⟨a,x,e,i⟩=>⟨a,x,e,i.put q⟩) id
theorem Vs{H:Hp}:∀{ds:List fP}{vs:List V},vs.length=ds.length->(∀(j:Nat) d v,ds[j]? =some d->vs[j]? =some v->OkV A H d v)->∃l2:RL,(vs.filter λv=>decide (v≠.non))=gq l2/\l2.map (·.2)=(ds.filter λd=>decide (0<d.p))/\jd A H l2
 |[],[],_,_=>⟨[],rfl,rfl,λr h=>(zzd h).elim⟩
 |[],_::_,h,_=>by simp at h
 |_::_,[],h,_=>by simp at h
 |d::ds,v::vs,hl,h=>by
  obtain⟨l2,e1,e2,e3⟩:=Vs (ds:=ds) (vs:=vs) (by simpa using hl) λj d v h1 h2=>h (j+1) d v h1 h2;rcases h 0 d v rfl rfl with⟨q,x,rfl,hx⟩|⟨q,rfl⟩
  ·refine⟨(x,d)::l2,?_,?_,λr z=>?_⟩
   ·rw[zzE (by simp),e1];rfl
   ·rw[zzE (by simpa using q),z6,e2]
   ·rcases zzb.mp z with rfl|z
    ·exact hx
    ·exact e3 r z
  ·refine⟨l2,?_,?_,e3⟩
   ·rw[zzA (by simp),e1]
   ·rw[zzA (by simp[q]),e2]
noncomputable def kfH(H:Hp):V->Key
 |.ref b=>match H b with
  |some (.tup [.int n,_])=>Sum.inl n
  |_=>Sum.inl 0
 |_=>Sum.inl 0
noncomputable def vfH(H:Hp):V->V
 |.ref b=>match H b with
  |some (.tup [_,v])=>v
  |_=> .non
 |_=> .non
def abN{H:Hp}{b:Addr}{n:Int}{v:V}(h:H b=some (.tup [.int n,v])):kfH H (.ref b)=Sum.inl n:=by
 show(match H b with|some (.tup [.int n,_])=>Sum.inl n|_=>Sum.inl 0)=_;rw[h]
def abi{H:Hp}{b:Addr}{n:Int}{v:V}(h:H b=some (.tup [.int n,v])):vfH H (.ref b)=v:=by
 show(match H b with|some (.tup [_,v])=>v|_=> .non)=_;rw[h]
theorem Xu{H:Hp}:∀{ls:RL}{ys:List V}{pre:RL},ys.length=ls.length->(∀(i:Nat) y,ys[i]? =some y->∃b l,ls[i]? =some l/\y=.ref b/\H b=some (.tup [.int l.2.n,.ref l.1]))->((pre++ls).map λr=>r.2.n).Nodup->
  ys.foldl (λa y=>putK a (kfH H y) (vfH H y)) (kz (pre.map (·.2)) (gq pre))=kz ((pre++ls).map (·.2)) (gq (pre++ls))
 |[],[],pre,_,_,_=>by rw[zz4];rfl
 |[],_::_,_,h,_,_=>by simp at h
 |_::_,[],_,h,_,_=>by simp at h
 |l::ls,y::ys,pre,hl,h,hu=>by
  obtain⟨b,l',e1,rfl,z⟩:=h 0 y rfl;cases e1;rw[yyi,abN z,abi z]
  have hn:l.2.n∉(pre.map (·.2)).map fP.n:=by
   rw[zza,z6]at hu;intro hm;rw[zzj]at hm;exact(zzS.mp hu).2.2 _ hm _ zze rfl
  rw[aef (by rw[fM,z0]) hn];have e2:pre.map (·.2)++[l.2]=(pre++[l]).map (·.2):=by rw[zza];rfl
  have e3:gq pre++[V.ref l.1]=gq (pre++[l]):=by unfold gq;rw[zza];rfl
  have q:pre++l::ls=(pre++[l])++ls:=by simp
  rw[e2,e3,q];exact Xu (by simpa using hl) (λi y hy=>h (i+1) y hy) (q▸hu)
noncomputable def qK(A:Adr):Sp:=λvs H Q _=>∃(q pk:Addr)(ls:RL)(ps:PL),vs=[.ref q,.ref pk]/\H q=some (.lst (gq ls))/\jd A H ls/\H pk=some (.lst (Cu ps))/\aaI H ps/\rE (ls.map (·.2))/\Ux (ls.map (·.2)) (ps.map (·.2))/\
 ∀t la lb l1 l2 H',Same H H'->H' t=some (.tup [.ref la,.ref lb])->H' la=some (.lst (gq l1))->H' lb=some (.lst (gq l2))->jd A H' l1->jd A H' l2->l1.map (·.2)=(ps.map (·.2)).map (pK (ls.map (·.2)))->l2.map (·.2)=qz (ps.map (·.2)) (ls.map (·.2))->
  H la=none->H lb=none->la≠lb->Q (.ref t) H'
def Gh(T:Txt K mg A D):gJ P w K mg base CX0 4 A.uZ D.uZ ["lots", "picks"] (qK A):=by
 refine T.xg.F.okv ig λ_ _ _ _ H vs Q E hr h=>?_
 ·obtain⟨q,pk,ls,ps,rfl,hq,hL,bi,hP,hR,hK,k⟩:=h
  refine ⟨_,(eU (fL (i:=2) ig.nd rfl orl (iT (lQ (K:=K) rfl) (by rfl) T.xX (by decide+kernel) (eQ (gF (cap:=[none]) (N':=["lot"]) rfl (by walk_at "c") (gm (K:=K) (pv 0)) (λ_ _ _ _=>(fG (i:=0) nd1 rfl orl orr)) (λ_ _ _ _=>gQ) (λ_ _ _ _=>(jQ (eQ (fv K 0) (pav 0 eV))))) eV)))
   (eU (fL (i:=3) ig.nd rfl orl (jc eV))
   (eU (kE zzM rfl (gm (K:=K) (pv 1)) (jV (K:=K) (n:=2) rfl (fZ (fG (i:=4) ig.nd rfl orl) (fZ (fG (i:=5) ig.nd rfl orl) jU)))
    (eU (fL (i:=6) ig.nd rfl orl (YH (jr hr) (pvD 2) (pvD 4) ⟨rfl,rfl,rfl,rfl⟩))
    (eU (iC (PW.pt (Kv (fK (sI) (pvD 6) jx (fX _)) (MP (fK (Lf) (fv K 6) (pvD 5) (fX _))))) (eY (iB)) gn)
    (eU (fL (i:=7) ig.nd rfl orl (gY (pv 6) (mc T.y4 T.zA (Nq T) hr (Px T) .nil) iI (pav 5 eV)))
    (eU (gj (lW (K:=K) zzF zzI zzJ iH (pvD 3) (eQ (jG (jT (K:=K)) (pvD 7) fB (λ_ _=>rfl)) eV)))
    (eY (lJ (jr hr) (pvD 2) (pvD 4) (jG (jT (K:=K)) (pvD 7) fB (λ_ _=>rfl)) rfl)))))))
   (eY (fJ (jQ (pav 3 (eQ (gF (cap:=[none]) (N':=["lot"]) rfl (by walk_at "c") (acO (Oq (K:=K) yyd PySem.F.slot_dict_values PySem.F.type_dict_values Vw (pvD 2))) (λ_ _ _ _=>(fG (i:=0) nd1 rfl orl orr)) (λ_ _ _ _=>(rK (fK (XS) (pvD 0) jx (fX _)))) (λ_ _ _ _=>(pvD 0))) eV)))))))),?_⟩
  simp only[start_eq];walk_at "m";have bz:ls.length<=63:=by have:=hR.l;rwa [z0]at this
  refine⟨⟨_,fj hq⟩,?_⟩;refine iK.listE (K:=K) (λσ=>∃a,σ=[a]) (λi v H'=>∃b l,ls[i]? =some l/\v=.ref b/\H' b=some (.tup [.int l.2.n,.ref l.1])) (fj hq) ⟨_,rfl⟩ (by rw[fM,zzk];omega) ?_ ?_
  ·rintro Da i x hx σ H5 R ⟨_,rfl⟩ sm hD ⟨acc,hA⟩ kk
   obtain⟨l,bl,rfl⟩:=iG hx;obtain⟨dx,am⟩:=(hL l (get_mem bl)).same sm;walk_at "i";exact rd am T.y4 T.y6 (by rfl) ⟨sz,λt ht=>kk (.ref t) _ _ ⟨_,rfl⟩ (eZ ht) λH' hb=>⟨t,l,bl,rfl,hb _ _ (λe=>by rw[e,hA]at ht;cases ht) eX⟩⟩
  ·intro Da H1 acc hD s1 hA ap hF
   rw[fM]at ap;walk_at "i";obtain⟨ds,ab⟩:∃ds,ls.map (·.2)=ds:=⟨_,rfl⟩;obtain⟨ks,aj⟩:∃ks,ps.map (·.2)=ks:=⟨_,rfl⟩;rw[ab,aj]at hK;rw[ab]at hR;rw[ab,aj]at k;have bu:ds.length=ls.length:=by rw[<-ab,z0]
   refine⟨_,fj hA,by omega,kfH H1,vfH H1,λy hy=>?_,λpd bf=>?_⟩
   ·obtain⟨i,hi,e⟩:=zzL hy
    obtain⟨b,l,_,h2,h3⟩:=hF i y (by rw[zzg hi,e]);subst h2;exact⟨b,rfl,by rw[abN h3,abi h3];exact gM h3⟩
   have ez:JP (kfH H1) (vfH H1) acc=kz ds (gq ls):=by
    rw[<-ab];refine Xu (pre:=[]) ap hF ?_;have:=hR.u;rw[<-ab,zzj]at this;exact this
   rw[ez];have S2:=s1.trans (eZ (o:=.dK (kz ds (gq ls))) bf);have aq:(upd H1 pd (.dK (kz ds (gq ls)))) pd=some (.dK (kz ds (gq ls))):=eX;have bj:=s1.free bf;generalize upd H1 pd _=H2 at S2 aq;walk_at "m";refine⟨sz,λpt ai=>?_⟩;have S3:=S2.trans (eZ (o:=.lst []) ai);have bg:(upd H2 pt (.lst [])) pt=some (.lst []):=eX;have bq:=eZ (o:=.lst []) ai _ _ aq;have bk:=S2.free ai;have ar:pd≠pt:=fU aq ai;generalize upd H2 pt _=H3 at S3 bg bq;rw[ap_seq,ap_for];walk_at "i";refine⟨⟨_,fj (S3 _ _ bi)⟩,?_⟩
   refine CN.listN (K:=K) (a:=pk) (xs:=Cu ps) (λi σ Hx=>∃(vs:List V)(l1:RL)(w4 w5 w6 w7:Option V),σ=[some (.ref q),some (.ref pk),some (.ref pd),some (.ref pt),w4,w5,w6,w7]/\Same H Hx/\vs.length=ds.length/\Hx pd=some (.dK (kz ds vs))/\Hx pt=some (.lst (gq l1))/\jd A Hx l1/\
    l1.map (·.2)=(ks.take i).map (pK ds)/\∀(j:Nat) d v,ds[j]? =some d->vs[j]? =some v->OkV A Hx (iy (ks.take i) d) v) ⟨gq ls,[],_,_,_,_,rfl,S3,by rw[fM,bu],bq,bg,λr h=>(zzd h).elim,rfl,λj d v h1 h2=>?_⟩ (λi σ Hx _ ⟨_,_,_,_,_,_,_,s,_⟩=>s.seq (fj bi)) ?_ ?_
   ·obtain⟨l,e1,rfl⟩:=iG h2
    have e2:ds[j]? =some l.2:=by rw[<-ab,zzl,e1];rfl
    rw[h1]at e2;cases e2;refine .inl ⟨?_,l.1,rfl,(hL l (get_mem e1)).same S3⟩;have:=(hR.g l.2 (zzp h1)).1;show 0<l.2.p;omega
   ·rintro i y σ H4 hy ⟨vs,l1,w4,w5,w6,w7,rfl,S4,ad,aa,ak,ay,af,ag⟩ N hN
    obtain⟨r,bn,rfl⟩:=UT hy;have ax:ks[i]? =some r.2:=by rw[<-aj,zzl,bn];rfl
    obtain⟨d,hd,az,b2,b1⟩:=hK.h r.2 (zzp ax);obtain⟨j,hj,ej⟩:=zzL hd;have ae:ds[j]? =some d:=by rw[zzg hj,ej]
    have as:vs[j]? =some (vs[j]'(by omega)):=by simp
    have ao:d.n∉(ks.take i).map (·.1):=by rw[az];exact IV hK.u ax
    have hg:=hR.g d hd;have bo:=ag j d _ ae as;rw[Jb ao]at bo;have an:=Wc (v:=vs[j]'(by omega)) hR.u ae as
    obtain ⟨x,ex,hx⟩:∃x,vs[j]'(by omega)=.ref x/\jw A H4 x d:=by
     rcases bo with⟨_,x,e,h⟩|⟨e,_⟩
     ·exact⟨x,e,h⟩
     ·omega
    rw[ex]at an;obtain⟨dx,am⟩:=id hx;have bc:=S4 _ _ (hP r (zzp bn));rw[<-az]at bc;walk_at "i";refine⟨_,gM bc,rfl,_,_,rfl,_,_,rfl,rfl,?_⟩;walk_at "m";refine⟨.inl ⟨_,.inl aa⟩,_,nH (k:=Sum.inl d.n) aa,?_⟩;rw[an];simp only[Option.getD_some];walk_at "m";refine rd am T.y4 T.y9 (by rfl) ⟨_,rfl,?_⟩;rw[z4 (by show¬(d.p<r.2.2);omega)];walk_at "m";refine md am zze (by rfl) ⟨x,d,r.2.2,rfl,hx,Dy (by omega) (by omega),⟨by omega,?_⟩,λt y v' H5 s5 bb ac hY f1 f2=>?_⟩
    ·have:d.p.natAbs<2^40:=by omega
     exact zzC this (ZE (by decide) (by decide))
    walk_at "m";have S5:=S4.trans s5;have av:=s5 _ _ ak;have bv:=s5 _ _ aa;have br:t≠pt:=λe=>by rw[e,ak]at bb;cases bb
    have bm:(upd H5 pt (.lst (gq l1++[V.ref y]))) pd=some (.dK (kz ds vs)):=(fC ar).trans bv;have ah:∀C dx fs,H5 pt≠some (.ins C dx fs):=λ_ _ _=>by rw[av];simp
    have al:∀C dx fs,(upd H5 pt (.lst (gq l1++[V.ref y]))) pd≠some (.ins C dx fs):=λ_ _ _=>by rw[bm];simp
    have er:r.2=(d.n,r.2.2):=by rw[az]
    have be:ks.take (i+1)=ks.take i++[(d.n,r.2.2)]:=by rw[zzO,ax,<-er];rfl
    have b0:l1.length<=63:=by
     have e1:=congrArg List.length af;rw[z0,z0,zzR]at e1
     have e2:ks.length<=ds.length:=by
      have:=KZ (l:=ks.map (·.1)) (k:=ds.map fP.n) hK.u λz hz=>by
       obtain⟨k0,bw,rfl⟩:=z3.mp hz;obtain⟨d0,bt,e0,_⟩:=hK.h k0 bw;exact z3.mpr ⟨d0,bt,e0⟩
      rwa [z0,z0]at this
     have:=hR.l;omega
    refine ⟨.inl ⟨rfl,_,fj av⟩,_,gM ac,_,rfl,_,av,by rw[fM,zzk];omega,_,gM ((fC br).trans ac),_,rfl,_,.inl ⟨_,Sum.inl d.n,bm,rfl,by rw[abE ad,zzk];have:=hR.l;omega,by rw[aeA hR.u ae as]⟩,
     hN _ _ ⟨vs.set j v',l1++[(y,pK ds (d.n,r.2.2))],_,_,_,_,rfl,(S5.upd bk).upd bj,by rw[List.length_set,ad],eX,?_,λz hz=>?_,?_,λj' d' v0 h1 h2=>?_⟩⟩
    ·rw[fC ar.symm,eX];unfold gq;rw[zza];rfl
    ·rcases zzs.mp hz with hz|hz
     ·exact(((ay z hz).same s5).put ah).put al
     ·obtain rfl:=z9.mp hz
      rw[some_at hR.u hd];exact(hY.put ah).put al
    ·rw[zza,af,be,zza];rfl
    ·rw[be]
     by_cases aw:j'=j
     ·subst aw
      rw[ae]at h1;cases h1;rw[Zp (by omega)]at h2;cases h2;rw[Ji ao];by_cases ew:r.2.2=d.p
      ·exact .inr ⟨by show d.p - r.2.2=0;omega,f1 ew⟩
      ·obtain⟨z,ez,hz⟩:=f2 ew
       exact .inl ⟨by show 0<d.p - r.2.2;omega,z,ez,(hz.put ah).put al⟩
     ·rw[ZC (λe=>aw e.symm)]at h2
      have bs:d'.n≠d.n:=λe=>aw (by
       have hl1':j'<(ds.map fP.n).length:=by rw[z0];exact(zzm.mp h1).1
       refine(ZT hl1' hR.u).mp ?_;rw[zzl,zzl,h1,ae];show some d'.n=some d.n;rw[e])
      rw[rY bs];exact(((ag j' d' v0 h1 h2).same s5).put ah).put al
   ·rintro σ H4 ⟨vs,l1,w4,w5,w6,w7,rfl,S4,ad,aa,ak,ay,af,ag⟩
    rw[Lk,show ps.length=ks.length by rw[<-aj,z0],yyb]at af ag;walk_at "i";refine⟨.inr (.inr (.inl ⟨rfl,.inl ⟨_,aa⟩⟩)),_,aa,λv hv=>⟨pd,eX,_,(fC (fU aa hv)).trans aa,λo=>?_⟩⟩;have sv:=eZ (o:=sE v pd) hv;have bx:=sv _ _ aa;have ni:∀C dx fs,(upd H4 v (sE v pd)) pd≠some (.ins C dx fs):=λ_ _ _=>by rw[bx];simp
    have S5:Same H (upd (upd H4 v (sE v pd)) pd (.frz o (.dK (kz ds vs)))):=(S4.trans sv).upd bj;have ac:(upd (upd H4 v (sE v pd)) pd (.frz o (.dK (kz ds vs)))) pt=some (.lst (gq l1)):=(fC ar.symm).trans (sv _ _ ak);have bh:jd A (upd (upd H4 v (sE v pd)) pd (.frz o (.dK (kz ds vs)))) l1:=λz hz=>((ay z hz).same sv).put ni;have bd:(upd (upd H4 v (sE v pd)) pd (.frz o (.dK (kz ds vs)))) pd=some (.frz o (.dK (kz ds vs))):=eX
    have bp:∀(j:Nat) d v0,(ds.map (iy ks))[j]? =some d->vs[j]? =some v0->OkV A (upd (upd H4 v (sE v pd)) pd (.frz o (.dK (kz ds vs)))) d v0:=λj d v0 h1 h2=>by
     rw[zzl]at h1
     cases e:ds[j]? with
     |none=>rw[e]at h1;cases h1
     |some d0=>
      rw[e]at h1;cases h1;exact((ag j d0 v0 e h2).same sv).put ni
    generalize upd (upd H4 v (sE v pd)) pd (.frz o (.dK (kz ds vs)))=H5 at S5 ac bh bd bp;refine iK.vals (λσ=>∃a,σ=[a]) (λv=>decide (v≠.non)) id bd ⟨_,rfl⟩ (by rw[abE ad,zzk];have:=hR.l;omega) ?_ ?_
    ·rintro x hx σ H6 R1 R2 ⟨_,rfl⟩ sm k1 k2
     walk_at "i";by_cases e:x=.non
     ·rw[z4 (by simp[e])]
      exact k2 (by simp[e]) _ _ ⟨_,rfl⟩ (same_refl _)
     ·rw[z8 (by simp[e])]
      exact k1 (by simp[e]) _ _ ⟨_,rfl⟩ (same_refl _)
    ·intro Da H6 au s6 ba
     rw[Xx ad,ZF]at ba;obtain⟨l2,e1,e2,e3⟩:=Vs (A:=A) (H:=H5) (ds:=ds.map (iy ks)) (vs:=vs) (by rw[z0,ad]) bp;rw[e1]at ba;refine⟨sz,λt ht=>?_⟩;have st:=eZ (o:=.tup [V.ref pt,V.ref Da]) ht;have S6:=S5.trans (s6.trans st);exact k t pt Da l1 l2 _ S6 eX ((s6.trans st) _ _ ac) (st _ _ ba) (bh.same (s6.trans st)) (e3.same (s6.trans st)) af e2 bk (S5.free au) (λe=>by rw[<-e,ac]at au;cases au)
def aep{ds:List fP}(hu:(ds.map fP.n).Nodup){i j:Nat}{d e:fP}(h1:ds[i]? =some d)(h2:ds[j]? =some e)(q:i≠j):d.n≠e.n:=λz=>q (by
 have hl:i<(ds.map fP.n).length:=by rw[z0];exact(zzm.mp h1).1
 refine(ZT hl hu).mp ?_;rw[zzl,zzl,h1,h2];show some d.n=some e.n;rw[z])
def IW{ks:Pk}{n w:Int}(h:ks.lookup n=some w):(n,w)∈ks:=by
 induction ks with
 |nil=>cases h
 |cons k ks ih=>
  obtain⟨a,b⟩:=k;have h':(match n==a with|true=>some b|false=>ks.lookup n)=some w:=h;by_cases e:n=a
  ·have e':(n==a)=true:=by simpa using e
   rw[e']at h';cases h';rw[e];exact zze
  ·have e':(n==a)=false:=by simpa using e
   rw[e']at h';exact zzh _ (ih h')
def aeo{ds:List fP}(hu:(ds.map fP.n).Nodup){d e:fP}(h1:d∈ds)(h2:e∈ds)(h:d.n=e.n):d=e:=by
 obtain⟨i,hi,q⟩:=zzL h1;obtain⟨j,hj,ej⟩:=zzL h2
 have:i=j:=by
  by_cases z:i=j
  ·exact z
  ·exact(aep hu (by rw[zzg hi,q]) (by rw[zzg hj,ej]) z h).elim
 subst this;rw[<-q,<-ej]
def ju{ds:List fP}{ks:Pk}(q:rE ds)(hK:Ux ds ks){d:fP}(hd:d∈ds):(iy ks d).n=d.n/\(0<=(iy ks d).p/\(iy ks d).p<=100000000000)/\(¬0<(iy ks d).p->(iy ks d).p=0/\(iy ks d).c=0):=by
 have hg:=q.g d hd;unfold iy
 cases e:ks.lookup d.n with
 |none=>exact⟨rfl,⟨by show 0<=d.p;omega,hg.2⟩,λh=>absurd (show 0<d.p by omega) h⟩
 |some w=>
  obtain⟨d',h1,h2,z,h4⟩:=hK.h _ (IW e);obtain rfl:=aeo q.u h1 hd h2;have h4:w<=d'.p:=h4;have z:1<=w:=z;refine⟨rfl,⟨by show 0<=d'.p - w;omega,by show d'.p - w<=_;omega⟩,λh=>?_⟩;have h:¬0<d'.p - w:=h;have ew:w=d'.p:=by omega
  refine⟨by show d'.p - w=0;omega,?_⟩;show d'.c - d'.c*w/d'.p=0;rw[ew,yyr _ (by omega)];omega
theorem kO{f g:fP->Int}:∀{ds:List fP}{d0:fP},(ds.map fP.n).Nodup->d0∈ds->(∀d∈ds,d.n≠d0.n->f d=g d)->(ds.map f).sum=(ds.map g).sum - g d0+f d0
 |[],_,_,h,_=>by cases h
 |d::ds,d0,hu,h,hf=>by
  rw[z6,zzw]at hu;rw[z6,z6,zzr,zzr];rcases zzb.mp h with rfl|h
  ·have:ds.map f=ds.map g:=zzy λe q=>hf e (zzh _ q) λz=>hu.1 (by rw[<-z];exact z3.mpr ⟨e,q,rfl⟩)
   rw[this];omega
  ·have h1:=kO hu.2 h λe q=>hf e (zzh _ q)
   have h2:=hf d zze λz=>hu.1 (by rw[z];exact z3.mpr ⟨d0,h,rfl⟩);rw[h1,h2];omega
theorem Ml{ds:List fP}{ks:Pk}(hR:rE ds)(hK:Ux ds ks):∀i:Nat,i<=ks.length->
  (((ks.take i).map (pK ds)).map fP.p).sum+((ds.map (iy (ks.take i))).map fP.p).sum=(ds.map fP.p).sum/\(((ks.take i).map (pK ds)).map fP.c).sum+((ds.map (iy (ks.take i))).map fP.c).sum=(ds.map fP.c).sum
 |0,_=>by
  have e:ds.map (iy [])=ds:=(zzy λd _=>rfl).trans (ZF _);rw[List.take_zero,e];exact⟨by simp,by simp⟩
 |i+1,hi=>by
  obtain⟨h1,h2⟩:=Ml hR hK i (by omega);have z:ks[i]? =some ks[i]:=by simp
  obtain⟨d,hd,aa,hw⟩:=hK.h ks[i] (yya _);have q:d.n∉(ks.take i).map (·.1):=by rw[aa];exact IV hK.u z
  have er:ks[i]=(d.n,ks[i].2):=by rw[aa]
  generalize ks[i].2=w at er hw;have ab:ks.take (i+1)=ks.take i++[(d.n,w)]:=by rw[zzO,z,er];rfl
  have c1:=kO (f:=λe=>(iy (ks.take i++[(d.n,w)]) e).p) (g:=λe=>(iy (ks.take i) e).p) hR.u hd λe _ he=>by rw[rY he]
  have c2:=kO (f:=λe=>(iy (ks.take i++[(d.n,w)]) e).c) (g:=λe=>(iy (ks.take i) e).c) hR.u hd λe _ he=>by rw[rY he]
  simp only[Ji q,Jb q]at c1 c2;have es:=some_at (w:=w) hR.u hd;rw[ab];simp only[zzj,zza,zz5,z6,Zd,zzr,List.sum_nil,Function.comp_def,es]at h1 h2 c1 c2⊢;rw[c1,c2];omega
theorem Fd{f:fP->Int}:∀{l:List fP},(∀d∈l,¬0<d.p->f d=0)->((l.filter λd=>decide (0<d.p)).map f).sum=(l.map f).sum
 |[],_=>rfl
 |d::l,h=>by
  have q:=Fd (l:=l) λe z=>h e (zzh _ z);by_cases e:0<d.p
  ·rw[zzE (by simpa using e),z6,z6,zzr,zzr,q]
  ·rw[zzA (by simpa using e),z6,zzr,q,h d zze e]
   omega
def Qx{ds:List fP}{ks:Pk}(hR:rE ds)(hK:Ux ds ks):((ks.map (pK ds)).map fP.p).sum+((qz ks ds).map fP.p).sum=(ds.map fP.p).sum/\((ks.map (pK ds)).map fP.c).sum+((qz ks ds).map fP.c).sum=(ds.map fP.c).sum:=by
 have h:=Ml hR hK ks.length (zzc _);rw[yyb]at h
 have hz:∀e∈ds.map (iy ks),¬0<e.p->e.p=0/\e.c=0:=λe q=>by
  obtain⟨d,hd,rfl⟩:=z3.mp q;exact(ju hR hK hd).2.2
 unfold qz;rw[Fd (f:=fP.p) λe q z=>(hz e q z).1,Fd (f:=fP.c) λe q z=>(hz e q z).2];exact h
def adk{ds:List fP}{ks:Pk}(q:rE ds)(hK:Ux ds ks):rE (qz ks ds):=by
 have e:(ds.map (iy ks)).map fP.n=ds.map fP.n:=by
  rw[zzj];exact zzy λd hd=>(ju q hK hd).1
 refine⟨?_,λz hz=>?_,?_⟩
 ·refine List.Nodup.sublist ?_ q.u
  rw[<-e];exact List.Sublist.map _ List.filter_sublist
 ·obtain⟨h1,h2⟩:=zzY.mp hz
  obtain⟨d,hd,rfl⟩:=z3.mp h1;have hs:=ju q hK hd;have h2:0<(iy ks d).p:=by simpa using h2
  exact⟨by omega,hs.2.1.2⟩
 ·have:=yym (λd:fP=>decide (0<d.p)) (ds.map (iy ks))
  rw[z0]at this;have:=q.l;unfold qz;omega
def Wz{ns:List Int}{ls:RL}(h:Shp ns ls)(hn:ns.length<=63)(z:pcs ls<=100000000000):rE (ls.map (·.2)):=by
 refine⟨by rw[zzj];exact h.u,λd hd=>?_,by rw[z0];exact zzK h.len hn⟩;obtain⟨l,q,rfl⟩:=z3.mp hd;have h1:=h.p l q;have h2:=Qq h.p q;exact⟨h1,by omega⟩
def adq{ls:RL}{ks:Pk}{w:Int}(h:PkS ls ks w):Ux (ls.map (·.2)) ks:=⟨h.u,λk q=>let⟨l,a,b⟩:=h.h k q;⟨l.2,z3.mpr ⟨l,a,rfl⟩,b⟩⟩
def Uu{ns:List Int}{ls l1 l2:RL}{ks:Pk}{w:Int}(h:Shp ns ls)(hn:ns.length<=63)(hp:pcs ls<=100000000000)(hk:PkS ls ks w)(e1:l1.map (·.2)=ks.map (pK (ls.map (·.2))))(e2:l2.map (·.2)=qz ks (ls.map (·.2))):
  l1.map Qp=ks/\Shp ns l2/\pcs l2=pcs ls - w/\qd l1+qd l2=qd ls:=by
 have hR:=Wz h hn hp;have hK:=adq hk
 have hs:∀k∈ks,(pK (ls.map (·.2)) k).n=k.1/\(pK (ls.map (·.2)) k).p=k.2:=λk aa=>by
  obtain⟨d,hd,e,_⟩:=hK.h k aa;have:=some_at (w:=k.2) hR.u hd;rw[e]at this;rw[this];exact⟨rfl,rfl⟩
 have ac:l1.map Qp=ks:=by
  have:l1.map Qp=(l1.map (·.2)).map λd=>(d.n,d.p):=by rw[zzj];rfl
  rw[this,e1,zzj]
  exact Qy λk aa=>by
   show((pK _ k).n,(pK _ k).p)=k;rw[(hs k aa).1,(hs k aa).2]
 have ab:=(Qx hR hK).1;have z:=(Qx hR hK).2;rw[<-e1,<-e2]at ab z;rw[<-pI,<-pI,<-pI]at z
 have f1:((l1.map (·.2)).map fP.p).sum=w:=by
  have:(l1.map (·.2)).map fP.p=ks.map (·.2):=by
   rw[<-ac,zzj,zzj];rfl
  rw[this,hk.s]
 have f2:∀ms:RL,((ms.map (·.2)).map fP.p).sum=pcs ms:=λms=>by unfold pcs;rw[zzj];rfl
 rw[f1,f2,f2]at ab;have hok:=adk hR hK;rw[<-e2]at hok;refine⟨ac,⟨?_,λl hl=>(hok.g l.2 (z3.mpr ⟨l,hl,rfl⟩)).1,λl hl=>?_⟩,by omega,z⟩
 ·have:=hok.u
  rwa [zzj]at this
 ·have h1:l.2∈qz ks (ls.map (·.2)):=e2▸z3.mpr ⟨l,hl,rfl⟩
  obtain⟨h2,_⟩:=zzY.mp h1;obtain⟨d,hd,e⟩:=z3.mp h2;obtain⟨q,hq,rfl⟩:=z3.mp hd;rw[<-e,(ju hR hK hd).1];exact h.m q hq
noncomputable def abH(t:Int)(ds:List fP)(k:Int×Int):Int:=match ds.find? (λd=>d.n==k.1)with
 |some d=>los t d k.2
 |none=>0
def adE{ds:List fP}{d:fP}(q:(ds.map fP.n).Nodup)(h:d∈ds):ds.find? (λe=>e.n==d.n)=some d:=by
 induction ds with
 |nil=>cases h
 |cons e ds ih=>
  rw[z6,zzw]at q;rcases zzb.mp h with rfl|h
  ·simp
  ·have:e.n≠d.n:=λz=>q.1 (by rw[z];exact z3.mpr ⟨d,h,rfl⟩)
   rw[List.find?_cons_of_neg (by simpa using this)];exact ih q.2 h
def Qu{t:Int}{ds:List fP}{d:fP}{k:Int×Int}(q:(ds.map fP.n).Nodup)(h:d∈ds)(e:d.n=k.1):abH t ds k=los t d k.2:=by
 unfold abH;rw[<-e,adE q h]
theorem RG{ds:List fP}{ks:Pk}(hR:rE ds)(hK:Ux ds ks)(t:Int):∀i:Nat,i<=ks.length->(((ks.take i).map (pK ds)).map fP.c).sum+((ds.map (iy (ks.take i))).map (psi t)).sum+((ks.take i).map (abH t ds)).sum=t*((ks.take i).map (·.2)).sum+(ds.map (psi t)).sum
 |0,_=>by
  have e:ds.map (iy [])=ds:=(zzy λd _=>rfl).trans (ZF _);rw[List.take_zero,e];simp
 |i+1,hi=>by
  have h1:=RG hR hK t i (by omega);have z:ks[i]? =some ks[i]:=by simp
  obtain⟨d,hd,aa,hw⟩:=hK.h ks[i] (yya _);have q:d.n∉(ks.take i).map (·.1):=by rw[aa];exact IV hK.u z
  have er:ks[i]=(d.n,ks[i].2):=by rw[aa]
  generalize ks[i].2=w at er hw;have ab:ks.take (i+1)=ks.take i++[(d.n,w)]:=by rw[zzO,z,er];rfl
  have c1:=kO (f:=λe=>psi t (iy (ks.take i++[(d.n,w)]) e)) (g:=λe=>psi t (iy (ks.take i) e)) hR.u hd λe _ he=>by rw[rY he]
  simp only[Ji q,Jb q]at c1;have es:=some_at (w:=w) hR.u hd;have el:=Qu (t:=t) (k:=(d.n,w)) hR.u hd rfl;unfold los at el;rw[ab];simp only[zzj,zza,zz5,z6,Zd,zzr,List.sum_nil,Function.comp_def,es,el,ZY,yyo]at h1 c1⊢;rw[c1];omega
def adl{t:Int}{d:fP}(h:d.p=0/\d.c=0):psi t d=0:=by
 unfold psi;rw[h.1,h.2,Yb0];decide
def YT{ds:List fP}{ks:Pk}(q:rE ds)(z:Ux ds ks)(t:Int):((ks.map (pK ds)).map fP.c).sum+phi t (qz ks ds)+(ks.map (abH t ds)).sum=t*(ks.map (·.2)).sum+phi t ds:=by
 have h:=RG q z t ks.length (zzc _);rw[yyb]at h
 have hz:∀e∈ds.map (iy ks),¬0<e.p->psi t e=0:=λe he h0=>by
  obtain⟨d,hd,rfl⟩:=z3.mp he;exact adl ((ju q z hd).2.2 h0)
 unfold phi qz;rw[Fd hz];exact h
def acL{ds:List fP}{ks:Pk}(hR:rE ds)(z:Ux ds ks)(t:Int):0<=(ks.map (abH t ds)).sum:=jN λx q=>by
 obtain⟨k,hk,rfl⟩:=z3.mp q;obtain⟨d,hd,e,h1,h2⟩:=z.h k hk;rw[Qu hR.u hd e];exact agc h1 h2
def YM{ds:List fP}{ks:Pk}{t:Int}(hR:rE ds)(z:Ux ds ks)(hE:∀d∈ds,Ex d)(h:∀k∈ks,∀d∈ds,d.n=k.1->t*d.p<=d.c):(ks.map (abH t ds)).sum=0:=by
 have:ks.map (abH t ds)=ks.map λ_=>(0:Int):=zzy λk q=>by
  obtain⟨d,hd,e,h1,h2⟩:=z.h k q;rw[Qu hR.u hd e];exact afh h1 h2 (hE d hd) (h k q d hd e)
 rw[this];clear this
 induction ks with
 |nil=>rfl
 |cons k ks ih=>rw[z6,zzr,ih ⟨(zzw.mp z.u).2,λk q=>z.h k (.tail _ q)⟩ λk q=>h k (.tail _ q)];rfl
def Jr{ks:Pk}{k:Int×Int}(q:(ks.map (·.1)).Nodup)(h:k∈ks):ks.lookup k.1=some k.2:=by
 induction ks with
 |nil=>cases h
 |cons a ks ih=>
  rw[z6,zzw]at q;obtain⟨x,y⟩:=a;rcases zzb.mp h with e|h'
  ·rw[e,zzP,beq_self_eq_true]
  ·have:k.1≠x:=λe=>q.1 (e▸z3.mpr ⟨k,h',rfl⟩)
   rw[zzP,show(k.1==x)=false by simpa using this];exact ih q.2 h'
def adL{ds:List fP}{ks:Pk}(hR:rE ds)(z:∀d∈ds,Ex d):∀d∈qz ks ds,Ex d:=λd hd=>by
 obtain⟨h1,_⟩:=zzY.mp hd;obtain⟨e,q,rfl⟩:=z3.mp h1;unfold iy;split
 ·exact acE (hR.g e q).1 (z e q)
 ·exact z e q
def aau{ds:List fP}{ks:Pk}{s:Int}(hR:rE ds)(hK:Ux ds ks)(hE:∀d∈ds,Ex d)(h:∀d∈ds,(∀k∈ks,k.1=d.n->k.2<d.p)->d.c<=s*d.p):phi s (qz ks ds)=0:=by
 refine acK λd hd=>?_;obtain⟨h1,h2⟩:=zzY.mp hd;obtain⟨e,z,rfl⟩:=z3.mp h1;have h2:0<(iy ks e).p:=zzW h2;unfold iy at h2⊢
 cases hl:ks.lookup e.n with
 |none=>
  refine h e z λk hk ek=>?_;have:=Jr hK.u hk;rw[ek,hl]at this;cases this
 |some w=>
  rw[hl]at h2;have h2:0<e.p - w:=h2
  have q:=h e z λk hk ek=>by
   have:=Jr hK.u hk;rw[ek,hl]at this;cases this;omega
  obtain⟨r,_,er⟩:=hE e z;have hp:=(hR.g e z).1;have aa:r<=s:=by rw[er]at q;exact yyq q (by omega)
  show e.c - e.c*w/e.p<=s*(e.p - w);rw[er,zz9,yyr _ (by omega),<-Yb7];exact zzQ aa (by omega)
noncomputable def pnS(ds:List fP)(n:Int):Int:=(ds.map λd=>if d.n=n then d.p else 0).sum
noncomputable def lkP(ks:Pk)(n:Int):Int:=(ks.lookup n).getD 0
theorem Pj{n:Int}:∀{ds:List fP},n∉ds.map fP.n->pnS ds n=0
 |[],_=>rfl
 |d::ds,h=>by
  rw[z6,zzb,not_or]at h;show(if d.n=n then d.p else 0)+pnS ds n=0;rw[z4 (λe=>h.1 e.symm),Pj h.2];rfl
theorem ael:∀{ds:List fP}{d:fP},(ds.map fP.n).Nodup->d∈ds->pnS ds d.n=d.p
 |e::ds,d,hu,h=>by
  rw[z6,zzw]at hu;show(if e.n=d.n then e.p else 0)+pnS ds d.n=d.p;rcases zzb.mp h with rfl|h
  ·rw[z8 rfl,Pj hu.1];omega
  ·rw[z4 (λz=>hu.1 (by rw[z];exact z3.mpr ⟨d,h,rfl⟩)),ael hu.2 h];omega
def adw{ds:List fP}{ks:Pk}(hR:rE ds)(hK:Ux ds ks)(n:Int):pnS (qz ks ds) n=pnS ds n - lkP ks n:=by
 have hz:∀e∈ds.map (iy ks),¬0<e.p->(if e.n=n then e.p else 0)=0:=λe he q=>by
  obtain⟨d,hd,rfl⟩:=z3.mp he;rw[((ju hR hK hd).2.2 q).1];split<;>rfl
 unfold pnS qz;rw[Fd hz,zzj]
 have hl:∀d∈ds,((λd:fP=>if d.n=n then d.p else 0)∘iy ks) d=if d.n=n then d.p - lkP ks n else 0:=λd hd=>by
  show(if(iy ks d).n=n then(iy ks d).p else 0)=_;rw[(ju hR hK hd).1];by_cases c:d.n=n
  ·rw[z8 c,z8 c]
   unfold iy lkP;rw[c]
   cases ks.lookup n with
   |none=>show d.p=d.p - 0;omega
   |some w=>rfl
  ·rw[z4 c,z4 c]
 rw[zzy hl];by_cases hm:n∈ds.map fP.n
 ·obtain⟨d,hd,e⟩:=z3.mp hm
  have:=kO (f:=λd=>if d.n=n then d.p - lkP ks n else 0) (g:=λd=>if d.n=n then d.p else 0) hR.u hd λx _ hx=>by rw[z4 (λz=>hx (z.trans e.symm)),z4 (λz=>hx (z.trans e.symm))]
  rw[this,z8 e,z8 e];omega
 ·have q:lkP ks n=0:=by
   unfold lkP
   cases hl:ks.lookup n with
   |none=>rfl
   |some w=>
    obtain⟨d,hd,e,_⟩:=hK.h _ (IW hl);exact(hm (z3.mpr ⟨d,hd,e⟩)).elim
  have h1:∀d∈ds,(if d.n=n then d.p - lkP ks n else 0)=if d.n=n then d.p else 0:=λd _=>by rw[q,Zv]
  rw[zzy h1,q,Zv]
structure Gon(dr:Bool)(o:Option PL)(ls l1 l2:RL)(w:Int):Prop where
 c:qd l1+qd l2=qd ls
 u:∀t,qd l1+phi t (l2.map (·.2))<=t*w+phi t (ls.map (·.2))
 d:dr=true->o=none->(∀l∈ls,Ex l.2)->(∀l∈l2,Ex l.2)/\∃s,0<=s/\phi s (l2.map (·.2))=0/\∀t,0<=t->t<=s->qd l1+phi t (l2.map (·.2))=t*w+phi t (ls.map (·.2))
 n:∀ps,o=some ps->∀n,pnS (l2.map (·.2)) n=pnS (ls.map (·.2)) n - lkP (ps.map (·.2)) n
 k:∀l∈l2,∃m∈ls,m.2.n=l.2.n
noncomputable def NP(H:Hp)(v:V):Option PL->Prop
 |none=>v=.non
 |some ps=>∃l,v=.ref l/\H l=some (.lst (Cu ps))/\aaI H ps
inductive Uz(A:Adr):Bool->Addr->Prop
 |e:Uz A false A.vJ
 |n:Uz A false A.vL
 |d:Uz A true A.vM
 |m:Uz A false A.vI
def afr{b:Bool}{C:Addr}(q:Uz A b C):∃m,(C,PJ A m)∈[(A.vJ,PJ A false),(A.vL,PJ A false),(A.vM,PJ A false),(A.vI,PJ A true)]/\(b=true->m=false):=by
 cases q
 ·exact⟨false,by simp,λ_=>rfl⟩
 ·exact⟨false,by simp,λ_=>rfl⟩
 ·exact⟨false,by simp,λ_=>rfl⟩
 ·exact⟨true,by simp,λc=>by cases c⟩
def aam{b:Bool}{C:Addr}(q:Uz A b C):∃m,(C,Bf A m)∈[(A.vJ,Bf A false),(A.vL,Bf A false),(A.vM,Bf A true),(A.vI,Bf A false)]/\(b=true->m=true):=by
 cases q
 ·exact⟨false,by simp,λc=>by cases c⟩
 ·exact⟨false,by simp,λc=>by cases c⟩
 ·exact⟨true,by simp,λ_=>rfl⟩
 ·exact⟨false,by simp,λc=>by cases c⟩
def afv{dr:Bool}{o:Option PL}{ls z l1 l2:RL}{ks:Pk}{w:Int}(hR:rE (z.map (·.2)))(hK:Ux (z.map (·.2)) ks)(hw:(ks.map (·.2)).sum=w)(e1:l1.map (·.2)=ks.map (pK (z.map (·.2))))(e2:l2.map (·.2)=qz ks (z.map (·.2)))(hc:qd z=qd ls)(aa:∀t,phi t (z.map (·.2))<=phi t (ls.map (·.2)))(hs:Sim ls z)(hd:dr=true->o=none->z=ls/\((∀l∈ls,Ex l.2)->Thr (ls.map (·.2)) ks))(ho:∀ps,o=some ps->ks=ps.map (·.2))(k4:qd l1+qd l2=qd z):Gon dr o ls l1 l2 w:=by
 have hg:∀t,qd l1+phi t (l2.map (·.2))+(ks.map (abH t (z.map (·.2)))).sum=t*w+phi t (z.map (·.2)):=λt=>by
  have:=YT hR hK t;rw[<-e1,<-e2,<-pI,hw]at this;exact this
 refine⟨k4.trans hc,λt=>?_,λh1 h2 hE=>?_,λps hp n=>?_,λl hl=>?_⟩
 ·have:=hg t
  have:=acL hR hK t;have:=aa t;omega
 ·obtain⟨rfl,ht⟩:=hd h1 h2
  have hE':∀d∈z.map (·.2),Ex d:=λd hd=>by
   obtain⟨l,hl,rfl⟩:=z3.mp hd;exact hE l hl
  obtain⟨s,s0,sA,sB⟩:=ht hE;refine⟨λl hl=>adL hR hE' l.2 (e2▸z3.mpr ⟨l,hl,rfl⟩),s,s0,e2▸aau hR hK hE' sB,λt _ ab=>?_⟩;have:=hg t;rw[YM hR hK hE' λk hk d hd en=>Int.le_trans (zzQ ab (by have:=(hR.g d hd).1;omega)) (sA k hk d hd en)]at this;omega
 ·obtain rfl:=ho ps hp
  rw[e2,adw hR hK n];congr 1;unfold pnS;rw[zzj,zzj];have:∀l:RL,(l.map ((λd:fP=>if d.n=n then d.p else 0)∘λx=>x.2))=(l.map Qp).map λq=>if q.1=n then q.2 else 0:=λl=>by rw[zzj];rfl
  rw[this,this,hs]
 ·have h1:l.2∈qz ks (z.map (·.2)):=e2▸z3.mpr ⟨l,hl,rfl⟩
  obtain⟨d,hd,e⟩:=z3.mp (zzY.mp h1).1;obtain⟨r,hr,rfl⟩:=z3.mp hd;have h2:r.2.n∈ls.map (·.2.n):=hs.ns▸z3.mpr ⟨r,hr,rfl⟩;obtain⟨m,hm,em⟩:=z3.mp h2;exact⟨m,hm,by rw[em,<-e,(ju hR hK hd).1]⟩
noncomputable def Kh(A:Adr):Sp:=λvs H Q _=>∃(x C dx q:Addr)(dr:Bool)(ns:List Int)(ls:RL)(w:Int)(nv:V)(o:Option PL),vs=[.ref x,.ref q,.int w,nv]/\H x=some (.ins C dx [])/\Uz A dr C/\H q=some (.lst (gq ls))/\jd A H ls/\Shp ns ls/\ns.length<=63/\pcs ls<=100000000000/\1<=w/\w<=pcs ls/\NP H nv o/\(∀ps,o=some ps->PkS ls (ps.map (·.2)) w)/\
 ∀t la lb l1 l2 H',Same H H'->H' t=some (.tup [.ref la,.ref lb])->H' la=some (.lst (gq l1))->H' lb=some (.lst (gq l2))->jd A H' l1->jd A H' l2->Shp ns l1->pcs l1=w->l1≠[]->Shp ns l2->pcs l2=pcs ls - w->Gon dr o ls l1 l2 w->
  H la=none->H lb=none->la≠lb->Q (.ref t) H'
def Lb(T:Txt K mg A D):gJ P w K mg base CX0 5 A.u9 D.u9 ["way", "lots", "pieces", "named"] (Kh A):=by
 refine T.xn.F.okv pG λ_ _ _ _ H vs Q E hr h=>?_
 ·obtain⟨x,C,dx,q,dr,ns,ls,w,nv,o,rfl,hx,hC,hq,hL,hS,hn,hp,h0,h1,am,ak,k⟩:=h
  refine ⟨_,(eU (fL (i:=4) pG.nd rfl orl (gY (pv 0) (mc T.zc T.zC (kY T) hr (mC T) (mc T.zd T.zD (kY T) hr (mC T) (mc T.ze T.zE (kY T) hr (mC T) (mc T.zb T.zF (Cp T) hr (Em T) .nil)))) iI (pav 1 eV)))
   (eU (fL (i:=5) pG.nd rfl orl (sS (fK (sI) (pvD 3) jx (fX _)) (gY (pv 0) (mc T.zc T.zG (pX T) hr (qL T) (mc T.zd T.zH (DN T) hr (GX T) (mc T.ze T.zI (Bs T) hr (Du T) (mc T.zb T.zJ (pX T) hr (qL T) .nil)))) iI (pav 4 (pav 2 eV))) (pvD 3)))
   (eY (fJ (pcg (Gh T) hr T.xg (Iv T) (pav 4 (pav 5 eV))))))),?_⟩
  have ac:ls.length<=100:=by have:=hS.len;omega
  obtain⟨m,hm,av⟩:=afr hC;obtain⟨m2,an,ae⟩:=aam hC;simp only[start_eq];walk_at "n";refine⟨C,dx,_,hx,_,hm,by rfl,x,q,ls,rfl,hq,hL,ac,hS.p,by omega,λl ms H1 s1 hl h2 ad ab au ao ar=>?_⟩;have aa:=ab.shp hS;have aw:=ab.pcs
  have aj:∀(pk:Addr)(ps:PL)(H2:Hp),Same H1 H2->H2 pk=some (.lst (Cu ps))->aaI H2 ps->PkS ms (ps.map (·.2)) w->(dr=true->o=none->ms=ls/\((∀l∈ls,Ex l.2)->Thr (ls.map (·.2)) (ps.map (·.2))))->(∀qs,o=some qs->ps=qs)->qK A [.ref l,.ref pk] H2 Q E0:=λpk ps H2 s2 h3 hP hK hd ho=>by
   refine⟨l,pk,ms,ps,rfl,s2 _ _ h2,ad.same s2,h3,hP,Wz aa hn (by omega),adq hK,λt la lb l1 l2 H3 s3 ht g1 g2 g3 g4 e1 e2 f1 f2 f3=>?_⟩;obtain⟨k1,k2,k3,k4⟩:=Uu aa hn (by omega) hK e1 e2;have S2:=s1.trans s2;have ai:l1.map (·.2.n)=(ps.map (·.2)).map (·.1):=by rw[<-k1,zzj];rfl
   have ag:l1.map (·.2.p)=(ps.map (·.2)).map (·.2):=by rw[<-k1,zzj];rfl
   have al:pcs l1=w:=by unfold pcs;rw[ag];exact hK.s
   have ap:Shp ns l1:=by
    refine⟨by rw[ai];exact hK.u,λr hr=>?_,λr hr=>?_⟩
    ·have:Qp r∈ps.map (·.2):=k1▸z3.mpr ⟨r,hr,rfl⟩
     obtain⟨q,_,_,a,_⟩:=hK.h _ this;exact a
    ·have:Qp r∈ps.map (·.2):=k1▸z3.mpr ⟨r,hr,rfl⟩
     obtain⟨q,aq,e,_⟩:=hK.h _ this;have e:q.2.n=r.2.n:=e;exact e▸aa.m q aq
   refine k t la lb l1 l2 H3 (S2.trans s3) ht g1 g2 g3 g4 ap al (λz=>?_) k2 (by omega) (afv (Wz aa hn (by omega)) (adq hK) hK.s e1 e2 au ao ab hd (λqs e=>by rw[ho qs e]) k4) (S2.free f1) (S2.free f2) f3;rw[z]at al;have:pcs []=0:=rfl;omega
  cases o with
  |none=>
   obtain rfl:nv=.non:=am;walk_at "n";refine⟨C,dx,_,s1 _ _ hx,_,an,by rfl,x,l,ms,w,rfl,h2,ad,by rw[ab.len];exact ac,aa.u,λq hq=>⟨aa.p q hq,by have:=Qq aa.p hq;omega⟩,by omega,by omega,λpk ps H2 s2 ak h3 hP hK hT=>?_⟩;dsimp only;rw[ap_ret];walk_at "i";refine aj pk ps H2 s2 h3 hP hK (λhd _=>?_) (λqs e=>by cases e);obtain rfl:=ar (av hd);exact⟨rfl,hT (ae hd) h0⟩
  |some ps=>
   obtain⟨pk,rfl,ah,af⟩:=am;walk_at "n"
   (try dsimp only)
   rw[ap_ret];walk_at "i";refine aj pk ps H1 (same_refl _) (s1 _ _ ah) (af.same s1) ?_ (λ_ c=>by cases c) (λqs e=>by cases e;rfl);have hK:=ak ps rfl
   exact ⟨hK.u,λk hk=>by
    obtain⟨r,hr,e,a1,a2⟩:=hK.h k hk;have:Qp r∈ms.map Qp:=by rw[ab];exact z3.mpr ⟨r,hr,rfl⟩
    obtain⟨r',as,er⟩:=z3.mp this;have e1:r'.2.n=r.2.n:=congrArg Prod.fst er;have e2:r'.2.p=r.2.p:=congrArg Prod.snd er;exact⟨r',as,e1.trans e,a1,by omega⟩,hK.s⟩
noncomputable def Ca(A:Adr):Sp:=λvs H Q _=>∃(x:Addr)(d:fP)(p c:Int),vs=[.ref x,.int p,.int c]/\jw A H x d/\∀y H',Same H H'->H y=none->jw A H' y ⟨d.n,d.s,d.p+p,d.c+c⟩->Q (.ref y) H'
def Cj(T:Txt K mg A D):gJ P w K mg base CX0 3 A.uM D.uM ["self", "pieces", "cost"] (Ca A):=by
 refine T.wP.ok BP (by walk_at "v") (λ_ _ _ s H vs Q E hr h=>?_)
 ·obtain⟨x,⟨n,s,p,c⟩,p',c',rfl,⟨dx,q⟩,k⟩:=h
  refine⟨_,(eY (fJ (lC T.zi (jb (K:=K) T) (hr.mono (by decide)) (by rfl) T.yc (jh T) .nil iI (eQ (fv K 0) (eQ (fv K 0) (eQ (fQ iY (fv K 0) (pvD 1)) (eQ (fQ iY (fv K 0) (pvD 2)) eV))))))),?_⟩;walk_at "a";refine rd q T.y4 T.y6 (by rfl) (?_);refine rd q T.y4 T.y8 (by rfl) (?_);refine rd q T.y4 T.y9 (by rfl) (?_);refine⟨_,rfl,rd q T.y4 T.za (by rfl) ⟨_,rfl,λy dy hy z _=>?_⟩⟩;exact su ⟨n,s,p+p',c+c'⟩ hy z λH' sm hL=>k y H' sm hy hL
noncomputable def toI:V->Int
 |.int i=>i
 |_=>0
noncomputable def Ey(A:Adr):Sp:=λvs H Q _=>∃(x:Addr)(d:fP),vs=[.ref x]/\jw A H x d/\∀t,H t=none->Q (.ref t) (upd H t (.tup [.int d.s,.int d.n]))
def Et(T:Txt K mg A D):gJ P w K mg base CX0 1 A.uK D.uK ["lot"] (Ey A):=by
 refine T.wN.F.okv Ec λ_ _ _ _ H vs Q E hr h=>?_
 ·obtain⟨x,d,rfl,⟨dx,q⟩,k⟩:=h
  refine⟨_,(eY (fJ (jQ (eQ (fv K 0) (eQ (fv K 0) eV))))),?_⟩;walk_at "a";refine rd q T.y4 T.y8 (by rfl) (rd q T.y4 T.y6 (by rfl) (?_));exact⟨sz,λt z=>k t z⟩
def Xv{ls:RL}{f:Addr×fP->Bool}{acc:List V}(hl:acc.length=ls.length)(h:∀(i:Nat) v,acc[i]? =some v->∃l,ls[i]? =some l/\v=.bl (f l)):acc=(ls.map f).map V.bl:=by
 refine yyU (by simp[hl]) λi h1 h2=>?_;obtain⟨l,q,z⟩:=h i acc[i] (by simp);rw[z];have h3:i<ls.length:=by omega
 have:ls[i]=l:=by
  rw[zzg h3]at q;exact zzq q
 simp[this]
noncomputable def qC(d e:fP):fP:=if e.n=d.n then⟨e.n,e.s,e.p+d.p,e.c+d.c⟩else e
noncomputable def kfL(H:Hp):V->List Int
 |.ref b=>match H b with
  |some (.ins _ _ fs)=>[toI ((fs.lookup ("since" :Str)).getD .non),toI ((fs.lookup ("number" :Str)).getD .non)]
  |_=>[]
 |_=>[]
def aaW{H:Hp}{b:Addr}{d:fP}(h:jw A H b d):kfL H (.ref b)=[d.s,d.n]:=by
 obtain⟨dx,e⟩:=h;unfold kfL;dsimp only;rw[e];rfl
noncomputable def Oi(A:Adr):Sp:=λvs H Q _=>∃(q x:Addr)(ls:RL)(d:fP),vs=[.ref q,.ref x]/\H q=some (.lst (gq ls))/\jd A H ls/\jw A H x d/\ls.length<=61/\(ls.map (·.2.n)).Nodup/\
 ∀l ls' H',Same H H'->H l=none->H' l=some (.lst (gq ls'))->jd A H' ls'->
  (d.n∈ls.map (·.2.n)->ls'.map (·.2)=(ls.map (·.2)).map (qC d))->(d.n∉ls.map (·.2.n)->(ls'.map (·.2)).Perm (ls.map (·.2)++[d]))->Q (.ref l) H'
def OD(T:Txt K mg A D):gJ P w K mg base CX0 4 A.uN D.uN ["lots", "lot"] (Oi A):=by
 refine T.wQ.F.okv PB λ_ _ _ _ H vs Q E hr h=>?_
 ·obtain⟨q,x,ls,d,rfl,hq,hL,⟨dx,hx⟩,hl,hu,k⟩:=h
  refine ⟨_,(eU (iC (lU (fH (Nh (K:=K) rfl) (by rfl) T.xW (by decide+kernel) (eQ (gF (cap:=[none,some 1]) (N':=["one", "lot"]) rfl (by walk_at "c") (gm (K:=K) (pv 0)) (λ_ _ _ _=>(fG (i:=0) (show(["one", "lot"]:List Str).Nodup from by decide+kernel) rfl orl orr)) (λ_ _ _ _=>gQ) (λ_ _ _ _=>(Iw (qX) (fv K 0) (fv K 1) (fX _)))) eV))) (eY (fJ (gF (cap:=[none,some 1]) (N':=["one", "lot"]) rfl (by walk_at "c") (gm (K:=K) (pv 0)) (λ_ _ _ _=>(fG (i:=0) (show(["one", "lot"]:List Str).Nodup from by decide+kernel) rfl orl orr)) (λ_ _ _ _=>gQ) (λ_ _ _ _=>(sS (fK (qX) (fv K 0) (fv K 1) (fX _)) (gY (pv 0) (mc T.y4 T.zu (Cj T) hr (Df T) .nil) iI (eQ (fv K 1) (eQ (fv K 1) eV))) (pvD 0)))))) gn)
   (eY (fJ (Fx (K:=K) (by rfl) (Hl (Et (K:=K) T) (hr.mono (by decide)) (Gv T) (by rfl) T.xU (by decide+kernel) (by rfl) T.wN.m (eQ (fQ Rt (pvD 0) (jc (pav 1 eV))) eV)))))),?_⟩
  simp only[start_eq];walk_at "m";have aw:jw A H x d:=⟨dx,hx⟩;refine⟨⟨_,fj hq⟩,?_⟩;refine iK.listE (K:=K) (λσ=>∃a,σ=[a,some (.ref x)]) (λi v _=>∃l,ls[i]? =some l/\v=.bl (decide (l.2.n=d.n))) (fj hq) ⟨_,rfl⟩ (by rw[fM,zzk];omega) ?_ ?_
  ·rintro Da i y hy σ H5 R ⟨_,rfl⟩ sm hD _ kk
   obtain⟨l,ab,rfl⟩:=iG hy;obtain⟨dy,aa⟩:=(hL l (get_mem ab)).same sm;walk_at "i";refine rd aa T.y4 T.y6 (by rfl) (rd (sm _ _ hx) T.y4 T.y6 (by rfl) (?_));exact⟨rfl,kk _ _ H5 ⟨_,rfl⟩ (same_refl _) λH' _=>⟨l,ab,by simp⟩⟩
  ·intro Da H1 acc hD sm hA ap hF
   have ao:acc=(ls.map λl=>decide (l.2.n=d.n)).map V.bl:=Xv (by rw[ap,fM]) hF;rw[ao]at hA;walk_at "i";refine⟨_,fj hA,?_⟩;have aq:=hL.same sm;have az:=sm _ _ hx;have ae:=sm _ _ hq;by_cases hm:d.n∈ls.map (·.2.n)
   ·obtain⟨l0,ag,e0⟩:=z3.mp hm
    rw[z8 (zzZ.mpr ⟨true,z3.mpr ⟨l0,ag,zzx e0⟩,rfl⟩)];refine⟨⟨_,fj ae⟩,?_⟩;refine iK.listE (K:=K) (λσ=>∃a,σ=[a,some (.ref x)]) (λi v H'=>∃b l,ls[i]? =some l/\v=.ref b/\jw A H' b (qC d l.2)) (fj ae) ⟨_,rfl⟩ (by rw[fM,zzk];omega) ?_ ?_
    ·rintro Db i y hy σ H5 R ⟨_,rfl⟩ am aj ⟨afA,al⟩ kk
     obtain⟨l,ab,rfl⟩:=iG hy;obtain⟨dy,aa⟩:=(aq l (get_mem ab)).same am;have ah:=am _ _ az;walk_at "i";refine rd aa T.y4 T.y6 (by rfl) (rd ah T.y4 T.y6 (by rfl) ⟨rfl,?_⟩);by_cases e:l.2.n=d.n
     ·rw[z8 (by simp[e])]
      refine md aa zze (by rfl) (rd ah T.y4 T.y9 (by rfl) (rd ah T.y4 T.za (by rfl) ⟨l.1,l.2,d.p,d.c,rfl,⟨dy,aa⟩,λz H6 s6 hz hZ=>kk (.ref z) _ H6 ⟨_,rfl⟩ s6 λH' hb=>⟨z,l,ab,rfl,?_⟩⟩));unfold qC;rw[z8 e];exact hZ.but (λe=>by rw[e,al]at hz;cases hz) hb
     ·rw[z4 (by simp[e])]
      refine kk (.ref l.1) _ H5 ⟨_,rfl⟩ (same_refl _) λH' hb=>⟨l.1,l,ab,rfl,?_⟩;unfold qC;rw[z4 e];exact jw.but ⟨dy,aa⟩ (λe=>by rw[e,al]at aa;cases aa) hb
    ·intro Db H4 an aj au ax ac ar
     rw[fM]at ac
     obtain ⟨ay,q1,q2,q3⟩:=acS (λ_ H r=>jw A H r.1 r.2) (H:=H4) (acc:=an) (ds:=(ls.map (·.2)).map (qC d)) (by rw[ac,z0,z0]) λi v hv=>by
      obtain⟨b,l,h1,h2,h3⟩:=ar i v hv;exact⟨b,_,by rw[zzl,zzl,h1];rfl,h2,h3⟩
     exact k Db ay H4 (sm.trans au) (sm.free aj) (q1▸ax) q3 (λ_=>q2) λh=>(h hm).elim
   ·rw[z4 (λh=>hm ?_)]
    ·obtain⟨os,ad⟩:∃os:RL,os=ls++[(x,d)]:=⟨_,rfl⟩
     have ai:gq ls++[V.ref x]=gq os:=by rw[ad];unfold gq;rw[zza];rfl
     refine⟨sz,λp hp=>⟨_,eZ hp _ _ ae,_,eX,by rw[fM,zzk];show ls.length+1<=_;omega,λp1 as=>?_⟩⟩;rw[ai];have s2:=sm.trans ((eZ (o:=.lst [V.ref x]) hp).trans (eZ (o:=.lst (gq os)) as));have h2:(upd (upd H1 p (.lst [V.ref x])) p1 (.lst (gq os))) p1=some (.lst (gq os)):=eX;generalize upd (upd H1 p (.lst [V.ref x])) p1 (.lst (gq os))=H2 at s2 h2
     have hO:jd A H2 os:=λo ho=>by
      rw[ad]at ho;rcases zzs.mp ho with ho|ho
      ·exact(hL o ho).same s2
      ·obtain rfl:=z9.mp ho
       exact aw.same s2
     have bb:os.length<=62:=by rw[ad,zzt,yyI];omega
     refine⟨_,fj h2,by rw[fM];omega,kfL H2,λy hy=>?_,λp2 zs H3 s3 hn hz af ba=>?_⟩
     ·obtain⟨o,ho,rfl⟩:=z3.mp hy
      rw[aaW (hO o ho)];refine⟨by simp,λH5 s5 R hR=>⟨o.1,o.2,rfl,(hO o ho).same s5,λt ht=>hR t _ (eZ ht) ?_⟩⟩;rw[aaW (hO o ho)];exact eX
     ·obtain⟨av,rfl,ak⟩:=HJ (f:=λr:Addr×fP=>V.ref r.1) af rfl
      refine k p2 av H3 (s2.trans s3) (s2.free hn) hz (λr hr=>(hO r (ak.mem_iff.mp hr)).same s3) (λh=>(hm h).elim) λ_=>?_;have:=ak.map (·.2);rw[ad,zza]at this;exact this
    ·obtain⟨b,hb,eb⟩:=zzZ.mp h
     obtain⟨l0,ag,e0⟩:=z3.mp hb;have eb:b=true:=eb;rw[eb]at e0;exact z3.mpr ⟨l0,ag,zzW e0⟩
def SN{ns:List Int}{ls ms:RL}{d:fP}(h:Shp ns ls)(hd:1<=d.p)(hn:d.n∈ns)(e1:d.n∈ls.map (·.2.n)->ms.map (·.2)=(ls.map (·.2)).map (qC d))(e2:d.n∉ls.map (·.2.n)->(ms.map (·.2)).Perm (ls.map (·.2)++[d])):Shp ns ms/\pcs ms=pcs ls+d.p:=by
 have fn:∀l:RL,l.map (·.2.n)=(l.map (·.2)).map fP.n:=λl=>by rw[zzj];rfl
 have fp:∀l:RL,pcs l=((l.map (·.2)).map fP.p).sum:=λl=>by unfold pcs;rw[zzj];rfl
 by_cases hm:d.n∈ls.map (·.2.n)
 ·have e:=e1 hm
  have ab:ms.map (·.2.n)=ls.map (·.2.n):=by
   rw[fn,fn,e,zzj];exact zzy λx _=>by show(qC d x).n=x.n;unfold qC;split<;>rfl
  refine⟨⟨by rw[ab];exact h.u,λl hl=>?_,λl hl=>?_⟩,?_⟩
  ·have:l.2∈(ls.map (·.2)).map (qC d):=e▸z3.mpr ⟨l,hl,rfl⟩
   obtain⟨x,hx,e'⟩:=z3.mp this;obtain⟨q,hq,rfl⟩:=z3.mp hx;have:=h.p q hq;rw[<-e'];unfold qC;split
   ·show 1<=q.2.p+d.p;omega
   ·exact this
  ·have:l.2.n∈ms.map (·.2.n):=z3.mpr ⟨l,hl,rfl⟩
   rw[ab]at this;obtain⟨q,hq,e'⟩:=z3.mp this;exact e'▸h.m q hq
  ·rw[fp,fp,e]
   obtain⟨q,hq,eq⟩:=z3.mp hm;have hu:=h.u;rw[fn]at hu
   have c:=kO (f:=λx=>(qC d x).p) (g:=fP.p) hu (z3.mpr ⟨q,hq,rfl⟩) λx _ ac=>by
    show(qC d x).p=x.p;unfold qC;rw[z4 (λz=>ac (z.trans eq.symm))]
   rw[zzj];show((ls.map (·.2)).map λx=>(qC d x).p).sum=_;rw[c];show _ - q.2.p+(qC d q.2).p=_;unfold qC;rw[z8 eq];show _ - q.2.p+(q.2.p+d.p)=_;omega
 ·have e:=e2 hm
  have aa:=e.map fP.n;rw[zza,<-fn,<-fn]at aa;refine⟨⟨aa.nodup_iff.mpr (zzS.mpr ⟨h.u,zzw.mpr ⟨zzd,.nil⟩,λa ha b hb=>?_⟩),λl hl=>?_,λl hl=>?_⟩,?_⟩
  ·have:b=d.n:=z9.mp hb
   rw[this];exact λz=>hm (z▸ha)
  ·rcases zzs.mp (e.mem_iff.mp (z3.mpr ⟨l,hl,rfl⟩))with g|g
   ·obtain⟨q,hq,e'⟩:=z3.mp g
    exact e'▸h.p q hq
   ·rw[z9.mp g];exact hd
  ·rcases zzs.mp (e.mem_iff.mp (z3.mpr ⟨l,hl,rfl⟩))with g|g
   ·obtain⟨q,hq,e'⟩:=z3.mp g
    exact e'▸h.m q hq
   ·rw[z9.mp g];exact hn
  ·rw[fp,fp,oO (e.map fP.p),zza,zz5]
   simp
structure Ju(kvs:List (Key×V)):Prop where
 k:∀kv∈kvs,∃(z:Str)(i:Int),kv=(Sum.inr z,.int i)/\1<=i
 u:(kvs.map (·.1)).Nodup
def Ju.val{kvs:List (Key×V)}(h:Ju kvs)(z:Str):jo kvs (Sum.inr z)=if 0<iZ kvs z then some (.int (iZ kvs z))else none:=by
 unfold iZ
 cases e:jo kvs (Sum.inr z)with
 |none=>rfl
 |some v=>
  obtain⟨y,i,q,hi⟩:=h.k _ (Ia e);cases q;rw[z8 (show(0:Int)<i by omega)]
def Ju.nn{kvs:List (Key×V)}(h:Ju kvs)(z:Str):0<=iZ kvs z:=by
 have:=h.val z;by_cases e:0<iZ kvs z
 ·omega
 ·rw[z4 e]at this
  unfold iZ;rw[this];exact zz3 _
def KN{kvs:List (Key×V)}(h:Ju kvs)(z:Str):(jo kvs (Sum.inr z)).getD (.int 0)=.int (iZ kvs z):=by
 rw[h.val z];have:=h.nn z;split
 ·rfl
 ·show V.int 0=V.int (iZ kvs z)
  congr 1;omega
def Rx{kvs:List (Key×V)}(h:Ju kvs){k:Key}:k∈kvs.map (·.1)↔∃z,k=Sum.inr z/\0<iZ kvs z:=by
 constructor
 ·intro hk
  obtain⟨kv,q,rfl⟩:=z3.mp hk;obtain⟨z,i,e,hi⟩:=h.k kv q;subst e;refine⟨z,rfl,?_⟩;have:=HF h.u q;unfold iZ;rw[this];show 0<i;omega
 ·rintro⟨z,rfl,hz⟩
  have:=h.val z;rw[z8 hz]at this;exact z3.mpr ⟨_,Ia this,rfl⟩
theorem Nf{α:Type} [DecidableEq α]:∀{l k:List α},l.Nodup->(∀x∈l,x∈k)->l.length<=k.length
 |[],_,_,_=>zzB _
 |x::l,k,h,s=>by
  have h':=zzw.mp h;have q:x∈k:=s x (.head _);have:=Nf (l:=l) (k:=k.erase x) h'.2 λy z=>(yy9 (λe=>by subst e;exact h'.1 z)).mpr (s y (.tail _ z));rw[yyP q]at this;have hp:0<k.length:=yyZ q;rw[zzu];omega
def SQ{ka kb:List (Key×V)}(ha:Ju ka)(hb:Ju kb)(h:∀z,iZ ka z=iZ kb z):Alike ka kb:=by
 have aa:∀{p q:List (Key×V)},Ju p->Ju q->(∀z,iZ p z=iZ q z)->p.length<=q.length:=fun{p q} hp hq e=>by
  have:=Nf (l:=p.map (·.1)) (k:=q.map (·.1)) hp.u λk hk=>by
   obtain⟨z,rfl,hz⟩:=(Rx hp).mp hk;exact(Rx hq).mpr ⟨z,rfl,by rw[<-e];exact hz⟩
  rwa [z0,z0]at this
 refine⟨Nat.le_antisymm (aa ha hb h) (aa hb ha λz=>(h z).symm),λkv ab=>?_⟩;obtain⟨z,i,e,hi⟩:=ha.k kv ab;subst e;refine⟨i,rfl,?_⟩;have h1:=HF ha.u ab;have h2:iZ ka z=i:=by unfold iZ;rw[h1]
 rw[hb.val z,<-h z,h2,z8 (by omega)]
noncomputable def posK(kv:Key×V):Bool:=match kv.2 with
 |.int i=>decide (0<i)
 |_=>false
def acU(kvs:List (Key×V))(k:Key)(v:V):(putK kvs k v).length<=kvs.length+1:=by
 unfold putK;split
 ·rw[z0];omega
 ·rw[zzt];exact zzc _
noncomputable def Ln(kvs:List (Key×V))(z:Str)(n:Int):List (Key×V):=(putK kvs (Sum.inr z) (.int n)).filter posK
def WR{kvs:List (Key×V)}(h:Ju kvs)(z:Str)(n:Int):Ju (Ln kvs z n):=by
 refine⟨λkv q=>?_,List.Nodup.sublist (List.filter_sublist.map _) (Mu h.u)⟩;obtain⟨h1,h2⟩:=zzY.mp q;rcases Oj h1 with rfl|h1
 ·have h2:decide (0<n)=true:=h2
  exact⟨z,n,rfl,by have:=zzW h2;omega⟩
 ·exact h.k kv h1
theorem Sh:∀(ps:List (Key×V))(acc:List (Key×V)),((acc++ps).map (·.1)).Nodup->ps.foldl (λa p=>putK a p.1 p.2) acc=acc++ps
 |[],acc,_=>by rw[zz4];rfl
 |p::ps,acc,hu=>by
  have q:jo acc p.1=none:=by
   cases h:jo acc p.1 with
   |none=>rfl
   |some v=>
    rw[zza,z6]at hu;exact absurd rfl ((zzS.mp hu).2.2 p.1 (z3.mpr ⟨(p.1,v),Ia h,rfl⟩) p.1 zze)
  rw[yyi]
  have e:putK acc p.1 p.2=acc++[p]:=by
   unfold putK;rw[z4 (by rw[jn,q];simp)]
  rw[e,Sh ps (acc++[p]) (by rw[yy6];exact hu),yy6];rfl
noncomputable def vK:V->Key
 |.str z=>Sum.inr z
 |.int i=>Sum.inl i
 |_=>Sum.inl 0
def afW(k:Key):vK (kV k)=k:=by cases k<;>rfl
noncomputable def kfD(H:Hp):V->Key
 |.ref b=>match H b with
  |some (.tup [x,_])=>vK x
  |_=>Sum.inl 0
 |_=>Sum.inl 0
noncomputable def vfD(H:Hp):V->V
 |.ref b=>match H b with
  |some (.tup [_,y])=>y
  |_=> .non
 |_=> .non
def Vx{H:Hp}{b:Addr}{q:Key×V}(h:H b=some (.tup [kV q.1,q.2])):kfD H (.ref b)=q.1:=by
 unfold kfD;dsimp only;rw[h];exact afW _
def Xl{H:Hp}{b:Addr}{q:Key×V}(h:H b=some (.tup [kV q.1,q.2])):vfD H (.ref b)=q.2:=by
 unfold vfD;dsimp only;rw[h]
def Xz{H:Hp}{ps:List (Key×V)}{acc:List V}(hl:acc.length=ps.length)(h:∀(i:Nat) v,acc[i]? =some v->∃q,ps[i]? =some q/\∃b,v=.ref b/\H b=some (.tup [kV q.1,q.2]))(hu:(ps.map (·.1)).Nodup):JP (kfD H) (vfD H) acc=ps:=by
 have e:acc.map (λy=>(kfD H y,vfD H y))=ps:=by
  refine Zt λi=>?_;rw[zzl];by_cases hi:i<acc.length
  ·obtain⟨q,h1,b,h2,z⟩:=h i _ (zzg hi)
   rw[zzg hi,h2,h1];show some (kfD H (.ref b),vfD H (.ref b))=some q;rw[Vx z,Xl z]
  ·rw[yyc (by omega),yyc (by omega)]
   rfl
 have:=Sh (acc.map λy=>(kfD H y,vfD H y)) [] (by rw[Zh,e];exact hu);rw[List.foldl_map,Zh]at this;unfold JP;rw[this,e]
noncomputable def Mm:Sp:=λvs H Q _=>∃(a:Addr)(kvs:List (Key×V))(z:Str)(n:Int),vs=[.ref a,.str z,.int n]/\Rd H a (.dK kvs)/\Ju kvs/\kvs.length<=100/\
 ∀p H',Same H H'->H p=none->H' p=some (.dK (Ln kvs z n))->Q (.ref p) H'
def Bb(T:Txt K mg A D):gJ P w K mg base CX0 1 A.vg D.vg ["held", "ware", "pieces"] (Mm):=by
 refine T.xr.F.okv Ay λ_ _ _ _ H vs Q E hr h=>?_
 ·obtain⟨a,kvs,z,n,rfl,ha,hH,hl,k⟩:=h
  refine ⟨_,(eU (fL (i:=3) Ay.nd rfl orl (iT Ot (by rfl) T.xX (by decide+kernel) (pav 0 eV)))
   (eU (lJ (jr hr) (pvD 3) (pvD 1) (pvD 2) rfl)
   (eY (fJ (iT (lQ (K:=K) rfl) (by rfl) T.xX (by decide+kernel) (eQ (gF (cap:=[none,none]) (N':=["name", "count"]) rfl (by walk_at "c") (QX (Oq (K:=K) yyd Zn PySem.F.type_dict_items Rn (pvD 3))) (λ_ _ _ _=>(jV (K:=K) (n:=2) rfl (fZ (fG (i:=0) (show(["name", "count"]:List Str).Nodup from by decide+kernel) rfl orl orr) (fZ (fG (i:=1) (show(["name", "count"]:List Str).Nodup from by decide+kernel) rfl orl orr) jU)))) (λ_ _ _ _=>(rK (fK (Jf) (pvD 1) fB (fX _)))) (λ_ _ _ _=>(jQ (pav 0 (pav 1 eV))))) eV)))))),?_⟩
  simp only[start_eq];walk_at "m";refine⟨_,ha,λq ab=>?_⟩;have n1:=eZ (o:=.dK kvs) ab;have h1:(upd H q (.dK kvs)) q=some (.dK kvs):=eX;generalize upd H q (.dK kvs)=H1 at n1 h1;walk_at "m";obtain⟨P,hP⟩:∃P,putK kvs (Sum.inr z) (.int n)=P:=⟨_,rfl⟩;have ag:P.length<=101:=by rw[<-hP];have:=acU kvs (Sum.inr z) (.int n);omega
  have af:∀kv∈P,∃(y:Str)(i:Int),kv=(Sum.inr y,.int i):=λkv aa=>by
   rw[<-hP]at aa;rcases Oj aa with rfl|h0
   ·exact⟨z,n,rfl⟩
   ·obtain⟨y,i,e,_⟩:=hH.k kv h0
    exact⟨y,i,e⟩
  refine⟨_,qD (k:=Sum.inr z) h1 (by rw[zzk];omega),?_⟩;rw[hP];have s2:Same H (upd H1 q (.dK P)):=n1.upd ab;have h2:(upd H1 q (.dK P)) q=some (.dK P):=eX;generalize upd H1 q (.dK P)=H2 at s2 h2;refine⟨.inr (.inr (.inl ⟨rfl,.inl ⟨_,h2⟩⟩)),_,h2,λv hv=>⟨q,eX,P,?_,λo=>?_⟩⟩
  ·exact(fC (fU h2 hv)).trans h2
  have s3:Same H (upd (upd H2 v (Ce v q)) q (.frz o (.dK P))):=(s2.trans (eZ hv)).upd ab;have h3:(upd (upd H2 v (Ce v q)) q (.frz o (.dK P))) q=some (.frz o (.dK P)):=eX;generalize upd (upd H2 v (Ce v q)) q (.frz o (.dK P))=H3 at s3 h3;refine iK.itemsF (λσ=>∃a b,σ=[a,b]) posK (λkv v H'=>∃b,v=.ref b/\H' b=some (.tup [kV kv.1,kv.2])) h3 ⟨_,_,rfl⟩ (by rw[zzk];omega) ?_ ?_
  ·rintro D i kv aa σ H5 p R1 R2 ⟨_,_,rfl⟩ s5 hD ⟨acc,hA⟩ hp k1 k2
   obtain⟨y,j,rfl⟩:=af kv (zzp aa);have h6:(upd H5 p (.tup [kV (Sum.inr y),.int j])) p=some (.tup [.str y,.int j]):=eX;have ac:=eZ (o:=.tup [kV (Sum.inr y),.int j]) hp _ _ hA;generalize upd H5 p (.tup [kV (Sum.inr y),.int j])=H6 at h6 ac k1 k2;walk_at "i";refine⟨_,gM h6,rfl,_,_,rfl,_,_,rfl,rfl,_,rfl,?_⟩;by_cases hj:0<j
   ·rw[z8 hj]
    exact⟨sz,λt ht=>k1 (zzx hj) _ _ _ ⟨_,_,rfl⟩ (eZ ht) λH' hb=>⟨t,rfl,hb _ _ (λe=>by rw[e,ac]at ht;cases ht) eX⟩⟩
   ·rw[z4 hj]
    exact k2 (zzH hj) _ _ ⟨_,_,rfl⟩ (same_refl _)
  ·intro D H4 acc hD s4 hA ad hF
   have hF':∀(i:Nat) v,acc[i]? =some v->∃kv,(P.filter posK)[i]? =some kv/\∃b,v=.ref b/\H4 b=some (.tup [kV kv.1,kv.2]):=hF
   have ae:((P.filter posK).map (·.1)).Nodup:=by
    have:=(WR hH z n).u;unfold Ln at this
    rwa [hP]at this
   have ah:(P.filter posK).length<=101:=zzK (yym _ _) ag;rw[ap_dictPairs];refine⟨acc,kfD H4,vfD H4,fj hA,by omega,λy hy=>?_,λp hp=>?_⟩
   ·obtain⟨i,hi,e⟩:=zzL hy
    obtain⟨kv,_,b,rfl,hb⟩:=hF' i y (by rw[zzg hi,e]);exact⟨b,rfl,by rw[Vx hb,Xl hb];exact gM hb⟩
   ·rw[Xz ad hF' ae]
    have S:=s3.trans s4;refine k p _ (S.trans (eZ hp)) (S.free hp) ?_;rw[eX];unfold Ln;rw[hP]
noncomputable def tU:Sp:=λvs H Q _=>∃(a:Addr)(kvs:List (Key×V))(z:Str)(n:Int),vs=[.ref a,.str z,.int n]/\Rd H a (.dK kvs)/\Ju kvs/\kvs.length<=100/\
 ∀p H',Same H H'->H p=none->H' p=some (.dK (Ln kvs z (iZ kvs z+n)))->Q (.ref p) H'
def Aj(T:Txt K mg A D):gJ P w K mg base CX0 2 A.vh D.vh ["held", "ware", "pieces"] (tU):=by
 refine T.xt.F.okv Ag λ_ _ _ _ H vs Q E hr h=>?_
 ·obtain⟨a,kvs,z,n,rfl,ha,q,hl,k⟩:=h
  refine⟨_,(eY (fJ (pcg (Bb T) hr T.xr (Fb T) (pav 0 (pav 1 (eQ (fQ iY (CQ (jr hr) (pvD 0) (pvD 1) fB ⟨rfl,rfl,rfl,rfl⟩) (pvD 2)) eV)))))),?_⟩;walk_at "a";exact⟨.inl ⟨_,ha⟩,_,.inl ⟨kvs,Sum.inr z,ha,rfl,rfl⟩,iZ kvs z,KN q z,a,kvs,z,_,rfl,ha,q,hl,k⟩
noncomputable def rW:Sp:=λvs H Q _=>∃(a:Addr)(kvs:List (Key×V))(z:Str)(n:Int),vs=[.ref a,.str z,.int n]/\Rd H a (.dK kvs)/\Ju kvs/\kvs.length<=100/\
 (iZ kvs z<n->Q .non H)/\(n<=iZ kvs z->∀p H',Same H H'->H p=none->H' p=some (.dK (Ln kvs z (iZ kvs z - n)))->Q (.ref p) H')
def sV(T:Txt K mg A D):gJ P w K mg base CX0 2 A.vj D.vj ["held", "ware", "pieces"] (rW):=by
 refine T.xv.F.okv lV λ_ _ _ _ H vs Q E hr h=>?_
 ·obtain⟨a,kvs,z,n,rfl,ha,q,hl,k1,k2⟩:=h
  refine ⟨_,(eU (fL (i:=3) lV.nd rfl orl (CQ (jr hr) (pvD 0) (pvD 1) fB ⟨rfl,rfl,rfl,rfl⟩))
   (eU (iC (fK (Lf) (pvD 3) (pvD 2) (fX _)) (eY (fJ jx)) gn)
   (eY (fJ (pcg (Bb T) hr T.xr (Fb T) (pav 0 (pav 1 (eQ (fQ nO (pvD 3) (pvD 2)) eV)))))))),?_⟩
  simp only[start_eq];walk_at "m";refine⟨.inl ⟨_,ha⟩,_,.inl ⟨kvs,Sum.inr z,ha,rfl,rfl⟩,?_⟩;rw[KN q z];walk_at "m";by_cases c:iZ kvs z<n
  ·rw[z8 c]
   exact k1 c
  ·rw[z4 c]
   exact⟨a,kvs,z,_,rfl,ha,q,hl,k2 (by omega)⟩
noncomputable def Ent.beh:Ent->List (Key×V)->Option (List (Key×V))
 |.buy _ _ w p _ _,kvs=>some (Ln kvs w (iZ kvs w+p))
 |.sell _ _ w p _ _ _,kvs=>if iZ kvs w<p then none else some (Ln kvs w (iZ kvs w - p))
noncomputable def Vk(A:Adr)(isK:Ent->Bool):Sp:=λvs H Q _=>∃(x a:Addr)(e:Ent)(kvs:List (Key×V)),isK e=true/\vs=[.ref x,.ref a]/\IsE A H x e/\e.good/\Rd H a (.dK kvs)/\Ju kvs/\kvs.length<=100/\
 (e.beh kvs=none->∀H',Same H H'->Q .non H')/\∀kv2,e.beh kvs=some kv2->∀p H',Same H H'->H p=none->H' p=some (.dK kv2)->Q (.ref p) H'
def rZ(T:Txt K mg A D):gJ P w K mg base CX0 3 A.vi D.vi ["self", "held"] (Vk A Sg):=by
 refine T.xu.okv sG λ_ _ _ _ H vs Q E hr h=>?_
 ·obtain⟨x,a,e,kvs,hk,rfl,⟨dx,nv,z,hn⟩,hg,ha,hH,hl,k1,k2⟩:=h
  refine⟨_,(eY (fJ (pcg (Aj T) hr T.xt (Ck T) (pav 1 (eQ (fv K 0) (eQ (fv K 0) eV)))))),?_⟩
  cases e with
  |buy d n w p r f=>
   walk_at "a";exact rd z T.yt T.yx (by rfl) (rd z T.yt T.yy (by rfl) ⟨a,kvs,w,p,rfl,ha,hH,hl,λq H' s h1 h2=>k2 _ rfl q H' s h1 h2⟩)
  |_=>cases hk
def rA(T:Txt K mg A D):gJ P w K mg base CX0 3 A.vk D.vk ["self", "held"] (Vk A Ip):=by
 refine T.xw.okv rF λ_ _ _ _ H vs Q E hr h=>?_
 ·obtain⟨x,a,e,kvs,hk,rfl,⟨dx,nv,z,hn⟩,hg,ha,hH,hl,k1,k2⟩:=h
  refine⟨_,(eY (fJ (pcg (sV T) hr T.xv (Ab T) (pav 1 (eQ (fv K 0) (eQ (fv K 0) eV)))))),?_⟩
  cases e with
  |sell d n w p r f o=>
   walk_at "a";refine rd z T.yC T.yG (by rfl) (rd z T.yC T.yH (by rfl) ⟨a,kvs,w,p,rfl,ha,hH,hl,λc=>k1 (z8 c) H (same_refl _),λc q H' s h1 h2=>k2 _ (z4 (by omega)) q H' s h1 h2⟩)
  |_=>cases hk
abbrev SP5:=List (Addr×fP×Int)
noncomputable def Fg(ps:SP5):List V:=ps.map λr=>V.ref r.1
def En(ps:SP5):(Fg ps).length=ps.length:=by unfold Fg;rw[z0]
def WY{rs:SP5}{i:Nat}{y:V}(h:(Fg rs)[i]? =some y):∃r,rs[i]? =some r/\y=.ref r.1:=by
 unfold Fg at h;rw[zzl]at h
 cases e:rs[i]? with
 |none=>rw[e]at h;cases h
 |some r=>rw[e]at h;exact⟨r,rfl,(zzq h).symm⟩
structure jl where
 n:Int
 d:Int
 w:Str
 pr:Int
 pl:Addr
 ps:SP5
 lo:Option Int
noncomputable def loV:Option Int->V
 |none=> .non
 |some i=> .int i
noncomputable def jl.fs(s:jl):List (Str×V):=[("number",.int s.n),("day",.int s.d),("ware",.str s.w),("proceeds",.int s.pr),("parts",.ref s.pl),("laid_on",loV s.lo)]
noncomputable def jl.co(s:jl):Int:=(s.ps.map λr=>r.2.1.c).sum
noncomputable def jl.cnt(s:jl):Int:=if s.lo=none then s.pr - s.co else 0
noncomputable def acM(H:Hp)(ps:SP5):Prop:=∀r∈ps,H r.1=some (.tup (r.2.1.vs++[.int r.2.2]))
structure jF(A:Adr)(H:Hp)(x:Addr)(s:jl):Prop where
 i:∃dx,H x=some (.ins A.vE dx s.fs)
 p:H s.pl=some (.lst (Fg s.ps))
 t:acM H s.ps
 l:s.ps.length<=64
def acM.same{H H':Hp}{ps:SP5}(h:acM H ps)(s:Same H H'):acM H' ps:=λr q=>s _ _ (h r q)
theorem jF.same{H H':Hp}{x:Addr}{d:jl}(h:jF A H x d)(s:Same H H'):jF A H' x d:=⟨let⟨dx,e⟩:=h.i;⟨dx,s _ _ e⟩,s _ _ h.p,h.t.same s,h.l⟩
def afA{ps:SP5}{acc:List V}(hl:acc.length=ps.length)(h:∀(i:Nat) v,acc[i]? =some v->∃r,ps[i]? =some r/\v=.int r.2.1.c):acc=(ps.map λr=>r.2.1.c).map V.int:=by
 refine yyU (by simp[hl]) λi h1 h2=>?_;obtain⟨l,q,z⟩:=h i acc[i] (by simp);rw[z];have h3:i<ps.length:=by omega
 have:ps[i]=l:=by
  rw[zzg h3]at q;exact zzq q
 simp[this]
noncomputable def BV:Sp:=λvs H Q _=>∃(p:Addr)(ps:SP5),vs=[.ref p]/\H p=some (.lst (Fg ps))/\acM H ps/\ps.length<=64/\∀H',Same H H'->Q (.int (ps.map λr=>r.2.1.c).sum) H'
def BR(T:Txt K mg A D):gJ P w K mg base CX0 1 A.um D.um ["parts"] BV:=by
 refine T.wq.F.okv Bv λ_ _ _ _ H vs Q E hr h=>?_
 ·obtain⟨p,ps,rfl,hp,hT,hl,k⟩:=h
  refine⟨_,(eY (fJ (fH (jE (K:=K) rfl) (by rfl) T.xS (by decide+kernel) (eQ (gF (cap:=[none,none,none,none,none]) (N':=["lot", "since", "pieces", "cost", "share"]) rfl (by walk_at "c") (gm (K:=K) (pv 0)) (λ_ _ _ _=>(jV (K:=K) (n:=5) rfl (fZ (fG (i:=0) (show(["lot", "since", "pieces", "cost", "share"]:List Str).Nodup from by decide+kernel) rfl orl orr) (fZ (fG (i:=1) (show(["lot", "since", "pieces", "cost", "share"]:List Str).Nodup from by decide+kernel) rfl orl orr) (fZ (fG (i:=2) (show(["lot", "since", "pieces", "cost", "share"]:List Str).Nodup from by decide+kernel) rfl orl orr) (fZ (fG (i:=3) (show(["lot", "since", "pieces", "cost", "share"]:List Str).Nodup from by decide+kernel) rfl orl orr) (fZ (fG (i:=4) (show(["lot", "since", "pieces", "cost", "share"]:List Str).Nodup from by decide+kernel) rfl orl orr) jU))))))) (λ_ _ _ _=>gQ) (λ_ _ _ _=>(pvD 3))) eV)))),?_⟩;walk_at "a";refine⟨⟨_,fj hp⟩,?_⟩;refine iK.listE (K:=K) (λσ=>∃a b c d e,σ=[a,b,c,d,e]) (λi v _=>∃r,ps[i]? =some r/\v=.int r.2.1.c) (fj hp) ⟨_,_,_,_,_,rfl⟩ (by rw[En,zzk];omega) ?_ ?_
  ·rintro Da i x hx σ H5 R ⟨_,_,_,_,_,rfl⟩ sm hD _ kk
   obtain⟨r,z,rfl⟩:=WY hx;have ht:=sm _ _ (hT r (zzp z));walk_at "i";exact⟨_,gM ht,rfl,_,_,rfl,_,_,rfl,_,_,rfl,_,_,rfl,_,_,rfl,rfl,kk _ _ H5 ⟨_,_,_,_,_,rfl⟩ (same_refl _) λH' _=>⟨r,z,rfl⟩⟩
  ·intro Da H' acc hD sm hA q hF
   rw[afA (by rw[q,En]) hF]at hA;walk_at "a";exact⟨_,fj hA,k H' sm⟩
noncomputable def BL(A:Adr):Sp:=λvs H Q _=>∃(x p:Addr)(n d pr:Int)(w:Str)(lo:Option Int)(ps:SP5)(B:Hp)(dx:Addr),vs=[.ref x,.int n,.int d,.str w,.int pr,.ref p,loV lo]/\New B H x A.vE dx []/\B p=some (.lst (Fg ps))/\acM B ps/\ps.length<=64/\
 ∀pl H',Same B H'->B pl=none->jF A H' x ⟨n,d,w,pr,pl,ps,lo⟩->Q .non H'
def oV(T:Txt K mg A D):gJ P w K mg base CX0 1 A.ut D.ut ["self", "number", "day", "ware", "proceeds", "parts", "laid_on"] (BL A):=by
 refine T.wv.okv Cr λ_ _ _ _ H vs Q E hr h=>?_
 ·obtain⟨x,p,n,d,pr,w,lo,ps,B,dx,rfl,q,hp,hT,hl,k⟩:=h
  refine ⟨_,(eU (gw (K:=K) (pv 0) (pvD 1) rfl)
   (eU (gw (K:=K) (pv 0) (pvD 2) rfl)
   (eU (gw (K:=K) (pv 0) (pvD 3) rfl)
   (eU (gw (K:=K) (pv 0) (pvD 4) rfl)
   (eU (gw (K:=K) (pv 0) (iT (ql (K:=K)) (by rfl) T.xL (by decide+kernel) (pav 5 eV)) rfl)
   (eY (gw (K:=K) (pv 0) (pvD 6) rfl))))))),?_⟩
  simp only[start_eq];refine gA λu z=>?_;rw[ap_seq];walk_at "i";refine sw q.h T.yM T.yN (by decide) ?_;rw[qj _ _ (by decide+kernel)];have q:=q.put (gs:=[]++[(Str.ofString "number",V.int n)]) rfl;generalize upd H x _=G1 at q⊢;subst z
  try dsimp only
  refine gA λu z=>?_;rw[ap_seq];walk_at "i";refine sw q.h T.yM T.yO (by simp) ?_;rw[iV (f:=Str.ofString "day") ["number"]];have q:=q.put (gs:=([]++[(Str.ofString "number",V.int n)])++[(Str.ofString "day",V.int d)]) rfl;generalize upd G1 x _=G2 at q⊢;subst z
  try dsimp only
  refine gA λu z=>?_;rw[ap_seq];walk_at "i";refine sw q.h T.yM T.yP (by simp) ?_;rw[iV (f:=Str.ofString "ware") ["number", "day"]];have q:=q.put (gs:=(([]++[(Str.ofString "number",V.int n)])++[(Str.ofString "day",V.int d)])++[(Str.ofString "ware",V.str w)]) rfl;generalize upd G2 x _=G3 at q⊢;subst z
  try dsimp only
  refine gA λu z=>?_;rw[ap_seq];walk_at "i";refine sw q.h T.yM T.yQ (by simp) ?_;rw[iV (f:=Str.ofString "proceeds") ["number", "day", "ware"]];have q:=q.put (gs:=((([]++[(Str.ofString "number",V.int n)])++[(Str.ofString "day",V.int d)])++[(Str.ofString "ware",V.str w)])++[(Str.ofString "proceeds",V.int pr)]) rfl;generalize upd G3 x _=G4 at q⊢;subst z
  try dsimp only
  refine gA λu z=>?_;rw[ap_seq];walk_at "i";refine⟨_,.inl (fj (q.s _ _ hp)),λpl aa=>?_⟩;have ab:pl≠x:=λe=>by rw[e,q.h]at aa;cases aa
  have ac:=q.s.free aa;have q:=q.same (eZ (o:=.lst (Fg ps)) aa);have hq:(upd G4 pl (.lst (Fg ps))) pl=some (.lst (Fg ps)):=eX;generalize upd G4 pl _=H5 at q hq⊢;refine sw q.h T.yM T.yR (by simp) ?_;rw[iV (f:=Str.ofString "parts") ["number", "day", "ware", "proceeds"]];have q:=q.put (gs:=(((([]++[(Str.ofString "number",V.int n)])++[(Str.ofString "day",V.int d)])++[(Str.ofString "ware",V.str w)])++[(Str.ofString "proceeds",V.int pr)])++[(Str.ofString "parts",V.ref pl)]) rfl;have hq:=(fC (o:=HO.ins A.vE dx ((((([]++[(Str.ofString "number",V.int n)])++[(Str.ofString "day",V.int d)])++[(Str.ofString "ware",V.str w)])++[(Str.ofString "proceeds",V.int pr)])++[(Str.ofString "parts",V.ref pl)])) ab).trans hq;generalize upd H5 x _=G5 at q hq⊢;subst z
  try dsimp only
  walk_at "i";refine sw q.h T.yM T.yS (by simp) ?_;rw[iV (f:=Str.ofString "laid_on") ["number", "day", "ware", "proceeds", "parts"]];have S:=q.s.upd (o:=HO.ins A.vE dx (((((([]++[(Str.ofString "number",V.int n)])++[(Str.ofString "day",V.int d)])++[(Str.ofString "ware",V.str w)])++[(Str.ofString "proceeds",V.int pr)])++[(Str.ofString "parts",V.ref pl)])++[(Str.ofString "laid_on",loV lo)])) q.n;exact k pl _ S ac ⟨⟨dx,eX⟩,(fC ab).trans hq,hT.same S,hl⟩
noncomputable def abD(A:Adr)(f:jl->Int):Sp:=λvs H Q _=>∃(x:Addr)(s:jl),vs=[.ref x]/\jF A H x s/\∀H',Same H H'->Q (.int (f s)) H'
def KC(T:Txt K mg A D):gJ P w K mg base CX0 2 A.uo D.uo ["self"] (abD A λs=>s.pr - s.co):=by
 refine T.wt.okv Mf λ_ _ _ _ H vs Q E z h=>?_
 ·obtain⟨x,s,rfl,q,k⟩:=h
  refine⟨_,(eY (fJ (fQ nO (fv K 0) (pcg (BR T) z T.wq (Dk T) (eQ (fv K 0) eV))))),?_⟩;obtain⟨dx,hi⟩:=q.i;walk_at "a";exact rd hi T.yM T.yQ (by rfl) (rd hi T.yM T.yR (by rfl) ⟨s.pl,s.ps,rfl,q.p,q.t,q.l,λH' s'=>⟨_,rfl,_,rfl,k H' s'⟩⟩)
def FP(T:Txt K mg A D):gJ P w K mg base CX0 3 A.uq D.uq ["self"] (abD A jl.cnt):=by
 refine T.wu.okv DX λ_ _ _ _ H vs Q E z h=>?_
 ·obtain⟨x,s,rfl,q,k⟩:=h
  refine⟨_,(eY (fJ (sS (fK (sI) (fv K 0) jx (fX _)) (jj (pv 0) (mc T.yM T.zo (KC T) z (Qc T) .nil) iI) fB))),?_⟩;obtain⟨dx,hi⟩:=q.i;walk_at "a";refine rd hi T.yM T.yS (v:=loV s.lo) (by rfl) (?_);unfold jl.cnt at k
  cases e:s.lo with
  |none=>
   rw[z8 (show loV none=V.non from rfl)];rw[e,z8 rfl]at k;exact md hi zze (by rfl) ⟨x,s,rfl,q,k⟩
  |some i=>
   rw[z4 (show¬loV (some i)=V.non from λc=>by cases c)];rw[e,z4 (λc=>by cases c)]at k;exact k H (same_refl _)
noncomputable def CW(A:Adr):Sp:=λvs H Q _=>∃(x:Addr)(s:jl),vs=[.ref x]/\jF A H x s/\∀y pl H',Same H H'->H y=none->H pl=none->jF A H' y {s with pl:=pl}->Q (.ref y) H'
def Ew(T:Txt K mg A D):gJ P w K mg base CX0 3 A.uu D.uu ["sale"] (CW A):=by
 refine T.ww.F.okv Fp λ_ _ _ _ H vs Q E hr h=>?_
 ·obtain⟨x,s,rfl,q,k⟩:=h
  refine⟨_,(eY (fJ (lC T.zh (oV (K:=K) T) (hr.mono (by decide)) (by rfl) T.ya (pU T) .nil iI (eQ (fv K 0) (eQ (fv K 0) (eQ (fv K 0) (eQ (fv K 0) (eQ (fv K 0) (eQ (fv K 0) eV))))))))),?_⟩;obtain⟨dx,hi⟩:=q.i;walk_at "a";refine rd hi T.yM T.yN (by rfl) (rd hi T.yM T.yO (by rfl) (rd hi T.yM T.yP (by rfl) (rd hi T.yM T.yQ (by rfl) (rd hi T.yM T.yR (by rfl) (rd hi T.yM T.yS (by rfl) (λy dy hy aa _=>?_))))));exact⟨y,s.pl,s.n,s.d,s.pr,s.w,s.lo,s.ps,H,dy,rfl,pJ hy aa,q.p,q.t,q.l,λpl H' s' z hS=>⟨rfl,k y pl H' s' hy z hS⟩⟩
theorem RB{H:Hp}:∀{acc:List V}{ls:RL}{cs:List Int},acc.length=ls.length->cs.length=ls.length->(∀(i:Nat) v,acc[i]? =some v->∃b l c,ls[i]? =some l/\cs[i]? =some c/\v=.ref b/\H b=some (.tup (l.2.vs++[.int c])))->∃ps:SP5,acc=Fg ps/\ps.map (λr=>r.2.1)=ls.map (·.2)/\ps.map (λr=>r.2.2)=cs/\acM H ps
 |[],[],[],_,_,_=>⟨[],rfl,rfl,rfl,λr h=>(zzd h).elim⟩
 |[],_::_,_,h,_,_=>by simp at h
 |_::_,[],_,h,_,_=>by simp at h
 |_,_::_,[],_,h,_=>by simp at h
 |_,[],_::_,_,h,_=>by simp at h
 |v::acc,l::ls,c::cs,hl,hc,h=>by
  obtain⟨b,l',c',e,e',rfl,hb⟩:=h 0 v rfl;cases e;cases e';obtain⟨ps,e1,e2,e4,e3⟩:=RB (acc:=acc) (ls:=ls) (cs:=cs) (by simpa using hl) (by simpa using hc) λi v z=>h (i+1) v z;refine⟨(b,l.2,c)::ps,by rw[e1];rfl,by rw[z6,e2];rfl,by rw[z6,e4],λr q=>?_⟩;rcases zzb.mp q with rfl|q
  ·exact hb
  ·exact e3 r q
noncomputable def Ti(A:Adr):Sp:=λvs H Q _=>∃(x q:Addr)(d n p r f:Int)(w:Str)(o:Option Rs)(ls:RL),vs=[.ref x,.ref q]/\IsE A H x (.sell d n w p r f o)/\H q=some (.lst (gq ls))/\jd A H ls/\ls≠[]/\ls.length<=63/\(∀l∈ls,1<=l.2.p)/\pcs ls<2^63/\
 ∀y s H',Same H H'->H y=none->H s.pl=none->jF A H' y s->s.n=n->s.d=d->s.w=w->s.pr=p*r - f->s.lo=none->s.ps.map (λr=>r.2.1)=ls.map (·.2)->(s.ps.map λr=>r.2.2).sum=s.pr->Q (.ref y) H'
def TV(T:Txt K mg A D):gJ P w K mg base CX0 3 A.uU D.uU ["entry", "lots"] (Ti A):=by
 refine T.wX.F.okv Ax λ_ _ _ _ H vs Q E hr h=>?_
 ·obtain⟨x,q,d,n,p,r,f,w,o,ls,rfl,⟨dx,nv,hx,_⟩,hq,hL,an,hl,hp,hb,k⟩:=h
  refine ⟨_,(eU (fL (i:=2) Ax.nd rfl orl (pcg (Rc T) hr T.wW (Vn T) (eQ (fv K 0) (eQ (gF (cap:=[none]) (N':=["lot"]) rfl (by walk_at "c") (gm (K:=K) (pv 1)) (λ_ _ _ _=>(fG (i:=0) nd1 rfl orl orr)) (λ_ _ _ _=>gQ) (λ_ _ _ _=>(fv K 0))) eV))))
   (eU (nW (i:=3) Ax.nd rfl rfl (cap:=[none,none]) (N':=["lot", "share"]) rfl (by walk_at "c") (Xg (K:=K) (by rfl) T.xV (pav 1 (pav 2 eV))) (λ_ _ _ _=>(jV (K:=K) (n:=2) rfl (fZ (fG (i:=0) (show(["lot", "share"]:List Str).Nodup from by decide+kernel) rfl orl orr) (fZ (fG (i:=1) (show(["lot", "share"]:List Str).Nodup from by decide+kernel) rfl orl orr) jU)))) (λ_ _ _ _=>gQ) (λ_ _ _ _=>(jQ (eQ (fv K 0) (eQ (fv K 0) (eQ (fv K 0) (eQ (fv K 0) (pav 1 eV))))))))
   (eY (fJ (lC T.zh (oV (K:=K) T) (hr.mono (by decide)) (by rfl) T.ya (pU T) .nil iI (eQ (fv K 0) (eQ (fv K 0) (eQ (fv K 0) (eQ (fv K 0) (pav 3 (eQ jx eV))))))))))),?_⟩
  simp only[start_eq];walk_at "m";refine rd hx T.yC T.yL (by rfl) ⟨⟨_,fj hq⟩,?_⟩;refine iK.listE (K:=K) (λσ=>∃a,σ=[a]) (λi v _=>∃l,ls[i]? =some l/\v=.int l.2.p) (fj hq) ⟨_,rfl⟩ (by rw[fM,zzk];omega) ?_ ?_
  ·rintro Da i y hy σ H5 R ⟨_,rfl⟩ sm hD _ kk
   obtain⟨l,ab,rfl⟩:=iG hy;obtain⟨dl,aa⟩:=(hL l (get_mem ab)).same sm;walk_at "i";exact rd aa T.y4 T.y9 (by rfl) (kk _ _ H5 ⟨_,rfl⟩ (same_refl _) λH' _=>⟨l,ab,rfl⟩)
  ·intro D1 H1 acc ba s1 hA ak hF
   rw[CP (f:=λl=>l.2.p) (by rw[ak,fM]) hF]at hA;have ar:(ls.map λl=>l.2.p).length=ls.length:=z0 _;have aw:=rB hp;have h0:0<ls.length:=yyC.mpr an;refine⟨_,D1,ls.map (λl:Addr×fP=>l.2.p),rfl,fj hA,λy hy=>?_,(show 0<pcs ls by omega),by omega,hb,λp2 H2 s2 ax h2=>?_⟩
   ·obtain⟨e,he,rfl⟩:=z3.mp hy
    have:=hp e he;omega
   obtain⟨cs,ae⟩:∃cs,shares (p*r - f) (ls.map λl=>l.2.p).sum 0 (ls.map λl=>l.2.p)=cs:=⟨_,rfl⟩;have af:cs.length=ls.length:=by rw[<-ae,qy,ar]
   have as:cs.sum=p*r - f:=by
    rw[<-ae,qu,yy0,Yb0,Int.zero_ediv,Zv];exact yyr _ (show pcs ls≠0 by omega)
   have h2:H2 p2=some (.lst (cs.map V.int)):=ae▸h2;have S2:=s1.trans s2;walk_at "m";refine⟨⟨_,fj (S2 _ _ hq)⟩,⟨_,fj h2⟩,?_⟩;refine iK.zipE (K:=K) (λσ=>∃a b,σ=[a,b]) (λi v H'=>∃b l c,ls[i]? =some l/\cs[i]? =some c/\v=.ref b/\H' b=some (.tup (l.2.vs++[.int c]))) (fj (S2 _ _ hq)) (fj h2) (by rw[fM,z0,af]) ⟨_,_,rfl⟩ (by rw[fM,zzk];omega) ?_ ?_
   ·rintro Db i y z hy hz σ H5 pp R ⟨_,_,rfl⟩ au ay ⟨afA,ap⟩ aj kk
    obtain⟨l,ab,rfl⟩:=iG hy;obtain⟨c,rfl,hc⟩:=NZ hz;obtain⟨dl,aa⟩:=(hL l (get_mem ab)).same (S2.trans au);have aa:=eZ (o:=.tup [V.ref l.1,V.int c]) aj _ _ aa;have al:(upd H5 pp (.tup [V.ref l.1,V.int c])) pp=some (.tup [V.ref l.1,V.int c]):=eX;have ai:=eZ (o:=.tup [V.ref l.1,V.int c]) aj _ _ ap;generalize upd H5 pp (.tup [V.ref l.1,V.int c])=H6 at aa al ai kk;walk_at "i";refine⟨_,gM al,rfl,_,_,rfl,_,_,rfl,rfl,?_⟩;refine rd aa T.y4 T.y6 (by rfl) (rd aa T.y4 T.y8 (by rfl) (rd aa T.y4 T.y9 (by rfl) (rd aa T.y4 T.za (by rfl) ⟨sz,λt ht=>?_⟩)));exact kk (.ref t) _ _ ⟨_,_,rfl⟩ (eZ ht) λH' hb=>⟨t,l,c,ab,hc,rfl,hb _ _ (λe=>by rw[e,ai]at ht;cases ht) eX⟩
   ·intro D3 H3 av bb s3 ag ac am
    rw[fM]at ac;obtain⟨ps,e1,e2,e4,e3⟩:=RB ac af am;rw[e1]at ag;have ad:=s3 _ _ (S2 _ _ hx)
    have az:ps.length=ls.length:=by
     have:=congrArg List.length e1;rw[En]at this;omega
    refine rd ad T.yC T.yF (by rfl) (rd ad T.yC T.yE (by rfl) (rd ad T.yC T.yG (by rfl) (rd ad T.yC T.yL (by rfl) (λy dy hy ao _=>?_))));have S3:=S2.trans s3;exact⟨y,D3,n,d,p*r - f,w,none,ps,H3,dy,rfl,pJ hy ao,ag,e3,by omega,λpl H4 s4 ah aq=>⟨rfl,k y _ H4 (S3.trans s4) (S3.free hy) (S3.free ah) aq rfl rfl rfl rfl rfl e2 (by show(ps.map _).sum=_;rw[e4];exact as)⟩⟩
abbrev RW:=List (Str×Addr×RL)
noncomputable def kvR(rs:RW):List (Key×V):=rs.map λt=>(Sum.inr t.1,.ref t.2.1)
noncomputable def rowOf:RW->Str->RL
 |[],_=>[]
 |t::rs,z=>if t.1=z then t.2.2 else rowOf rs z
noncomputable def Bg(rs:RW)(z:Str)(q:Addr)(ls:RL):RW:=if rs.any (λt=>decide (t.1=z))=true then rs.map (λt=>if t.1=z then(t.1,q,ls)else t)else rs++[(z,q,ls)]
theorem aev:∀(rs:RW)(z:Str),(∃t∈rs,t.1=z/\jo (kvR rs) (Sum.inr z)=some (.ref t.2.1)/\rowOf rs z=t.2.2)\/(jo (kvR rs) (Sum.inr z)=none/\rowOf rs z=[]/\z∉rs.map (·.1))
 |[],z=> .inr ⟨rfl,rfl,by simp⟩
 |t::rs,z=>by
  by_cases e:t.1=z
  ·refine .inl ⟨t,zze,e,?_,?_⟩
   ·show jo ((Sum.inr t.1,V.ref t.2.1)::kvR rs) _=_
    rw[gC (by rw[e])]
   ·unfold rowOf;rw[z8 e]
  ·have hv:jo (kvR (t::rs)) (Sum.inr z)=jo (kvR rs) (Sum.inr z):=by
    show jo ((Sum.inr t.1,V.ref t.2.1)::kvR rs) _=_;rw[gD (λh=>e (yyL h))]
   have hr:rowOf (t::rs) z=rowOf rs z:=by
    show(if t.1=z then t.2.2 else rowOf rs z)=_;rw[z4 e]
   rw[hv,hr];rcases aev rs z with⟨u,h1,h2,q,h4⟩|⟨h1,h2,q⟩
   ·exact .inl ⟨u,zzh _ h1,h2,q,h4⟩
   ·refine .inr ⟨h1,h2,λh=>?_⟩
    rw[z6]at h;rcases zzb.mp h with h|h
    ·exact e h.symm
    ·exact q h
def Yb(rs:RW)(z:Str)(q:Addr)(ls:RL):putK (kvR rs) (Sum.inr z) (.ref q)=kvR (Bg rs z q ls):=by
 unfold putK Bg kvR
 have ea:(List.any (rs.map λt=>((Sum.inr t.1:Key),V.ref t.2.1)) λkv=>decide (kv.1=Sum.inr z))=rs.any λt=>decide (t.1=z):=by
  rw[List.any_map];congr 1;funext t;show decide ((Sum.inr t.1:Key)=Sum.inr z)=decide (t.1=z);by_cases e:t.1=z
  ·rw[e];simp
  ·rw[zzH e,zzH];exact λh=>e (yyL h)
 rw[ea];by_cases h:rs.any (λt=>decide (t.1=z))=true
 ·rw[z8 h,z8 h,zzj,zzj]
  refine zzy λt _=>?_;show(if(Sum.inr t.1:Key)=Sum.inr z then((Sum.inr t.1:Key),V.ref q)else(Sum.inr t.1,V.ref t.2.1))=_;by_cases e:t.1=z
  ·rw[z8 (by rw[e])]
   show _=((Sum.inr (if t.1=z then(t.1,q,ls)else t).1:Key),V.ref (if t.1=z then(t.1,q,ls)else t).2.1);rw[z8 e]
  ·rw[z4 (λh=>e (yyL h))]
   show _=((Sum.inr (if t.1=z then(t.1,q,ls)else t).1:Key),V.ref (if t.1=z then(t.1,q,ls)else t).2.1);rw[z4 e]
 ·rw[z4 h,z4 h,zza]
  rfl
def qm{rs:RW}{z:Str}{q:Addr}{ls:RL}{t:Str×Addr×RL}(h:t∈Bg rs z q ls):t=(z,q,ls)\/t∈rs:=by
 unfold Bg at h;split at h
 ·obtain⟨u,hu,e⟩:=z3.mp h
  by_cases c:u.1=z
  ·rw[z8 c,c]at e;exact .inl e.symm
  ·rw[z4 c]at e;exact .inr (e▸hu)
 ·rcases zzs.mp h with h|h
  ·exact .inr h
  ·exact .inl (z9.mp h)
def Ao{rs:RW}{z:Str}{q:Addr}{ls:RL}:(Bg rs z q ls).map (·.1)=if z∈rs.map (·.1)then rs.map (·.1)else rs.map (·.1)++[z]:=by
 unfold Bg;by_cases h:rs.any (λt=>decide (t.1=z))=true
 ·have hm:z∈rs.map (·.1):=by
   obtain⟨t,ht,e⟩:=zzZ.mp h;exact z3.mpr ⟨t,ht,zzW e⟩
  rw[z8 h,z8 hm,zzj];refine zzy λt _=>?_;show(if t.1=z then(t.1,q,ls)else t).1=t.1;split<;>rfl
 ·have hm:z∉rs.map (·.1):=λhm=>by
   obtain⟨t,ht,e⟩:=z3.mp hm;exact h (zzZ.mpr ⟨t,ht,zzx e⟩)
  rw[z4 h,z4 hm,zza];rfl
def ada{rs:RW}{z:Str}{q:Addr}{ls:RL}(h:(rs.map (·.1)).Nodup):((Bg rs z q ls).map (·.1)).Nodup:=by
 rw[Ao];by_cases c:z∈rs.map (·.1)
 ·rw[z8 c];exact h
 ·rw[z4 c]
  refine zzS.mpr ⟨h,by simp,λy hy x hx=>?_⟩;obtain rfl:=z9.mp hx;exact λe=>c (e▸hy)
theorem Lq:∀{rs:RW}{z:Str}{q:Addr}{ls:RL}{y:Str},rowOf (rs.map λt=>if t.1=z then(t.1,q,ls)else t) y=if y=z/\z∈rs.map (·.1)then ls else rowOf rs y
 |[],z,q,ls,y=>by rw[z4 (by simp)];rfl
 |t::rs,z,q,ls,y=>by
  rw[z6];have ih:=Lq (rs:=rs) (z:=z) (q:=q) (ls:=ls) (y:=y);unfold rowOf;by_cases e:t.1=z
  ·rw[z8 e]
   by_cases e2:y=z
   ·rw[z8 (show t.1=y by rw[e,e2]),z8 ⟨e2,by rw[z6,e];exact zze⟩]
   ·have hy:¬t.1=y:=λh=>e2 (h.symm.trans e)
    rw[z4 hy,z4 (λh=>e2 h.1),ih,z4 (λh=>e2 h.1),z4 hy]
  ·rw[z4 e]
   by_cases e2:t.1=y
   ·rw[z8 e2,z8 e2,z4 (λh=>e (e2.trans h.1))]
   ·rw[z4 e2,z4 e2,ih]
    by_cases c:y=z/\z∈rs.map (·.1)
    ·rw[z8 c,z8 ⟨c.1,by rw[z6];exact zzh _ c.2⟩]
    ·rw [z4 c,z4 λh=>c ⟨h.1,by
      have h2:=h.2;rw[z6]at h2;rcases zzb.mp h2 with h2|h2
      ·exact(e h2.symm).elim
      ·exact h2⟩]
theorem Lz:∀{rs:RW}{z:Str}{q:Addr}{ls:RL}{y:Str},z∉rs.map (·.1)->rowOf (rs++[(z,q,ls)]) y=if y=z then ls else rowOf rs y
 |[],z,q,ls,y,_=>by
  show(if z=y then ls else[])=_;by_cases e:y=z
  ·rw[z8 e,z8 e.symm]
  ·rw[z4 e,z4 (λh=>e h.symm)];rfl
 |t::rs,z,q,ls,y,hn=>by
  rw[z6]at hn;have ih:=Lz (rs:=rs) (z:=z) (q:=q) (ls:=ls) (y:=y) λh=>hn (zzh _ h);show(if t.1=y then t.2.2 else rowOf (rs++[(z,q,ls)]) y)=_;rw[ih];by_cases e:t.1=y
  ·rw[z8 e,z4 (λh=>hn (by rw[<-h,<-e];exact zze))]
   show _=(if t.1=y then t.2.2 else rowOf rs y);rw[z8 e]
  ·rw[z4 e]
   show _=(if y=z then ls else if t.1=y then t.2.2 else rowOf rs y);rw[z4 e]
def VR{rs:RW}{z:Str}{q:Addr}{ls:RL}{y:Str}:rowOf (Bg rs z q ls) y=if y=z then ls else rowOf rs y:=by
 unfold Bg;by_cases h:rs.any (λt=>decide (t.1=z))=true
 ·have hm:z∈rs.map (·.1):=by
   obtain⟨t,ht,e⟩:=zzZ.mp h;exact z3.mpr ⟨t,ht,zzW e⟩
  rw[z8 h,Lq];by_cases e:y=z
  ·rw[z8 e,z8 ⟨e,hm⟩]
  ·rw[z4 e,z4 λh=>e h.1]
 ·have hm:z∉rs.map (·.1):=λhm=>by
   obtain⟨t,ht,e⟩:=z3.mp hm;exact h (zzZ.mpr ⟨t,ht,zzx e⟩)
  rw[z4 h,Lz hm]
noncomputable def Qf(rs:RW)(z:Str):RW:=rs.filter λt=>decide (t.1≠z)
def aad(rs:RW)(z:Str):Eo (kvR rs) (Sum.inr z)=kvR (Qf rs z):=by
 unfold Eo kvR Qf;rw[Zi];congr 1;refine ZZ λt _=>?_;show decide ((Sum.inr t.1:Key)≠Sum.inr z)=decide (t.1≠z);by_cases e:t.1=z
 ·rw[e];simp
 ·rw[zzx e,zzx];exact λh=>e (yyL h)
theorem Hi:∀{rs:RW}{z y:Str},rowOf (Qf rs z) y=if y=z then[]else rowOf rs y
 |[],z,y=>by show[]=_;split<;>rfl
 |t::rs,z,y=>by
  have ih:=Hi (rs:=rs) (z:=z) (y:=y);unfold Qf at ih⊢;rw[Ya5];by_cases e:t.1=z
  ·rw[z4 (by simp[e]),ih]
   by_cases q:y=z
   ·rw[z8 q,z8 q]
   ·rw[z4 q,z4 q]
    show _=if t.1=y then _ else _;rw[z4 (λc=>q (c.symm.trans e))]
  ·rw[z8 (zzx e)]
   show(if t.1=y then _ else _)=(if y=z then[]else if t.1=y then _ else _);rw[ih];by_cases q:t.1=y
   ·rw[z8 q,z8 q,z4 (λc=>e (q.trans c))]
   ·rw[z4 q,z4 q]
noncomputable def keepR(rs:RW)(z:Str)(q:Addr)(ls:RL):RW:=if ls.length=0 then Qf rs z else Bg rs z q ls
def gW{rs:RW}{z:Str}{q:Addr}{ls:RL}{y:Str}:rowOf (keepR rs z q ls) y=if y=z then ls else rowOf rs y:=by
 unfold keepR;split
 ·next e=>rw[Hi,yyV.mp e]
 ·exact VR
def EY{rs:RW}{z:Str}{q:Addr}{ls:RL}{t:Str×Addr×RL}(h:t∈keepR rs z q ls):(t=(z,q,ls)/\ls≠[])\/t∈rs:=by
 unfold keepR at h;split at h
 ·exact .inr (zzY.mp h).1
 ·next e=>exact(qm h).imp_left λc=>⟨c,λz=>e (by rw[z];rfl)⟩
def Tq{rs:RW}{z:Str}(h:z∉rs.map (·.1)):Qf rs z=rs:=yys.mpr λt q=>zzx λc=>h (z3.mpr ⟨t,q,c⟩)
structure UG(ns:List Int)(W:List Str)(rs:RW):Prop where
 u:(rs.map (·.1)).Nodup
 w:∀t∈rs,t.1∈W
 n:∀t∈rs,t.2.2≠[]/\Shp ns t.2.2
def UG.len{ns:List Int}{W:List Str}{rs:RW}(h:UG ns W rs):rs.length<=W.length:=by
 have:=qi h.u λn hn=>by
  obtain⟨t,q,rfl⟩:=z3.mp hn;exact h.w t q
 rwa [z0]at this
def UG.row{ns:List Int}{W:List Str}{rs:RW}(h:UG ns W rs)(z:Str):Shp ns (rowOf rs z):=by
 rcases aev rs z with⟨t,h1,_,_,q⟩|⟨_,h2,_⟩
 ·rw[q];exact(h.n t h1).2
 ·rw[h2];exact .nil
def UG.keep{ns:List Int}{W:List Str}{rs:RW}(h:UG ns W rs){z:Str}(hz:z∈W){q:Addr}{ls:RL}(hs:Shp ns ls):UG ns W (keepR rs z q ls):=by
 refine⟨?_,λt ht=>?_,λt ht=>?_⟩
 ·unfold keepR
  split
  ·exact(List.filter_sublist.map _).nodup h.u
  ·exact ada h.u
 ·rcases EY ht with⟨rfl,_⟩|ht
  ·exact hz
  ·exact h.w t ht
 ·rcases EY ht with⟨rfl,e⟩|ht
  ·exact⟨e,hs⟩
  ·exact h.n t ht
noncomputable def lg(H:Hp)(M:List Addr):Hp:=λa=>if a∈M then none else H a
def iR{H:Hp}{M:List Addr}:Same (lg H M) H:=λa o h=>by
 unfold lg at h;split at h
 ·cases h
 ·exact h
def jf{H:Hp}{M:List Addr}{a:Addr}{o:HO}(h:H a=some o)(n:a∉M):lg H M a=some o:=by unfold lg;rw[z4 n];exact h
structure Stp(M M':List Addr)(H H':Hp):Prop where
 k:∀a o,a∉M.take 3->H a=some o->H' a=some o
 g:∀m∈M'.take 3,m∈M.take 3\/H m=none
 f:∀m∈M',m∈M\/H m=none
def Stp.same{M M':List Addr}{H H':Hp}(s:Stp M M' H H'):Same (lg H M) (lg H' M'):=λa o h=>by
 unfold lg at h;split at h
 ·cases h
 ·next n=>exact jf (s.k a o (λc=>n (yyz c)) h) λc=>(s.f a c).elim n λe=>by rw[e]at h;cases h
def lY{M:List Addr}{H H':Hp}(s:Same H H'):Stp M M H H':=⟨λa o _ h=>s a o h,λm h=> .inl h,λm h=> .inl h⟩
def qb{M:List Addr}{H:Hp}{m:Addr}{o:HO}(h:m∈M.take 3):Stp M M H (upd H m o):=⟨λa o n e=>(fC λc:a=m=>n (c▸h)).trans e,λm h=> .inl h,λm h=> .inl h⟩
def Stp.trans{M M' M'':List Addr}{H H' H'':Hp}(s:Stp M M' H H')(t:Stp M' M'' H' H''):Stp M M'' H H'':=by
 have ne:∀{a:Addr}{o:HO},a∉M.take 3->H a=some o->a∉M'.take 3:=λn h c=>(s.g _ c).elim n λe=>by rw[e]at h;cases h
 have q:∀{m:Addr},m∉M.take 3->H' m=none->H m=none:=fun{m} c h=>by
  cases e:H m with
  |none=>rfl
  |some o=>rw[s.k m o c e]at h;cases h
 refine⟨λa o n h=>t.k a o (ne n h) (s.k a o n h),λm hm=>?_,λm hm=>?_⟩
 ·rcases t.g m hm with h|h
  ·exact s.g m h
  ·by_cases c:m∈M.take 3
   ·exact .inl c
   ·exact .inr (q c h)
 ·rcases t.f m hm with h|h
  ·exact s.f m h
  ·by_cases c:m∈M.take 3
   ·exact .inl (yyz c)
   ·exact .inr (q c h)
structure BkD where
 way:Addr
 rows:Addr
 sales:Addr
 givs:Addr
 rs:RW
 last:Option (Addr×Int×Int)
 paid:Int
 brought:Int
 sl:List (Addr×jl)
 ex:List Addr
noncomputable def OJ:Option (Addr×Int×Int)->V
 |none=> .non
 |some t=> .ref t.1
noncomputable def BkD.fs(k:BkD):List (Str×V):=[("way",.ref k.way),("rows",.ref k.rows),("last_place",OJ k.last),("paid",.int k.paid),("brought",.int k.brought),("sales_done",.ref k.sales),("givings_done",.ref k.givs)]
noncomputable def BkD.M(b:Addr)(k:BkD):List Addr:=b::k.rows::k.sales::k.ex
noncomputable def Mh(A:Adr)(H:Hp)(rs:RW):Prop:=∀t∈rs,H t.2.1=some (.lst (gq t.2.2))/\jd A H t.2.2
theorem Mh.same{H H':Hp}{rs:RW}(h:Mh A H rs)(s:Same H H'):Mh A H' rs:=λt q=>⟨s _ _ (h t q).1,(h t q).2.same s⟩
noncomputable def Gw(sl:List (Addr×jl)):List V:=sl.map λt=>V.ref t.1
structure Frz(A:Adr)(G:Hp)(k:BkD):Prop where
 l:Mh A G k.rs
 p:∀t,k.last=some t->G t.1=some (.tup [.int t.2.1,.int t.2.2])
 s:∀t∈k.sl,jF A G t.1 t.2
theorem Frz.same{G G':Hp}{k:BkD}(h:Frz A G k)(s:Same G G'):Frz A G' k:=⟨h.l.same s,λt q=>s _ _ (h.p t q),λt q=>(h.s t q).same s⟩
structure fV(A:Adr)(H:Hp)(b:Addr)(k:BkD):Prop where
 i:∃dx,H b=some (.ins A.vF dx k.fs)
 r:H k.rows=some (.dK (kvR k.rs))
 s:H k.sales=some (.lst (Gw k.sl))
 z:Frz A (lg H (k.M b)) k
 e:∀m∈k.ex,∃xs,H m=some (.lst xs)
def BkD.mb{b:Addr}{k:BkD}:b∈(k.M b).take 3:=.head _
def BkD.mr{b:Addr}{k:BkD}:k.rows∈(k.M b).take 3:=.tail _ (.head _)
def BkD.ms{b:Addr}{k:BkD}:k.sales∈(k.M b).take 3:=.tail _ (.tail _ (.head _))
theorem fV.same{H H':Hp}{b:Addr}{k:BkD}(h:fV A H b k)(s:Same H H'):fV A H' b k:=
 ⟨let⟨dx,e⟩:=h.i;⟨dx,s _ _ e⟩,s _ _ h.r,s _ _ h.s,h.z.same (lY s).same,λm hm=>(h.e m hm).imp λ_ q=>s _ _ q⟩
def fV.frz{H:Hp}{b:Addr}{k:BkD}(h:fV A H b k):Frz A H k:=h.z.same iR
def fV.neb{H:Hp}{b:Addr}{k:BkD}(h:fV A H b k){x:Addr}{o:HO}(q:H x=some o)(ho:∀C dx fs,o≠.ins C dx fs):x≠b:=λe=>by
 obtain⟨dx,z⟩:=h.i;rw[e,z]at q;exact ho _ _ _ (zzq q).symm
def fV.ner{H:Hp}{b:Addr}{k:BkD}(h:fV A H b k){x:Addr}{o:HO}(q:H x=some o)(ho:∀z,o≠.dK z):x≠k.rows:=λe=>by
 rw[e,h.r]at q;exact ho _ (zzq q).symm
def fV.row{H:Hp}{b:Addr}{k:BkD}(h:fV A H b k){z:Str}{q:Addr}{ls:RL}(hq:lg H (k.M b) q=some (.lst (gq ls)))(hL:jd A (lg H (k.M b)) ls):fV A (upd H k.rows (.dK (kvR (keepR k.rs z q ls)))) b {k with rs:=keepR k.rs z q ls}:=by
 have hs:Same (lg H (k.M b)) (lg (upd H k.rows (.dK (kvR (keepR k.rs z q ls)))) (k.M b)):=(qb BkD.mr).same;have n:∀{a:Addr}{o:HO},H a=some o->(∀kv,o≠.dK kv)->(upd H k.rows (.dK (kvR (keepR k.rs z q ls)))) a=some o:=λe f=>(fC (h.ner e f)).trans e;have F:=h.z.same hs;refine⟨let⟨dx,e⟩:=h.i;⟨dx,n e λ_ c=>by cases c⟩,eX,n h.s λ_ c=>(by cases c),⟨λt ht=>?_,F.p,F.s⟩,λm hm=>(h.e m hm).imp λ_ q=>n q λ_ c=>by cases c⟩;rcases EY ht with⟨rfl,_⟩|ht
 ·exact⟨hs _ _ hq,hL.same hs⟩
 ·exact F.l t ht
def fV.put{H:Hp}{b dx:Addr}{k:BkD}(h:fV A H b k){la:Option (Addr×Int×Int)}{pa br:Int}(hl:∀t,la=some t->lg H (k.M b) t.1=some (.tup [.int t.2.1,.int t.2.2])):fV A (upd H b (.ins A.vF dx {k with last:=la,paid:=pa,brought:=br}.fs)) b {k with last:=la,paid:=pa,brought:=br}:=by
 have z:Same (lg H (k.M b)) (lg (upd H b (.ins A.vF dx {k with last:=la,paid:=pa,brought:=br}.fs)) (k.M b)):=(qb BkD.mb).same;have n:∀{a:Addr}{o:HO},H a=some o->(∀C dx fs,o≠.ins C dx fs)->(upd H b (.ins A.vF dx {k with last:=la,paid:=pa,brought:=br}.fs)) a=some o:=λe f=>(fC (h.neb e f)).trans e;have F:=h.z.same z;exact⟨⟨dx,eX⟩,n h.r λ_ _ _ c=>(by cases c),n h.s λ_ _ _ c=>(by cases c),⟨F.l,λt ht=>z _ _ (hl t ht),F.s⟩,λm hm=>(h.e m hm).imp λ_ q=>n q λ_ _ _ c=>by cases c⟩
def fV.sale{H:Hp}{b y:Addr}{k:BkD}{s:jl}(h:fV A H b k)(hy:jF A (lg H (k.M b)) y s):fV A (upd H k.sales (.lst (Gw (k.sl++[(y,s)])))) b {k with sl:=k.sl++[(y,s)]}:=by
 have hs:Same (lg H (k.M b)) (lg (upd H k.sales (.lst (Gw (k.sl++[(y,s)])))) (k.M b)):=(qb BkD.ms).same;have n:∀{a:Addr}{o:HO},H a=some o->a≠k.sales->(upd H k.sales (.lst (Gw (k.sl++[(y,s)])))) a=some o:=λe f=>(fC f).trans e;have F:=h.z.same hs;refine⟨let⟨dx,e⟩:=h.i;⟨dx,n e λc=>by rw[c,h.s]at e;cases e⟩,n h.r λc=>(by have:=h.r;rw[c,h.s]at this;cases this),eX,⟨F.l,F.p,λt z=>?_⟩,λm hm=>?_⟩
 ·rcases zzs.mp z with z|z
  ·exact F.s t z
  ·rw[z9.mp z];exact hy.same hs
 ·by_cases c:m=k.sales
  ·rw[c];exact⟨_,eX⟩
  ·exact(h.e m hm).imp λ_ q=>n q c
structure CB(K:Fg_)(C:Addr):Prop where
 c:Cls K C
 w:fW K C "way"
 r:fW K C "rows"
 l:fW K C "last_place"
 p:fW K C "paid"
 b:fW K C "brought"
 s:fW K C "sales_done"
 g:fW K C "givings_done"
def Ik(T:Txt K mg A D){H:Hp}{b:Addr}{k:BkD}(_:fV A H b k):CB K A.vF:=⟨T.yT,T.yU,T.yV,T.yW,T.yX,T.yY,T.yZ,T.y3⟩
def fV.own{H:Hp}{b:Addr}{k:BkD}(h:fV A H b k){m:Addr}(hm:m∈k.M b):∃o,H m=some o/\((∃dx,o=.ins A.vF dx k.fs)\/(∃q,o=.dK q)\/∃xs,o=.lst xs):=by
 obtain⟨dx,hi⟩:=h.i;unfold BkD.M at hm;rcases zzb.mp hm with rfl|c
 ·exact⟨_,hi,.inl ⟨dx,rfl⟩⟩
 rcases zzb.mp c with rfl|c
 ·exact⟨_,h.r,.inr (.inl ⟨_,rfl⟩)⟩
 rcases zzb.mp c with rfl|c
 ·exact⟨_,h.s,.inr (.inr ⟨_,rfl⟩)⟩
 ·obtain⟨xs,e⟩:=h.e m c
  exact⟨_,e,.inr (.inr ⟨_,rfl⟩)⟩
def fV.fresh{H:Hp}{b:Addr}{k:BkD}(h:fV A H b k){x:Addr}(q:H x=none):x∉k.M b:=λc=>by
 obtain⟨o,e,_⟩:=h.own c;rw[q]at e;cases e
theorem fV.tup{H:Hp}{b:Addr}{k:BkD}(h:fV A H b k){x:Addr}{xs:List V}(q:H x=some (.tup xs)):lg H (k.M b) x=some (.tup xs):=jf q λc=>by
 obtain⟨o,e,c⟩:=h.own c;rw[q]at e;obtain rfl:=zzq e;rcases c with⟨_,c⟩|⟨_,c⟩|⟨_,c⟩<;>cases c
theorem fV.ins{H:Hp}{b:Addr}{k:BkD}(h:fV A H b k){x C dx:Addr}{fs:List (Str×V)}{v:V}(q:H x=some (.ins C dx ((Str.ofString "number",v)::fs))):lg H (k.M b) x=some (.ins C dx ((Str.ofString "number",v)::fs)):=jf q λc=>by
 obtain⟨o,e,c⟩:=h.own c;rw[q]at e;obtain rfl:=zzq e;rcases c with⟨_,c⟩|⟨_,c⟩|⟨_,c⟩
 ·injection c with _ _ c
  exact absurd (Prod.mk.inj (yyQ c).1).1 (by decide+kernel)
 ·cases c
 ·cases c
def fV.lots{H:Hp}{b:Addr}{k:BkD}(h:fV A H b k){ls:RL}(q:jd A H ls):jd A (lg H (k.M b)) ls:=λl z=>let⟨dx,e⟩:=q l z;⟨dx,h.ins e⟩
def fV.sal{H:Hp}{b y:Addr}{k:BkD}{s:jl}(h:fV A H b k)(q:jF A H y s)(hp:s.pl∉k.M b):jF A (lg H (k.M b)) y s:=⟨let⟨dx,e⟩:=q.i;⟨dx,h.ins e⟩,jf q.p hp,λr z=>h.tup (q.t r z),q.l⟩
noncomputable def Gy(A:Adr):Sp:=λvs H Q _=>∃(b:Addr)(z:Str)(k:BkD),vs=[.ref b,.str z]/\fV A H b k/\∀l H',Same H H'->H l=none->H' l=some (.lst (gq (rowOf k.rs z)))->jd A H' (rowOf k.rs z)->Q (.ref l) H'
def qI(T:Txt K mg A D):gJ P w K mg base CX0 1 A.uI D.uI ["self", "ware"] (Gy A):=by
 refine T.wK.okv Gz λ_ _ _ _ H vs Q E hr h=>?_
 ·obtain⟨b,z,kb,rfl,hB,k⟩:=h
  refine⟨_,(eY (fJ (iT (ql (K:=K)) (by rfl) T.xL (by decide+kernel) (eQ (CQ (jr hr) (fv K 0) (pvD 1) (jc eV) ⟨rfl,rfl,rfl,rfl⟩) eV)))),?_⟩;walk_at "a";obtain⟨dx,hb⟩:=hB.i;have hC:=Ik T hB;refine rd hb hC.c hC.r (by rfl) ⟨kb.rows,rfl,.inl ⟨_,.inl hB.r⟩,sz,λp hp=>?_⟩;have q:=eZ (o:=.lst []) hp;refine⟨_,.inl ⟨_,Sum.inr z,.inl (q _ _ hB.r),rfl,rfl⟩,?_⟩;rcases aev kb.rs z with⟨t,h1,h2,h3,h4⟩|⟨h1,h2,h3⟩
  ·rw[h3]
   obtain⟨g1,g2⟩:=hB.frz.l t h1;show Eh K [.ref t.2.1] _ Q;rw[ap_rListOf];refine⟨_,.inl (fj (q _ _ g1)),λl hl=>?_⟩;have s2:=q.trans (eZ (o:=.lst (gq t.2.2)) hl);rw[h4]at k;exact k l _ s2 (q.free hl) eX (g2.same s2)
  ·rw[h1]
   show Eh K [.ref p] _ Q;rw[ap_rListOf];refine⟨_,.inl (fj eX),λl hl=>?_⟩;rw[h2]at k;exact k l _ (q.trans (eZ hl)) (q.free hl) eX λl h=>(zzd h).elim
noncomputable def BW(A:Adr):Sp:=λvs H Q _=>∃(b q:Addr)(z:Str)(k:BkD)(ls:RL),vs=[.ref b,.str z,.ref q]/\fV A H b k/\H q=some (.lst (gq ls))/\jd A H ls/\q∉k.M b/\k.rs.length<=50/\
 ∀H',Stp (k.M b) (k.M b) H H'->fV A H' b {k with rs:=keepR k.rs z q ls}->Q .non H'
def oZ(T:Txt K mg A D):gJ P w K mg base CX0 1 A.uJ D.uJ ["self", "ware", "row"] (BW A):=by
 refine T.wM.okv Bq λ_ _ _ _ H vs Q E hr h=>?_
 ·obtain⟨b,q,z,kb,ls,rfl,hB,hq,hL,hs,hz,k⟩:=h
  refine⟨_,(eY (iC (fK (Jf) (fH (ji (K:=K)) (by rfl) T.xK (by decide+kernel) (pav 2 eV)) fB (fX _)) (eY (lJ (jr hr) (fv K 0) (pvD 1) (pvD 2) rfl)) (eY (gj (Yp (fv K 0) (pvD 1) jx ⟨rfl,rfl,rfl,rfl⟩))))),?_⟩;walk_at "a";obtain⟨dx,hb⟩:=hB.i;have hC:=Ik T hB;refine⟨_,.inl (fj hq),?_⟩;rw[fM];have hR:=hB.row (z:=z) (jf hq hs) (hB.lots hL);by_cases hl:ls.length=0
  ·rw[z4 (by omega)]
   unfold abh;walk_at "i";have e:keepR kb.rs z q ls=Qf kb.rs z:=z8 hl;rw[e]at hR k;refine rd hb hC.c hC.r (by rfl) ⟨kb.rows,rfl,.inl ⟨_,.inl hB.r⟩,_,hB.r,Sum.inr z,rfl,λv hv=>?_,λhn=>?_⟩
   ·rw[aad]
    exact k _ (qb BkD.mr) hR
   ·rcases aev kb.rs z with⟨t,_,_,h3,_⟩|⟨_,_,h3⟩
    ·rw[hn]at h3;cases h3
    ·rw[Tq h3]at k
     exact k H (lY (same_refl _)) hB
  ·rw[z8 (by omega)]
   have e:keepR kb.rs z q ls=Bg kb.rs z q ls:=z4 hl;rw[e]at hR k;refine rd hb hC.c hC.r (by rfl) ⟨kb.rows,rfl,_,qD (k:=Sum.inr z) hB.r (by unfold kvR;rw[z0,zzk];omega),?_⟩;rw[Yb _ _ _ ls];exact k _ (qb BkD.mr) hR
noncomputable def Ge(rs:RW):List (Key×V):=rs.map λt=>(Sum.inr t.1,.int (pcs t.2.2))
def aaC{ns:List Int}{W:List Str}{rs:RW}(h:UG ns W rs):Ju (Ge rs):=by
 refine⟨λkv aa=>?_,?_⟩
 ·obtain⟨t,ht,rfl⟩:=z3.mp aa
  refine⟨t.1,pcs t.2.2,rfl,?_⟩;have h1:=rB (h.n t ht).2.p;have h2:=yyC.mpr (h.n t ht).1;omega
 ·unfold Ge
  rw[zzj];have:((λx:Key×V=>x.1)∘λt:Str×Addr×RL=>((Sum.inr t.1:Key),V.int (pcs t.2.2)))=(λz:Str=>(Sum.inr z:Key))∘λt:Str×Addr×RL=>t.1:=rfl;rw[this,<-zzj];exact yyk.mpr (h.u.imp fun{a b} q e=>q (yyL e))
theorem Li:∀(rs:RW)(z:Str),iZ (Ge rs) z=pcs (rowOf rs z)
 |[],z=>rfl
 |t::rs,z=>by
  have q:=Li rs z;show iZ ((Sum.inr t.1,V.int (pcs t.2.2))::Ge rs) z=pcs (if t.1=z then t.2.2 else rowOf rs z);by_cases e:t.1=z
  ·rw[z8 e]
   unfold iZ;rw[gC (by rw[e])]
  ·rw[z4 e,<-q]
   unfold iZ;rw[gD (λh=>e (yyL h))]
noncomputable def afZ:Key->Str
 |.inr z=>z
 |.inl _=>Str.ofString ""
theorem JV:∀{rs:RW}{t:Str×Addr×RL},(rs.map (·.1)).Nodup->t∈rs->rowOf rs t.1=t.2.2
 |u::rs,t,hu,q=>by
  rw[z6,zzw]at hu;unfold rowOf;rcases zzb.mp q with e|q
  ·rw[e,z8 rfl]
  ·have:u.1≠t.1:=λe=>hu.1 (by rw[e];exact z3.mpr ⟨t,q,rfl⟩)
   rw[z4 this];exact JV hu.2 q
noncomputable def LK(A:Adr):Sp:=λvs H Q _=>∃(b:Addr)(k:BkD)(ns:List Int)(W:List Str),vs=[.ref b]/\fV A H b k/\UG ns W k.rs/\W.length<=50/\ns.length<=61/\∀p kv H',Same H H'->H p=none->H' p=some (.dK kv)->Ju kv->kv.length<=50->(∀z,iZ kv z=pcs (rowOf k.rs z))->Q (.ref p) H'
def Be(T:Txt K mg A D):gJ P w K mg base CX0 2 A.vn D.vn ["self"] (LK A):=by
 refine T.xy.okv Ms λ_ _ _ _ H vs Q E hr h=>?_
 ·obtain⟨b,q,ns,W,rfl,z,hO,hW,hN,k⟩:=h
  refine⟨_,(eY (fJ (adg (iT (lQ (K:=K) rfl) (by rfl) T.xX (by decide+kernel) (eQ (gF (cap:=[none,none]) (N':=["ware", "row"]) rfl (by walk_at "c") (QX (Oq (K:=K) yyd Zn PySem.F.type_dict_items Rn (fv K 0))) (λ_ _ _ _=>(jV (K:=K) (n:=2) rfl (fZ (fG (i:=0) (show(["ware", "row"]:List Str).Nodup from by decide+kernel) rfl orl orr) (fZ (fG (i:=1) (show(["ware", "row"]:List Str).Nodup from by decide+kernel) rfl orl orr) jU)))) (λ_ _ _ _=>gQ) (λ_ _ _ _=>(jQ (pav 0 (eQ (pcg (LR T) hr T.xx (Qi T) (pav 1 eV)) eV))))) eV))))),?_⟩;walk_at "a";obtain⟨dx,hb⟩:=z.i;have hC:=Ik T z;refine rd hb hC.c hC.r (v:=.ref q.rows) (by rfl) ⟨.inr (.inr (.inl ⟨rfl,.inl ⟨_,z.r⟩⟩)),?_⟩;refine⟨_,_,rfl,rfl,z.r,λv hv=>⟨v,rfl,q.rows,eX,kvR q.rs,(fC (fU z.r hv)).trans z.r,λo=>?_⟩⟩;have h3:(upd (upd H v (Ce v q.rows)) q.rows (.frz o (.dK (kvR q.rs)))) q.rows=some (.frz o (.dK (kvR q.rs))):=eX;have o3:∀a o',a≠q.rows->H a=some o'->(upd (upd H v (Ce v q.rows)) q.rows (.frz o (.dK (kvR q.rs)))) a=some o':=λa o' ag h=>(fC ag).trans (eZ hv _ _ h);generalize upd (upd H v (Ce v q.rows)) q.rows (.frz o (.dK (kvR q.rs)))=H3 at h3 o3⊢
  have ai:Mh A H3 q.rs:=λt ht=>⟨o3 _ _ (z.ner (z.frz.l t ht).1 λ_ c=>by cases c) (z.frz.l t ht).1,λl hl=>by
   obtain⟨dy,hy⟩:=(z.frz.l t ht).2 l hl;exact⟨dy,o3 _ _ (z.ner hy λ_ c=>by cases c) hy⟩⟩
  have ah:(kvR q.rs).length=q.rs.length:=by unfold kvR;rw[z0]
  have hz:q.rs.length<=50:=zzK hO.len hW;refine iK.itemsF (λσ=>∃a b,σ=[a,b]) (λ_=>true) (λkv v H'=>∃b,v=.ref b/\H' b=some (.tup [kV kv.1,.int (pcs (rowOf q.rs (afZ kv.1)))])) h3 ⟨_,_,rfl⟩ (by rw[ah,zzk];omega) ?_ ?_
  ·rintro D i kv aa σ H5 p R1 R2 ⟨_,_,rfl⟩ s5 hD ⟨acc,hA⟩ hp k1 k2
   obtain ⟨t,ht,rfl⟩:∃t,q.rs[i]? =some t/\kv=(Sum.inr t.1,.ref t.2.1):=by
    unfold kvR at aa;rw[zzl]at aa
    cases e:q.rs[i]? with
    |none=>rw[e]at aa;cases aa
    |some t=>rw[e]at aa;exact⟨t,rfl,(zzq aa).symm⟩
   have ab:=zzp ht;have s6:=eZ (o:=.tup [kV (Sum.inr t.1),.ref t.2.1]) hp;have h6:(upd H5 p (.tup [kV (Sum.inr t.1),.ref t.2.1])) p=some (.tup [.str t.1,.ref t.2.1]):=eX;have ae:=s6 _ _ hA;have ac:=(ai.same s5).same s6 t ab;generalize upd H5 p (.tup [kV (Sum.inr t.1),.ref t.2.1])=H6 at h6 ae ac k1 k2⊢;walk_at "i";refine⟨_,gM h6,rfl,_,_,rfl,_,_,rfl,rfl,t.2.1,t.2.2,rfl,ac.1,ac.2,by have:=(hO.n t ab).2.len;omega,λH7 s7=>?_⟩;refine⟨sz,λu hu=>k1 rfl _ _ _ ⟨_,_,rfl⟩ (s7.trans (eZ hu)) λH' hb=>⟨u,rfl,?_⟩⟩;have e1:rowOf q.rs (afZ (Sum.inr t.1))=t.2.2:=JV hO.u ab;have ep:((t.2.2.map (·.2)).map fP.p).sum=pcs t.2.2:=by unfold pcs;rw[zzj];rfl
   rw[e1,<-ep];exact hb _ _ (λe=>by rw[e,s7 _ _ ae]at hu;cases hu) eX
  ·intro D H4 acc hD s4 hA af hF
   have ak:(kvR q.rs).filter (λ_=>true)=kvR q.rs:=yys.mpr λ_ _=>rfl;rw[ak]at af hF;have al:(Ge q.rs).length=q.rs.length:=by unfold Ge;rw[z0]
   have hF':∀(i:Nat) v,acc[i]? =some v->∃kv,(Ge q.rs)[i]? =some kv/\∃b,v=.ref b/\H4 b=some (.tup [kV kv.1,kv.2]):=λi v hv=>by
    obtain⟨kv,h1,b,h2,h4⟩:=hF i v hv;unfold kvR at h1;rw[zzl]at h1
    cases e:q.rs[i]? with
    |none=>rw[e]at h1;cases h1
    |some t=>
     rw[e]at h1;cases h1;have e1:rowOf q.rs (afZ (Sum.inr t.1))=t.2.2:=JV hO.u (zzp e);rw[e1]at h4;exact⟨(Sum.inr t.1,.int (pcs t.2.2)),by unfold Ge;rw[zzl,e];rfl,b,h2,h4⟩
   have hH:=aaC hO;rw[ap_dictPairs];refine⟨acc,kfD H4,vfD H4,fj hA,by omega,λy hy=>?_,λp hp=>?_⟩
   ·obtain⟨i,hi,e⟩:=zzL hy
    obtain⟨kv,_,b,rfl,hb⟩:=hF' i y (by rw[zzg hi,e]);exact⟨b,rfl,by rw[Vx hb,Xl hb];exact gM hb⟩
   ·rw[Xz (by omega) hF' hH.u]
    have s5:=s4.trans (eZ (o:=.dK (Ge q.rs)) hp);have ad:p≠q.rows:=λe=>by rw[e,s4 _ _ h3]at hp;cases hp
    have aj:H p=none:=by
     cases e:H p with
     |none=>rfl
     |some o'=>rw[s4 _ _ (o3 _ _ ad e)]at hp;cases hp
    refine⟨q.rows,o,kvR q.rs,s5 _ _ h3,λo u e=>?_,k p (Ge q.rs) _ (λa o' h=>?_) aj ((fC ad).trans eX) hH (by omega) (Li q.rs)⟩
    ·have e:H q.rows=some (.frz o u):=e
     rw[z.r]at e;cases e
    ·by_cases c:a=q.rows
     ·rw[c,z.r]at h
      rw[c,eX];exact h
     ·rw[fC c]
      exact s5 _ _ (o3 _ _ c h)
def fV.me{H:Hp}{b:Addr}{k:BkD}(_:fV A H b k){sp:Sp}:(A.vF,sp)∈[(A.vF,sp)]:=zze
noncomputable def Qg(A:Adr):Sp:=λvs H Q _=>∃(b q y:Addr)(z:Str)(k:BkD)(d:fP)(ns:List Int),vs=[.ref b,.str z,.ref q]/\fV A H b k/\H q=some (.lst (gq [(y,d)]))/\jw A H y d/\1<=d.p/\d.n∈ns/\d.n∉(rowOf k.rs z).map (·.2.n)/\Shp ns (rowOf k.rs z)/\ns.length<=61/\k.rs.length<=50/\
 ∀q' ms H',Stp (k.M b) (k.M b) H H'->fV A H' b {k with rs:=keepR k.rs z q' ms}->Shp ns ms->(ms.map (·.2)).Perm ((rowOf k.rs z).map (·.2)++[d])->Q .non H'
def Ou(T:Txt K mg A D):gJ P w K mg base CX0 5 A.uO D.uO ["self", "ware", "lots"] (Qg A):=by
 refine T.wR.okv oH λ_ _ _ _ H vs Q E hr h=>?_
 ·obtain⟨b,q,y,z,kb,d,ns,rfl,hB,hq,hL,hp,hn,am,hS,as,hz,k⟩:=h
  refine ⟨_,(eU (fL (i:=3) oH.nd rfl orl (gY (pv 0) (mc T.yT T.zv (qI T) hr (rT T) .nil) iI (pav 1 eV)))
   (eU (kE zzM rfl (gm (K:=K) (pv 2)) (fG (i:=4) oH.nd rfl orl)
    (eY (fL (i:=3) oH.nd rfl orl (pcg (OD T) hr T.wQ (Tt T) (pav 3 (pav 4 eV))))))
   (eY (gj (gY (pv 0) (mc T.yT T.zw (oZ T) hr (pO T) .nil) iI (pav 1 (pav 3 eV))))))),?_⟩
  simp only[start_eq];walk_at "m";obtain⟨dx,hb⟩:=hB.i;refine md hb hB.me (by rfl) ⟨b,z,kb,rfl,hB,λr H1 s1 ao ak ag=>?_⟩
  try dsimp only
  rw[ap_seq,ap_for];walk_at "i";refine⟨⟨_,fj (s1 _ _ hq)⟩,?_⟩
  refine mZ (K:=K) (a:=q) (xs:=gq [(y,d)]) (λi σ H2=>∃(r':Addr)(v4:Option V),σ=[some (.ref b),some (.str z),some (.ref q),some (.ref r'),v4]/\Same H H2/\H r'=none/\∃ms:RL,H2 r'=some (.lst (gq ms))/\jd A H2 ms/\Shp ns ms/\(i=0->ms=rowOf kb.rs z)/\(i≠0->(ms.map (·.2)).Perm ((rowOf kb.rs z).map (·.2)++[d])))
   ⟨r,_,rfl,s1,ao,rowOf kb.rs z,ak,ag,hS,λ_=>rfl,λc=>(c rfl).elim⟩ (λi σ H2 _ ⟨_,_,_,s,_⟩=>s.seq (fj hq)) ?_ ?_
  ·rintro i y' σ H2 hi ⟨r',v4,rfl,s2,ad,ms,h2,ab,aa,an,_⟩
   have ah:i=0:=by have:=(zzm.mp hi).1;have e:(gq [(y,d)]).length=1:=rfl;omega
   subst ah;cases hi;obtain rfl:=an rfl;have aq:=aa.len;walk_at "i";refine⟨r',y,rowOf kb.rs z,d,rfl,h2,ab,hL.same s2,by omega,aa.u,λl3 aj H3 s3 al h3 ai e1 e2=>?_⟩;obtain⟨g1,_⟩:=SN aa hp hn e1 e2;exact⟨l3,rfl,s2.trans s3,s2.free al,aj,h3,ai,g1,λc=>(by cases c),λ_=>e2 am⟩
  ·rintro σ H2 ⟨r',v4,rfl,s2,ad,ms,h2,ab,aa,_,ap⟩
   have ac:=hB.same s2;obtain⟨ar,ae⟩:=ac.i
   try dsimp only
   walk_at "i";exact md ae ac.me (by rfl) ⟨b,r',z,kb,ms,rfl,ac,h2,ab,hB.fresh ad,hz,λH4 o4 af=>k r' ms H4 ((lY s2).trans o4) af aa (ap λc=>by cases c)⟩
def afR{H:Hp}{v:V}{o:Option Rs}(h:NL H v o):NP H v o:=by cases o<;>exact h
theorem NP.same{H H':Hp}{v:V}{o:Option PL}(h:NP H v o)(s:Same H H'):NP H' v o:=by
 cases o with
 |none=>exact h
 |some ps=>obtain⟨l,e,h1,h2⟩:=h;exact⟨l,e,s _ _ h1,h2.same s⟩
structure abx(A:Adr)(H:Hp)(dr:Bool)(k:BkD)(ns:List Int)(W:List Str)(z:Str)(m:Int)(on:Option Rs):Prop where
 w:∃Cw dw,H k.way=some (.ins Cw dw [])/\Uz A dr Cw
 r:UG ns W k.rs
 l:W.length<=50
 n:ns.length<=61
 p:1<=m/\m<=pcs (rowOf k.rs z)/\pcs (rowOf k.rs z)<=100000000000
 o:∀rs,on=some rs->PkS (rowOf k.rs z) (rs.map (·.2)) m
noncomputable def tO(A:Adr):Sp:=λvs H Q _=>∃(b x:Addr)(dr:Bool)(k:BkD)(ns:List Int)(W:List Str)(d n:Int)(w:Str)(p r f:Int)(o:Option Rs),vs=[.ref b,.ref x]/\fV A H b k/\IsE A H x (.sell d n w p r f o)/\abx A H dr k ns W w p o/\
 ∀la l1 q ms H',Stp (k.M b) (k.M b) H H'->fV A H' b {k with rs:=keepR k.rs w q ms}->H la=none->H' la=some (.lst (gq l1))->jd A H' l1->Shp ns l1->pcs l1=p->l1≠[]->Shp ns ms->pcs ms=pcs (rowOf k.rs w) - p->Gon dr o (rowOf k.rs w) l1 ms p->Q (.ref la) H'
def Ae(T:Txt K mg A D):gJ P w K mg base CX0 6 A.vc D.vc ["self", "entry"] (tO A):=by
 refine T.xo.okv nu λ_ _ _ _ H vs Q E hr h=>?_
 ·obtain⟨b,x,dr,kb,ns,W,d,n,w,p,r,f,o,rfl,hB,⟨dx,nv,hx,ae⟩,hO,k⟩:=h
  refine ⟨_,(eU (Ud ((eY (fL (i:=2) nu.nd rfl orl (pcg (Lb T) hr T.xn (Pg T) (eQ (fv K 0) (eQ (gY (pv 0) (mc T.yT T.zv (qI T) hr (rT T) .nil) iI (eQ (fv K 1) eV)) (eQ (fv K 1) (eQ (fv K 1) eV)))))))))
   (eU (gj (gY (pv 0) (mc T.yT T.zw (oZ T) hr (pO T) .nil) iI (eQ (fv K 1) (eQ (jG (jT (K:=K)) (pvD 2) fB (λ_ _=>rfl)) eV))))
   (eY (fJ (jG (jT (K:=K)) (pvD 2) fB (λ_ _=>rfl)))))),?_⟩
  simp only[start_eq];walk_at "m";obtain⟨db,hb⟩:=hB.i;have hC:=Ik T hB;have hz:=hO.r.len;have hl:=hO.l;have hn:=hO.n;obtain⟨Cw,dw,hw,aj⟩:=hO.w;obtain⟨af,ac,ag⟩:=hO.p;refine rd hb hC.c hC.w (by rfl) (md hb hB.me (by rfl) (rd hx T.yC T.yG (by rfl) ⟨b,w,kb,rfl,hB,λl H1 z ak h1 ab=>?_⟩));have aa:=z _ _ hx;refine rd aa T.yC T.yH (by rfl) (rd aa T.yC T.yK (v:=nv) (by rfl) ⟨kb.way,Cw,dw,l,dr,ns,rowOf kb.rs w,p,nv,o,rfl,z _ _ hw,aj,h1,ab,hO.r.row w,by omega,ag,af,ac,(afR ae).same z,hO.o,λt la lb l1 l2 H2 s2 ht h5 h6 h7 h8 g1 g2 g3 g4 g5 gc g6 g7 g8=>?_⟩);have S2:=z.trans s2;have q:=hB.same S2;obtain⟨al,ad⟩:=q.i;have ai:=s2 _ _ aa;walk_at "m";refine md ad q.me (by rfl) (rd ai T.yC T.yG (by rfl) ⟨_,gM ht,.ref lb,rfl,b,lb,w,kb,l2,rfl,q,h6,h8,hB.fresh (z.free g7),by omega,λH3 o3 ah=>?_⟩);have G:Same (lg H2 (kb.M b)) H3:=λa o h=>iR _ _ (o3.same _ _ h);exact⟨_,gM (G _ _ (q.tup ht)),.ref la,rfl,k la l1 lb l2 H3 ((lY S2).trans o3) ah (z.free g6) (G _ _ (jf h5 (hB.fresh (z.free g6)))) (jd.same (q.lots h7) G) g1 g2 g3 g4 g5 gc⟩
noncomputable def Fo(A:Adr):Sp:=λvs H Q _=>∃(b x:Addr)(dr:Bool)(k:BkD)(ns:List Int)(W:List Str)(d n:Int)(w:Str)(p r f:Int)(o:Option Rs),vs=[.ref b,.ref x]/\fV A H b k/\IsE A (lg H (k.M b)) x (.sell d n w p r f o)/\abx A H dr k ns W w p o/\k.sl.length<=100/\
 ∀y s q l1 ms H',Stp (k.M b) (k.M b) H H'->fV A H' b {k with rs:=keepR k.rs w q ms,sl:=k.sl++[(y,s)]}->s.d=d->s.w=w->s.lo=none->s.pr=p*r - f->s.co=qd l1->Shp ns ms->pcs ms=pcs (rowOf k.rs w) - p->Gon dr o (rowOf k.rs w) l1 ms p->Q .non H'
def Ff(T:Txt K mg A D):gJ P w K mg base CX0 7 A.vd D.vd ["self", "entry"] (Fo A):=by
 refine T.xp.okv Ep λ_ _ _ _ H vs Q E hr h=>?_
 ·obtain⟨b,x,dr,kb,ns,W,d,n,w,p,r,f,o,rfl,hB,hx,hO,ah,k⟩:=h
  refine⟨_,(eY (gj (lW (K:=K) zzF zzI zzJ iH (fv K 0) (eQ (pcg (TV T) hr T.wX (UV T) (pav 1 (eQ (gY (pv 0) (mc T.yT T.zK (Ae T) hr (Cd T) .nil) iI (pav 1 eV)) eV))) eV)))),?_⟩;obtain⟨db,hb⟩:=hB.i;have hC:=Ik T hB;walk_at "a";refine rd hb hC.c hC.s (v:=.ref kb.sales) (by rfl) ⟨tyL (fj hB.s),?_⟩;refine md hb hB.me (by rfl) ⟨b,x,dr,kb,ns,W,d,n,w,p,r,f,o,rfl,hB,hx.same iR,hO,λla l1 q ms H1 o1 aa ai h1 ab g1 g2 g3 g4 g5 gc=>?_⟩;have ae:IsE A H1 x (.sell d n w p r f o):=(hx.same o1.same).same iR;have af:=g1.len;have hn:=hO.n;have ag:=hO.p;refine⟨x,la,d,n,p,r,f,w,o,l1,rfl,ae,h1,ab,g3,by omega,g1.p,by omega,λy s H2 s2 hy ac hS e1 e2 e3 e4 e5 e6 e7=>?_⟩;have z:=aa.same s2;have ad:=z.sal hS (aa.fresh ac);have hE:=z.sale ad;show JK (V.ref kb.sales) [V.ref y] H2 _;rw[ap_append];refine⟨_,z.s,?_,?_⟩
  ·unfold Gw
   rw[z0,zzk];show kb.sl.length<_;omega
  rw[show Gw kb.sl++[V.ref y]=Gw (kb.sl++[(y,s)]) by unfold Gw;rw[zza];rfl];exact k y s q l1 ms _ (o1.trans ((lY s2).trans (qb BkD.ms))) hE e2 e3 e5 e4 (by unfold jl.co;rw[pI,<-e6,zzj];rfl) g4 g5 gc
noncomputable def GC:Sp:=λvs H Q _=>∃(b x:Addr),vs=[.ref b,.ref x]/\Q (.int 0) H
def GK(T:Txt K mg A D):gJ P w K mg base CX0 1 A.uP D.uP ["self", "entry"] GC:=by
 refine T.wS.okv GZ λ_ _ _ _ H vs Q E q h=>?_
 ·obtain⟨b,x,rfl,k⟩:=h
  refine⟨_,(eY (fJ fB)),?_⟩;walk_at "a";exact k
def abA(k:BkD):k.fs.length<1000:=by unfold BkD.fs;simp
def Xi(k:BkD)(i:Int):Az (Str.ofString "paid") (.int i) k.fs={k with paid:=i}.fs:=by cases k;rfl
noncomputable def Gd(A:Adr):Sp:=λvs H Q _=>∃(b x:Addr)(k:BkD)(ns:List Int)(W:List Str)(d n:Int)(w:Str)(p r f:Int),vs=[.ref b,.ref x]/\fV A H b k/\IsE A (lg H (k.M b)) x (.buy d n w p r f)/\1<=p/\n∈ns/\n∉(rowOf k.rs w).map (·.2.n)/\UG ns W k.rs/\W.length<=50/\ns.length<=61/\
 ∀q ms H',Stp (k.M b) (k.M b) H H'->fV A H' b {k with rs:=keepR k.rs w q ms,paid:=k.paid+(p*r+f)}->Shp ns ms->(ms.map (·.2)).Perm ((rowOf k.rs w).map (·.2)++[⟨n,d,p,p*r+f⟩])->Q .non H'
def Ga(T:Txt K mg A D):gJ P w K mg base CX0 6 A.uQ D.uQ ["self", "entry"] (Gd A):=by
 refine T.wT.okv qM λ_ _ _ _ H vs Q E hr h=>?_
 ·obtain⟨b,x,kb,ns,W,d,n,w,p,r,f,rfl,hB,hE,hp,hn,ah,hO,hW,hN,k⟩:=h
  have aj:=hE.same iR;obtain⟨dx,nv,hx,_⟩:=aj
  refine ⟨_,(eU (fL (i:=2) qM.nd rfl orl (fQ iY (fv K 1) (gY (pv 0) (mc T.yT T.zy (GK T) hr (Jp T) .nil) iI (pav 1 eV))))
   (eU (gj (gY (pv 0) (mc T.yT T.zx (Ou T) hr (TQ T) .nil) iI (eQ (fv K 1) (eQ (jc (eQ (lC T.zi (jb (K:=K) T) (hr.mono (by decide)) (by rfl) T.yc (jh T) .nil iI (eQ (fv K 1) (eQ (fv K 1) (eQ (fv K 1) (pav 2 eV))))) eV)) eV))))
   (eY (gw (K:=K) (pv 0) (fQ iY (fv K 0) (fv K 1)) rfl)))),?_⟩
  obtain⟨db,hb⟩:=hB.i;have hz:=hO.len;simp only[start_eq];walk_at "m";refine rd hx T.yt T.yB (by rfl) (md hb hB.me (by rfl) ⟨b,x,rfl,_,rfl,_,rfl,?_⟩);rw[yyo];walk_at "m";refine md hb hB.me (by rfl) (rd hx T.yt T.yx (by rfl) (rd hx T.yt T.yw (by rfl) (rd hx T.yt T.yv (by rfl) (rd hx T.yt T.yy (by rfl) (λy dy hy ae _=>?_)))));refine su (A:=A) ⟨n,d,p,_⟩ hy ae λH2 s1 hL=>⟨sz,λq hq=>?_⟩;have s2:=s1.trans (eZ (o:=.lst [.ref y]) hq);have ab:(upd H2 q (.lst [.ref y])) q=some (.lst (gq [(y,⟨n,d,p,p*r+f⟩)])):=eX;have ac:=hL.same (eZ (o:=.lst [.ref y]) hq);generalize upd H2 q (HO.lst [.ref y])=H3 at s2 ab ac⊢;have ai:=hB.same s2;refine⟨b,q,y,w,kb,⟨n,d,p,p*r+f⟩,ns,rfl,ai,ab,ac,hp,hn,ah,hO.row w,hN,by omega,λq' ms H4 o4 z g1 g2=>?_⟩;obtain⟨ak,al,af,_⟩:=((hE.same (lY s2).same).same o4.same).same iR;obtain⟨ag,ad⟩:=z.i;have aa:=Ik T z
  try dsimp only
  refine rd ad aa.c aa.p (by rfl) (rd af T.yt T.yB (by rfl) ⟨_,rfl,_,rfl,_,ag,_,ad,aa.c,aa.p,abA _,?_⟩);rw[Xi];exact k q' ms _ ((lY s2).trans (o4.trans (qb BkD.mb))) (z.put (la:=kb.last) (pa:=kb.paid+(p*r+f)) (br:=kb.brought) z.z.p) g1 g2
def sc0{i:Nat}{σ:L2.St}{H:Hp}{x:V}{t:Value}{C:Addr}{s u:TS}{D:_}(h:σ[i]? =some (some x))(ty:Gp K H x t)(e:kitOne K t (.ref C)=some false)(k:u D σ H):abB (tB (tCB (adP K) (Br (tV i) (Br (tC (.ref C)) VL)))) s u D σ H:=by
 unfold abB tB tCB Br tV tC VL atV adP;rw[h];exact⟨_,_,_,_,rfl,ty,e,_,rfl,k⟩
def sc1{i:Nat}{σ:L2.St}{H:Hp}{x:V}{t:Value}{C:Addr}{s u:TS}{D:_}(h:σ[i]? =some (some x))(ty:Gp K H x t)(e:kitOne K t (.ref C)=some true)(k:s D σ H):abB (tB (tCB (adP K) (Br (tV i) (Br (tC (.ref C)) VL)))) s u D σ H:=by
 unfold abB tB tCB Br tV tC VL atV adP;rw[h];exact⟨_,_,_,_,rfl,ty,e,_,rfl,k⟩
noncomputable def Yi(c:Str->Int):Ent->Str->Int
 |.buy _ _ w p _ _,z=>if z=w then c w+p else c z
 |.sell _ _ w p _ _ _,z=>if z=w then c w - p else c z
noncomputable def runC(es:List Ent):Str->Int:=es.foldl Yi λ_=>0
def jg(es:List Ent)(e:Ent):runC (es++[e])=Yi (runC es) e:=by unfold runC;rw[ZU];rfl
noncomputable def avE(a:Str->Int->Int):Ent->Str->Int->Int
 |.buy _ n w p _ _,z,m=>if z=w/\m=n then a z m+p else a z m
 |.sell _ _ w _ _ _ (some rs),z,m=>if z=w then a z m - lkP (rs.map (·.2)) m else a z m
 |.sell _ _ _ _ _ _ none,z,m=>a z m
noncomputable def HX(es:List Ent):Str->Int->Int:=es.foldl avE λ_ _=>0
def sX(es:List Ent)(e:Ent):HX (es++[e])=avE (HX es) e:=by unfold HX;rw[ZU];rfl
noncomputable def BdP:List Ent->Str->Int->Int->Prop
 |[],_,_,b=>b=0
 |.buy _ _ w p r f::es,z,t,b=>∃b',BdP es z t b'/\b=b'+if w=z then max 0 (p*r+f - t*p)else 0
 |.sell _ _ w p _ _ _::es,z,t,b=>if w=z then∃t' b',0<=t'/\t'<=t/\BdP es z t' b'/\b=b'+t'*p else BdP es z t b
abbrev SL:=List (Addr×jl)
noncomputable def gnA(z:Str)(sl:SL):Int:=(sl.map λt=>if t.2.w=z then t.2.co else 0).sum
def aaS(z:Str)(sl:SL)(y:Addr)(s:jl):gnA z (sl++[(y,s)])=gnA z sl+if s.w=z then s.co else 0:=by unfold gnA;simp
noncomputable def Upp(es:List Ent)(sl:SL):Prop:=∀z t b,0<=t->BdP es.reverse z t b->gnA z sl<=b
noncomputable def Rch(es:List Ent)(sl:SL):Prop:=∀z,∃t,0<=t/\BdP es.reverse z t (gnA z sl)
noncomputable def phR(t:Int)(rs:RW)(z:Str):Int:=phi t ((rowOf rs z).map (·.2))
structure Prc(dr:Bool)(es:List Ent)(rs:RW)(sl:SL):Prop where
 f:∀z t b,0<=t->BdP es.reverse z t b->gnA z sl+phR t rs z<=b
 g:dr=true->∀z t,0<=t->BdP es.reverse z t (gnA z sl+phR t rs z)
 x:dr=true->∀z,∀l∈rowOf rs z,Ex l.2
 p:∀z,∀l∈rowOf rs z,1<=l.2.p
def Prc.upp{dr:Bool}{es:List Ent}{rs:RW}{sl:SL}(h:Prc dr es rs sl):Upp es sl:=λz t b h0 q=>by
 have h1:=h.f z t b h0 q;have h2:0<=phR t rs z:=VF _ _;omega
def Prc.rch{dr:Bool}{es:List Ent}{rs:RW}{sl:SL}(h:Prc dr es rs sl)(hd:dr=true):Rch es sl:=λz=>by
 obtain ⟨t,q,e⟩:=Vp ((rowOf rs z).map (·.2)) λd hd=>by
  obtain⟨l,hl,rfl⟩:=z3.mp hd;exact h.p z l hl
 have:=h.g hd z t q;unfold phR at this;rw[e,yyo]at this;exact⟨t,q,this⟩
def CT(es:List Ent)(e:Ent):(es++[e]).reverse=e::es.reverse:=by simp
theorem Prc.buy{dr:Bool}{es:List Ent}{rs:RW}{sl:SL}{d n:Int}{w:Str}{p r:Int}{q:Addr}{ms:RL}(h:Prc dr es rs sl)(hp:1<=p)(hr:0<=r)(hm:(ms.map (·.2)).Perm ((rowOf rs w).map (·.2)++[⟨n,d,p,p*r+0⟩])):Prc dr (es++[.buy d n w p r 0]) (keepR rs w q ms) sl:=by
 have ab:∀t z,phR t (keepR rs w q ms) z=phR t rs z+if w=z then max 0 (p*r+0 - t*p)else 0:=λt z=>by
  unfold phR;rw[gW];by_cases c:z=w
  ·rw[z8 c,z8 c.symm,aay hm,c]
   show(List.map (psi t) (_++[_])).sum=_;rw[zza,zz5];show _+(psi t ⟨n,d,p,p*r+0⟩+0)=_;rw[yyo];rfl
  ·rw[z4 c,z4 (λe=>c e.symm),yyo]
 have aa:∀{P:fP->Prop},(∀z,∀l∈rowOf rs z,P l.2)->P ⟨n,d,p,p*r+0⟩->∀z,∀l∈rowOf (keepR rs w q ms) z,P l.2:=fun{P} h1 h2 z l hl=>by
  rw[gW]at hl;split at hl
  ·have:=hm.mem_iff.mp (z3.mpr ⟨l,hl,rfl⟩)
   rcases zzs.mp this with h|h
   ·obtain⟨l',ac,e⟩:=z3.mp h
    exact e▸h1 w l' ac
   ·rw[z9.mp h];exact h2
  ·exact h1 z l hl
 refine⟨λz t b h0 hb=>?_,λhd z t h0=>?_,λhd=>aa (h.x hd) ⟨r,hr,by show p*r+0=r*p;rw[yyo,Int.mul_comm]⟩,aa (P:=λd=>1<=d.p) h.p hp⟩
 ·rw[CT]at hb
  obtain⟨b',h1,rfl⟩:=hb;have:=h.f z t b' h0 h1;rw[ab];omega
 ·rw[CT,ab]
  exact⟨_,h.g hd z t h0,(Int.add_assoc _ _ _).symm⟩
theorem Prc.sell{dr:Bool}{es:List Ent}{rs:RW}{sl:SL}{d n:Int}{w:Str}{p r f:Int}{o:Option Rs}{q y:Addr}{l1 ms:RL}{s:jl}(h:Prc dr es rs sl)(ab:dr=true->o=none)(hG:Gon dr o (rowOf rs w) l1 ms p)(ac:∀l∈ms,1<=l.2.p)(hw:s.w=w)(hc:s.co=qd l1):Prc dr (es++[.sell d n w p r f o]) (keepR rs w q ms) (sl++[(y,s)]):=by
 have hp:∀d∈ms.map (·.2),1<=d.p:=λd hd=>by
  obtain⟨l,hl,rfl⟩:=z3.mp hd;exact ac l hl
 have aa:∀t z,phR t (keepR rs w q ms) z=if z=w then phi t (ms.map (·.2))else phR t rs z:=λt z=>by
  unfold phR;rw[gW];split<;>rfl
 have ad:∀z,gnA z (sl++[(y,s)])=gnA z sl+if z=w then qd l1 else 0:=λz=>by
  rw[aaS,hw,hc];by_cases c:z=w
  ·rw[z8 c,z8 c.symm]
  ·rw[z4 c,z4 (λe=>c e.symm)]
 refine⟨λz t b h0 hb=>?_,λhd z t h0=>?_,λhd z l hl=>?_,λz l hl=>?_⟩
 ·rw[CT]at hb
  unfold BdP at hb;rw[aa,ad];by_cases c:z=w
  ·rw[z8 c.symm]at hb
   rw[z8 c,z8 c];obtain⟨t',b',t0,tt,h1,rfl⟩:=hb;have h2:=h.f z t' b' t0 h1;rw[c]at h2⊢;have h3:qd l1+phi t' (ms.map (·.2))<=t'*p+phR t' rs w:=hG.u t';have h4:=Cy tt hp;omega
  ·rw[z4 (λe=>c e.symm)]at hb
   rw[z4 c,z4 c,yyo];exact h.f z t b h0 hb
 ·rw[CT,aa,ad]
  unfold BdP;by_cases c:z=w
  ·rw[z8 c.symm,z8 c,z8 c]
   subst c;obtain⟨_,u,u0,uz,ue⟩:=hG.d hd (ab hd) (h.x hd z);by_cases ct:t<=u
   ·refine⟨t,_,h0,zz3 _,h.g hd z t h0,?_⟩
    have:qd l1+phi t (ms.map (·.2))=t*p+phR t rs z:=ue t h0 ct;omega
   ·refine⟨u,_,u0,by omega,h.g hd z u u0,?_⟩
    have h1:qd l1+phi u (ms.map (·.2))=u*p+phR u rs z:=ue u u0 (zz3 _);have h2:=Cy (show u<=t by omega) hp;have h3:=VF t (ms.map (·.2));omega
  ·rw[z4 (λe=>c e.symm),z4 c,z4 c,yyo]
   exact h.g hd z t h0
 ·rw[gW]at hl
  split at hl
  ·exact(hG.d hd (ab hd) (h.x hd w)).1 l hl
  ·exact h.x hd z l hl
 ·rw[gW]at hl
  split at hl
  ·exact ac l hl
  ·exact h.p z l hl
def afD{dr:Bool}:Prc dr [] [] []:=⟨λz t b _ h=>by rw[show b=0 from h];exact zz3 _,λ_ z t _=>rfl,λ_ z l h=>(zzd h).elim,λz l h=>(zzd h).elim⟩
noncomputable def qG(d:Int)(es:List Ent):List Ent:=es.filter λe=>decide (e.day<=d)
noncomputable def kj(d:Int)(sl:SL):SL:=sl.filter λt=>decide (t.2.d<=d)
structure aeI(dr:Bool)(es:List Ent)(sl:SL):Prop where
 u:∀d,Upp (qG d es) (kj d sl)
 v:dr=true->∀d,Rch (qG d es) (kj d sl)
def afC{dr:Bool}:aeI dr [] []:=⟨λd=>(afD (dr:=dr)).upp,λ_ d=>(afD (dr:=true)).rch rfl⟩
def aeI.next{dr:Bool}{es:List Ent}{e:Ent}{sl q:SL}{rs:RW}(h:aeI dr es sl)(hP:Prc dr (es++[e]) rs q)(hd:∀x∈es,x.day<=e.day)(hs:∀t∈q,t.2.d<=e.day)(hk:∀d,d<e.day->kj d q=kj d sl):aeI dr (es++[e]) q:=by
 have h1:∀d,e.day<=d->qG d (es++[e])=es++[e]:=λd z=>yys.mpr λx hx=>zzx (by
  rcases zzs.mp hx with hx|hx
  ·have:=hd x hx;omega
  ·rw[z9.mp hx];exact z)
 have h2:∀d,e.day<=d->kj d q=q:=λd z=>yys.mpr λt ht=>zzx (by have:=hs t ht;omega)
 have h3:∀d,d<e.day->qG d (es++[e])=qG d es:=λd z=>by
  unfold qG;rw[zz1,zzA (by rw[decide_eq_true_eq];omega),ZH,zz4]
 refine⟨λd=>?_,λaa d=>?_⟩
 ·by_cases c:e.day<=d
  ·rw[h1 d c,h2 d c];exact hP.upp
  ·rw[h3 d (by omega),hk d (by omega)];exact h.u d
 ·by_cases c:e.day<=d
  ·rw[h1 d c,h2 d c];exact hP.rch aa
  ·rw[h3 d (by omega),hk d (by omega)];exact h.v aa d
def RT(K:Fg_)(C:Addr):kitOne K (.ref C) (.ref C)=some true:=z8 (by simp)
noncomputable def GR:Ent->Int
 |.buy _ _ _ p r f=>p*r+f
 |_=>0
noncomputable def adN:Ent->Int
 |.buy _ _ _ _ _ f=>f
 |.sell _ _ _ _ _ f _=>f
noncomputable def pC:Ent->Option (Int×Str×Int)
 |.sell d _ w p r f _=>some (d,w,p*r - f)
 |_=>none
noncomputable def abJ(c:Str->Int):Ent->Prop
 |.sell _ _ w p _ _ _=>p<=c w
 |_=>True
noncomputable def adO(nm:Bool)(a:Str->Int->Int):Ent->Prop
 |.sell _ _ w _ _ _ o=>(nm=true->∃rs,o=some rs/\∀r∈rs,r.2.2<=a w r.2.1)/\(nm=false->o=none)
 |_=>True
noncomputable def rR(W:List Str)(rs:RW):Int:=(W.map λz=>qd (rowOf rs z)).sum
theorem Ai{rs:RW}{w:Str}{q:Addr}{ms:RL}:∀{W:List Str},W.Nodup->w∈W->rR W (keepR rs w q ms)=rR W rs - qd (rowOf rs w)+qd ms
 |x::W,hu,hw=>by
  obtain⟨h1,h2⟩:=zzw.mp hu;show qd (rowOf (keepR rs w q ms) x)+rR W (keepR rs w q ms)=qd (rowOf rs x)+rR W rs - qd (rowOf rs w)+qd ms;rw[gW];by_cases c:x=w
  ·subst c
   rw[z8 rfl]
   have:rR W (keepR rs x q ms)=rR W rs:=by
    have h3:∀z∈W,qd (rowOf (keepR rs x q ms) z)=qd (rowOf rs z):=λz hz=>by rw[gW,z4 (λe:z=x=>h1 (e▸hz))]
    unfold rR;rw[zzy h3]
   omega
  ·rw[z4 c,Ai h2 ((zzb.mp hw).resolve_left λe=>c e.symm)]
   omega
structure StB(W:List Str)(ns:List Int)(dr nm:Bool)(es:List Ent)(k:BkD):Prop where
 r:UG ns W k.rs
 c:∀z,pcs (rowOf k.rs z)=runC es z
 m:∀z,∀l∈rowOf k.rs z,l.2.n∈es.map Ent.num
 s:k.sl.map (λt=>(t.2.d,t.2.w,t.2.pr))=es.filterMap pC
 l:∀t∈k.sl,t.2.lo=none
 a:nm=true->∀z n,pnS ((rowOf k.rs z).map (·.2)) n=HX es z n
 b:rR W k.rs+(k.sl.map λt=>t.2.co).sum=(es.map GR).sum
 q:Prc dr es k.rs k.sl
 d:aeI dr es k.sl
theorem StB.sl{W:List Str}{ns:List Int}{dr nm:Bool}{es:List Ent}{k:BkD}(h:StB W ns dr nm es k):k.sl.length<=es.length:=by
 have:=congrArg List.length h.s;rw[z0]at this;rw[this];exact List.length_filterMap_le _ _
theorem StB.day{W:List Str}{ns:List Int}{dr nm:Bool}{es:List Ent}{k:BkD}{d:Int}(h:StB W ns dr nm es k)(hd:∀x∈es,x.day<=d):∀t∈k.sl,t.2.d<=d:=λt z=>by
 have:(t.2.d,t.2.w,t.2.pr)∈es.filterMap pC:=h.s▸z3.mpr ⟨t,z,rfl⟩;obtain⟨e,he,q⟩:=yyH.mp this;have h2:=hd e he
 cases e with
 |buy=>cases q
 |sell d' n w p r f o=>
  have q:(d',w,p*r - f)=(t.2.d,t.2.w,t.2.pr):=zzq q;have:d'=t.2.d:=congrArg Prod.fst q;rw[<-this];exact h2
structure Can(A:Adr)(H:Hp)(W:List Str)(ns:List Int)(dr nm:Bool)(es:List Ent)(k:BkD)(e:Ent):Prop where
 s:StB W ns dr nm es k
 l:es.length<=60
 nl:ns.length<=61
 u:W.Nodup/\W.length<=50
 g:e.good/\e.ware∈W/\adN e=0
 n:e.num∈ns/\e.num∉es.map Ent.num
 f:abJ (runC es) e
 m:∀z,runC es z<=100000000000
 d:∀x∈es,x.day<=e.day
 o:adO nm (HX es) e
 dn:dr=true->nm=false
 w:∃Cw dw,H k.way=some (.ins Cw dw [])/\Uz A dr Cw
def aeD{q:RL}{rs:Rs}{p:Int}{a:Int->Int}(hu:(q.map (·.2.n)).Nodup)(z:afa rs p)(ha:∀n,pnS (q.map (·.2)) n=a n)(h:∀r∈rs,r.2.2<=a r.2.1):PkS q (rs.map (·.2)) p:=by
 have hu':((q.map (·.2)).map fP.n).Nodup:=by rw[zzj];exact hu
 refine⟨by rw[zzj];exact z.u,λk hk=>?_,by rw[zzj];exact z.s⟩;obtain⟨r,hr,rfl⟩:=z3.mp hk;have h1:=z.b r hr;have h2:=h r hr;rw[<-ha]at h2;by_cases c:r.2.1∈(q.map (·.2)).map fP.n
 ·obtain⟨d,hd,e⟩:=z3.mp c
  obtain⟨l,hl,rfl⟩:=z3.mp hd;rw[<-e,ael hu' hd]at h2;exact⟨l,hl,e,h1.2.2.1,h2⟩
 ·rw[Pj c]at h2
  omega
noncomputable def tG(A:Adr):Sp:=λvs H Q _=>∃(b x:Addr)(W:List Str)(ns:List Int)(dr nm:Bool)(k:BkD)(e:Ent)(es:List Ent),vs=[.ref b,.ref x]/\fV A H b k/\IsE A (lg H (k.M b)) x e/\Can A H W ns dr nm es k e/\
 ∀k' H',fV A H' b k'->Stp (k.M b) (k'.M b) H H'->StB W ns dr nm (es++[e]) k'->k'.way=k.way/\k'.ex=k.ex->Q .non H'
def tK(T:Txt K mg A D):gJ P w K mg base CX0 8 A.ve D.ve ["self", "entry"] (tG A):=by
 refine T.xq.okv sO λ_ _ _ _ H vs Q E hr h=>?_
 ·obtain⟨b,x,W,ns,dr,nm,kb,e,es,rfl,hB,hE,hC,k⟩:=h
  obtain⟨db,hb⟩:=hB.i;refine⟨_,(eY (iC (lU (fH (nU (K:=K)) (by rfl) T.xN (by decide+kernel) (pav 1 (eQ (jB (v:=V.ref A.vC) (by rfl) T.x8 rfl) eV)))) (eY (gj (gY (pv 0) (mc T.yT T.zL (Ga T) hr (Jh T) .nil) iI (pav 1 eV)))) (eY (iC (lU (fH (nU (K:=K)) (by rfl) T.xN (by decide+kernel) (pav 1 (eQ (jB (v:=V.ref A.vO) (by rfl) T.yh rfl) eV)))) (eY (iB)) (eY (iC (lU (fH (nU (K:=K)) (by rfl) T.xN (by decide+kernel) (pav 1 (eQ (jB (v:=V.ref A.vD) (by rfl) T.x9 rfl) eV)))) (eY (gj (gY (pv 0) (mc T.yT T.zM (Ff T) hr (GP T) .nil) iI (pav 1 eV)))) (eY (iC (lU (fH (nU (K:=K)) (by rfl) T.xN (by decide+kernel) (pav 1 (eQ (jB (v:=V.ref A.vP) (by rfl) T.yi rfl) eV)))) (eY (iB)) (eY (iC (lU (fH (nU (K:=K)) (by rfl) T.xN (by decide+kernel) (pav 1 (eQ (jB (v:=V.ref A.vQ) (by rfl) T.yj rfl) eV)))) (eY (iB)) (eY (iC (lU (fH (nU (K:=K)) (by rfl) T.xN (by decide+kernel) (pav 1 (eQ (jB (v:=V.ref A.vR) (by rfl) T.yk rfl) eV)))) (eY (iB)) gn)))))))))))),?_⟩;obtain⟨hg,hw,aq⟩:=hC.g;have hS:=hC.s;have hl:=hC.l;have au:=hS.sl;have hf:=hC.f;have hm:=hC.m;have ac:=hS.day hC.d;obtain⟨dx,nv,hx,ar⟩:=hE.same iR
  have ab:∀{z:Str}{q:Addr}{ms:RL}{y:Str},pcs (rowOf (keepR kb.rs z q ms) y)=if y=z then pcs ms else pcs (rowOf kb.rs y):=fun{z q ms y}=>by
   rw[gW];split<;>rfl
  have fp:∀l:RL,pcs l=((l.map (·.2)).map fP.p).sum:=λl=>by unfold pcs;rw[zzj];rfl
  simp only[start_eq]
  cases e with
  |buy d n w p r f=>
   obtain rfl:f=0:=aq;have hw:w∈W:=hw;refine sc1 rfl (T.yu.of hx) (RT _ _) ?_;walk_at "i"
   have am:n∉(rowOf kb.rs w).map (·.2.n):=λc=>by
    obtain⟨l,hl,e⟩:=z3.mp c;exact hC.n.2 (e▸hS.m w l hl)
   refine md hb hB.me (by rfl) ⟨b,x,kb,ns,W,d,n,w,p,r,0,rfl,hB,hE,hg.2.1.1,hC.n.1,am,hS.r,hC.u.2,hC.nl,λq ms H' o ad g1 g2=>k _ H' ad o ?_ ⟨rfl,rfl⟩⟩;have ak:pcs ms=pcs (rowOf kb.rs w)+p:=by rw[fp,oO (g2.map fP.p),fp];simp
   have an:qd ms=qd (rowOf kb.rs w)+(p*r+0):=by rw[pI,oO (g2.map fP.c),pI];simp
   refine⟨hS.r.keep hw g1,λz=>?_,λz l hl=>?_,?_,hS.l,λaa z m=>?_,?_,hS.q.buy hg.2.1.1 hg.2.2.1.1 g2,hS.d.next (hS.q.buy (q:=q) hg.2.1.1 hg.2.2.1.1 g2) hC.d ac λd _=>rfl⟩
   ·rw[ab,ak,jg,hS.c,hS.c];rfl
   ·rw[zza]
    rw[gW]at hl;split at hl
    ·have:=g2.mem_iff.mp (z3.mpr ⟨l,hl,rfl⟩)
     rcases zzs.mp this with h|h
     ·obtain⟨l',aj,e⟩:=z3.mp h
      exact zz6 _ (e▸hS.m w l' aj)
     ·rw[z9.mp h];exact zzD _ (.head _)
    ·exact zz6 _ (hS.m z l hl)
   ·rw[List.filterMap_append]
    show _=_++[];rw[zz4];exact hS.s
   ·rw[sX]
    show pnS ((rowOf (keepR kb.rs w q ms) z).map (·.2)) m=if z=w/\m=n then HX es z m+p else HX es z m;rw[gW,<-hS.a aa z m];by_cases c:z=w
    ·rw[z8 c]
     subst c;unfold pnS;rw[oO (g2.map _),zza,zz5];show _+((if n=m then p else 0)+0)=_;by_cases c2:m=n
     ·rw[z8 c2.symm,z8 ⟨rfl,c2⟩];omega
     ·rw[z4 (λe=>c2 e.symm),z4 (λe=>c2 e.2)];omega
    ·rw[z4 c,z4 (λe=>c e.1)]
   ·show rR W (keepR kb.rs w q ms)+(kb.sl.map λt=>t.2.co).sum=_
    rw[Ai hC.u.1 hw,an,zza,zz5];have:=hS.b;show _=_+((p*r+0)+0);omega
  |sell d n w p r f o=>
   obtain⟨ap,ag⟩:=T.zZ;have hw:w∈W:=hw;refine sc0 rfl (T.yD.of hx) ap ?_;refine sc0 rfl (T.yD.of hx) ag ?_;refine sc1 rfl (T.yD.of hx) (RT _ _) ?_;walk_at "i";have al:p<=pcs (rowOf kb.rs w):=by rw[hS.c];exact hf
   have ai:pcs (rowOf kb.rs w)<=100000000000:=by rw[hS.c];exact hm w
   have ao:∀rs,o=some rs->PkS (rowOf kb.rs w) (rs.map (·.2)) p:=λrs e=>by
    cases aa:nm with
    |false=>rw[hC.o.2 aa]at e;cases e
    |true=>
     obtain⟨as,e',hr⟩:=hC.o.1 aa;rw[e]at e';cases e';have af:=hg.2.2.2.2;rw[e]at af;exact aeD (hS.r.row w).u af (hS.a aa w) hr
   refine md hb hB.me (by rfl) ⟨b,x,dr,kb,ns,W,d,n,w,p,r,f,o,rfl,hB,hE,⟨hC.w,hS.r,hC.u.2,hC.nl,⟨hg.2.1.1,al,ai⟩,ao⟩,by omega,λy s q l1 ms H' o' ad e1 e2 e3 e4 e5 g1 g2 gG=>k _ H' ad o' ?_ ⟨rfl,rfl⟩⟩;have hP:=hS.q.sell (d:=d) (n:=n) (r:=r) (f:=f) (q:=q) (y:=y) (s:=s) (λhd=>hC.o.2 (hC.dn hd)) gG g1.p e2 e5;refine⟨hS.r.keep hw g1,λz=>?_,λz l hl=>?_,?_,λt ht=>?_,λaa z m=>?_,?_,hP,hS.d.next hP hC.d (λt ht=>?_) λd' ae=>?_⟩
   ·rw[ab,g2,jg,hS.c,hS.c];rfl
   ·rw[zza]
    refine zz6 _ ?_;rw[gW]at hl;split at hl
    ·obtain⟨m,ah,e⟩:=gG.k l hl
     exact e▸hS.m w m ah
    ·exact hS.m z l hl
   ·show(kb.sl++[(y,s)]).map _=_
    rw[zza,List.filterMap_append,hS.s];show _++[(s.d,s.w,s.pr)]=_++[(d,w,p*r - f)];rw[e1,e2,e4]
   ·rcases zzs.mp ht with ht|ht
    ·exact hS.l t ht
    ·rw[z9.mp ht];exact e3
   ·rw[sX]
    obtain⟨rs,rfl,_⟩:=hC.o.1 aa;show pnS ((rowOf (keepR kb.rs w q ms) z).map (·.2)) m=if z=w then HX es z m - lkP (rs.map (·.2)) m else HX es z m;rw[gW,<-hS.a aa z m];by_cases c:z=w
    ·rw[z8 c,z8 c,c]
     exact gG.n rs rfl m
    ·rw[z4 c,z4 c]
   ·show rR W (keepR kb.rs w q ms)+((kb.sl++[(y,s)]).map λt=>t.2.co).sum=_
    rw[Ai hC.u.1 hw,zza,zz5,zza,zz5];show _+(_+(s.co+0))=_+(0+0);have:=hS.b;have:=gG.c;omega
   ·rcases zzs.mp ht with ht|ht
    ·exact ac t ht
    ·rw[z9.mp ht];show s.d<=d;omega
   ·show kj d' (kb.sl++[(y,s)])=_
    have ae:d'<d:=ae;unfold kj;rw[zz1,zzA (by rw[decide_eq_true_eq];show¬s.d<=d';omega),ZH,zz4]
def lX{t u:TS}{D:Ends}{σ:L2.St}{H:Hp}(P:L2.St->Hp->Prop)(h1:∀q H',P q H'->u D q H')(h2:∀N:L2.St->Hp->Prop,(∀q H',P q H'->N q H')->t {D with nx:=N} σ H):aeN t u D σ H:=h2 _ h1
noncomputable def Aft(k:BkD)(e:Ent):Prop:=∀t,k.last=some t->t.2.1<e.day\/(t.2.1=e.day/\t.2.2<e.num)
def afk{a b c d:Int}(h:c<a\/(c=a/\d<b)):HT.lexLe [a,b] [c,d]=false:=by
 unfold HT.lexLe;by_cases e:a=c
 ·rw[z8 e]
  unfold HT.lexLe;rw[z4 (by omega)];exact zzH (by omega)
 ·rw[z4 e]
  exact zzH (by omega)
def WL(k:BkD)(l:Option (Addr×Int×Int)):Az (Str.ofString "last_place") (OJ l) k.fs={k with last:=l}.fs:=by cases k;rfl
def acn(A:Adr)(e:Ent):∃q,q e=true/\(e.cls A,Vk A q)∈[(A.vC,Vk A Sg),(A.vD,Vk A Ip)]:=by
 cases e with
 |buy=>exact⟨Sg,rfl,zzp (i:=0) rfl⟩
 |sell=>exact⟨Ip,rfl,zzp (i:=1) rfl⟩
def acY{e:Ent}{q:List (Key×V)}(h:abJ (iZ q) e):e.beh q≠none:=by
 cases e with
 |buy=>exact λc=>by cases c
 |sell d n w p r f o=>
  have h:p<=iZ q w:=h;rw[Ent.beh,z4 (by omega)];exact λc=>by cases c
noncomputable def Tp(A:Adr):Sp:=λvs H Q _=>∃(b x:Addr)(W:List Str)(ns:List Int)(dr nm:Bool)(k:BkD)(e:Ent)(es:List Ent),vs=[.ref b,.ref x]/\fV A H b k/\IsE A (lg H (k.M b)) x e/\Can A H W ns dr nm es k e/\Aft k e/\
 ∀k' t H',fV A H' b k'->Stp (k.M b) (k'.M b) H H'->StB W ns dr nm (es++[e]) k'->k'.way=k.way/\k'.ex=k.ex->k'.last=some (t,e.day,e.num)->Q .non H'
def Ut(T:Txt K mg A D):gJ P w K mg base CX0 9 A.vo D.vo ["self", "entry"] (Tp A):=by
 refine T.xz.okv SJ λ_ _ _ _ H vs Q E hr h=>?_
 ·obtain⟨b,x,W,ns,dr,nm,kb,e,es,rfl,hB,hx,hC,hA,k⟩:=h
  obtain⟨db,hb⟩:=hB.i;have hc:=Ik T hB;have af:=hx.same iR
  refine ⟨_,(eU (iC (PW.pt (Lx (fK (XS) (fv K 0) jx (fX _)) (DG (fK ((abX (K:=K) hr)) (pcg (rC T) hr T.wI (tL T) (pav 1 eV)) (fv K 0) (fX _))))) (eY (iB)) gn)
   (eU (iC (fK (sI) (gY (pv 1) (mc T.yt T.zO (rZ T) hr (Aq T) (mc T.yC T.zP (rA T) hr (rP T) .nil)) iI (eQ (jj (pv 0) (mc T.yT T.zQ (Be T) hr (FN T) .nil) iI) eV)) jx (fX _)) (eY (iB)) gn)
   (eU (gj (gY (pv 0) (mc T.yT T.zN (tK T) hr (tM T) .nil) iI (pav 1 eV)))
   (eY (gw (K:=K) (pv 0) (pcg (rC T) hr T.wI (tL T) (pav 1 eV)) rfl))))),?_⟩
  simp only[start_eq];refine lX (λσ' H'=>σ'=[some (.ref b),some (.ref x)]/\Same H H') ?_ ?_
  ·rintro σ1 H1 ⟨rfl,s1⟩
   refine lX (λσ' H'=>σ'=[some (.ref b),some (.ref x)]/\Same H H') ?_ ?_
   ·rintro σ2 H2 ⟨rfl,s2⟩
    have ac:=hB.same s2;have ag:=hx.same (lY s2).same;obtain⟨ax,al⟩:=ac.i;have aq:Can A H2 W ns dr nm es kb e:=⟨hC.s,hC.l,hC.nl,hC.u,hC.g,hC.n,hC.f,hC.m,hC.d,hC.o,hC.dn,let⟨Cw,dw,h1,h2⟩:=hC.w;⟨Cw,dw,s2 _ _ h1,h2⟩⟩;walk_at "m";refine md al ac.me (by rfl) ⟨b,x,W,ns,dr,nm,kb,e,es,rfl,ac,ag,aq,λk3 H3 ao o3 q w3=>?_⟩;have ar:=(ag.same o3.same).same iR
    try dsimp only
    refine⟨x,e,rfl,ar,λt ht=>?_⟩;have s4:=eZ (o:=.tup [V.int e.day,V.int e.num]) ht;have aa:=ao.same s4;have ai:(upd H3 t (.tup [V.int e.day,V.int e.num])) t=some (.tup [V.int e.day,V.int e.num]):=eX;generalize upd H3 t (.tup [V.int e.day,V.int e.num])=H4 at s4 aa ai⊢;obtain⟨au,ap⟩:=aa.i;have ad:=Ik T aa;refine sw ap ad.c ad.l (abA _) (?_);rw[show V.ref t=OJ (some (t,e.day,e.num))from rfl,WL];exact k _ t _ (aa.put (la:=some (t,e.day,e.num)) (pa:=k3.paid) (br:=k3.brought) λu hu=>by cases hu;exact aa.tup ai) ((lY s2).trans (o3.trans ((lY s4).trans (qb BkD.mb)))) ⟨q.r,q.c,q.m,q.s,q.l,q.a,q.b,q.q,q.d⟩ w3 rfl
   ·intro N hN
    have ab:=hB.same s1;obtain⟨aw,as⟩:=ab.i;obtain⟨dx,nv,aj,an⟩:=af.same s1;walk_at "i";obtain⟨av,hk,ah⟩:=acn A e;have hS:=hC.s;refine md aj ah (by cases e<;>rfl) (md as ab.me (by rfl) ⟨b,kb,ns,W,rfl,ab,hS.r,hC.u.2,hC.nl,λp kv H2 s2 hp ak hH hl hv=>?_⟩);have ae:abJ (iZ kv) e:=by rw[show iZ kv=runC es from funext λz=>(hv z).trans (hS.c z)];exact hC.f
    refine⟨x,p,e,kv,hk,rfl,⟨dx,nv,s2 _ _ aj,an.same s2⟩,hC.g.1,.inl ak,hH,by omega,λc=>(acY ae c).elim,λkv2 _ p2 H3 s3 _ _=>?_⟩;show(if V.ref p2=V.non then _ else _);rw[z4 (λc=>by cases c)];exact hN _ _ ⟨rfl,s1.trans (s2.trans s3)⟩
  ·intro N hN
   walk_at "i";refine rd hb hc.c hc.l (v:=OJ kb.last) (by rfl) (?_)
   cases hl:kb.last with
   |none=>
    rw[z4 (by simp[OJ])];exact hN _ _ ⟨rfl,same_refl _⟩
   |some t=>
    rw[z8 (by simp[OJ])];refine⟨x,e,rfl,af,λt1 am=>?_⟩;have s1:=eZ (o:=.tup [V.int e.day,V.int e.num]) am;refine rd (s1 _ _ hb) hc.c hc.l (v:=OJ kb.last) (by rfl) (?_);rw[hl];refine⟨t1,t.1,[e.day,e.num],[t.2.1,t.2.2],rfl,rfl,gM eX,gM (s1 _ _ (hB.frz.p t hl)),_,rfl,?_⟩;rw[afk (hA t hl),z4 (by decide)];exact hN _ _ ⟨rfl,s1⟩
structure Ini(B H:Hp)(x C dx:Addr)(fs:List (Str×V))(os:List (Addr×HO)):Prop where
 n:New B H x C dx fs
 o:∀p∈os,p.1≠x/\B p.1=none/\H p.1=some p.2
 u:os.Pairwise λp q=>p.1≠q.1
theorem Ini.put{B H:Hp}{x C dx:Addr}{fs:List (Str×V)}{os:List (Addr×HO)}(h:Ini B H x C dx fs os)(gs:List (Str×V)):Ini B (upd H x (.ins C dx gs)) x C dx gs os:=⟨h.n.put rfl,λp q=>let⟨a,b,c⟩:=h.o p q;⟨a,b,(fC a).trans c⟩,h.u⟩
def Ini.new{B H:Hp}{x C dx q:Addr}{o:HO}{fs:List (Str×V)}{os:List (Addr×HO)}(h:Ini B H x C dx fs os)(hq:H q=none):Ini B (upd H q o) x C dx fs ((q,o)::os):=by
 have s:=eZ (o:=o) hq;refine⟨h.n.same s,λp z=>?_,yyY.mpr ⟨λp z e=>?_,h.u⟩⟩
 ·rcases zzb.mp z with rfl|z
  ·exact⟨λe=>(by have:=h.n.h;rw[<-show q=x from e,hq]at this;cases this),h.n.s.free hq,eX⟩
  ·obtain⟨a,b,c⟩:=h.o p z
   exact⟨a,b,s _ _ c⟩
 ·have:=(h.o p z).2.2
  rw[<-show q=p.1 from e,hq]at this;cases this
noncomputable def k0(L:List Addr)(w pr ps pg:Addr):BkD:=⟨w,pr,ps,pg,[],none,0,0,[],L⟩
noncomputable def os0(pr ps pg:Addr):List (Addr×HO):=[(pg,.lst []),(ps,.lst []),(pr,.dK [])]
noncomputable def BJ(K:Fg_):Sp:=λvs H Q _=>∃(x w:Addr)(B:Hp)(C dx:Addr),vs=[.ref x,.ref w]/\New B H x C dx []/\CB K C/\∀pr ps pg H',Ini B H' x C dx (k0 [] w pr ps pg).fs (os0 pr ps pg)->Q .non H'
def Bm(T:Txt K mg A D):gJ P w K mg base CX0 1 A.vq D.vq ["self", "way"] (BJ K):=by
 refine T.xB.okv BX λ_ _ _ _ H vs Q E hr h=>?_
 ·obtain⟨x,w,B,C,dx,rfl,hN,z,k⟩:=h
  refine ⟨_,(eU (gw (K:=K) (pv 0) (pvD 1) rfl)
   (eU (gw (K:=K) (pv 0) nZ rfl)
   (eU (gw (K:=K) (pv 0) jx rfl)
   (eU (gw (K:=K) (pv 0) fB rfl)
   (eU (gw (K:=K) (pv 0) fB rfl)
   (eU (gw (K:=K) (pv 0) (jc eV) rfl)
   (eY (gw (K:=K) (pv 0) (jc eV) rfl)))))))),?_⟩
  have q:Ini B H x C dx [] []:=⟨hN,λp h=>(zzd h).elim,.nil⟩;clear hN;simp only[start_eq];refine gA λu hu=>?_;rw[ap_seq];walk_at "i";refine sw q.n.h z.c z.w (by decide) ?_;rw[qj _ _ (by decide+kernel)];have q:=q.put ([]++[(Str.ofString "way",V.ref w)]);generalize upd H x _=H1 at q⊢;subst hu
  try dsimp only
  refine gA λu hu=>?_;rw[ap_seq];walk_at "i";intro pr aa;have q:=q.new (o:=.dK []) aa;generalize upd H1 pr _=H1a at q⊢;refine sw q.n.h z.c z.r (by simp) ?_;rw[iV (f:=Str.ofString "rows") ["way"]];have q:=q.put (([]++[(Str.ofString "way",V.ref w)])++[(Str.ofString "rows",V.ref pr)]);generalize upd H1a x _=H2 at q⊢;subst hu
  try dsimp only
  refine gA λu hu=>?_;rw[ap_seq];walk_at "i";refine sw q.n.h z.c z.l (by simp) ?_;rw[iV (f:=Str.ofString "last_place") ["way", "rows"]];have q:=q.put ((([]++[(Str.ofString "way",V.ref w)])++[(Str.ofString "rows",V.ref pr)])++[(Str.ofString "last_place",V.non)]);generalize upd H2 x _=H3 at q⊢;subst hu
  try dsimp only
  refine gA λu hu=>?_;rw[ap_seq];walk_at "i";refine sw q.n.h z.c z.p (by simp) ?_;rw[iV (f:=Str.ofString "paid") ["way", "rows", "last_place"]];have q:=q.put (((([]++[(Str.ofString "way",V.ref w)])++[(Str.ofString "rows",V.ref pr)])++[(Str.ofString "last_place",V.non)])++[(Str.ofString "paid",V.int 0)]);generalize upd H3 x _=H4 at q⊢;subst hu
  try dsimp only
  refine gA λu hu=>?_;rw[ap_seq];walk_at "i";refine sw q.n.h z.c z.b (by simp) ?_;rw[iV (f:=Str.ofString "brought") ["way", "rows", "last_place", "paid"]];have q:=q.put ((((([]++[(Str.ofString "way",V.ref w)])++[(Str.ofString "rows",V.ref pr)])++[(Str.ofString "last_place",V.non)])++[(Str.ofString "paid",V.int 0)])++[(Str.ofString "brought",V.int 0)]);generalize upd H4 x _=H5 at q⊢;subst hu
  try dsimp only
  refine gA λu hu=>?_;rw[ap_seq];walk_at "i";refine⟨sz,λps ab=>?_⟩;have q:=q.new (o:=.lst []) ab;generalize upd H5 ps _=H5a at q⊢;refine sw q.n.h z.c z.s (by simp) ?_;rw[iV (f:=Str.ofString "sales_done") ["way", "rows", "last_place", "paid", "brought"]];have q:=q.put (((((([]++[(Str.ofString "way",V.ref w)])++[(Str.ofString "rows",V.ref pr)])++[(Str.ofString "last_place",V.non)])++[(Str.ofString "paid",V.int 0)])++[(Str.ofString "brought",V.int 0)])++[(Str.ofString "sales_done",V.ref ps)]);generalize upd H5a x _=H6 at q⊢;subst hu
  try dsimp only
  walk_at "i";refine⟨sz,λpg ac=>?_⟩;have q:=q.new (o:=.lst []) ac;generalize upd H6 pg _=H6a at q⊢;refine sw q.n.h z.c z.g (by simp) ?_;rw[iV (f:=Str.ofString "givings_done") ["way", "rows", "last_place", "paid", "brought", "sales_done"]];exact k pr ps pg _ (q.put _)
def afE{B H:Hp}{x dx w pr ps pg:Addr}{L:List Addr}(hL:∀m∈L,∃xs,B m=some (.lst xs))(h:Ini B H x A.vF dx (k0 [] w pr ps pg).fs (os0 pr ps pg)):fV A H x (k0 L w pr ps pg)/\∀m∈((k0 L w pr ps pg).M x).take 3,B m=none:=by
 have m2:(ps,HO.lst [])∈os0 pr ps pg:=zzp (i:=1) rfl;have m3:(pr,HO.dK [])∈os0 pr ps pg:=zzp (i:=2) rfl;refine⟨⟨⟨dx,h.n.h⟩,(h.o _ m3).2.2,(h.o _ m2).2.2,⟨λt z=>(zzd z).elim,λt z=>(by cases z),λt z=>(zzd z).elim⟩,λm hm=>(hL m hm).imp λ_ q=>h.n.s _ _ q⟩,λm hm=>?_⟩;have hm:m∈[x,pr,ps]:=hm;rcases zzb.mp hm with rfl|c
 ·exact h.n.n
 rcases zzb.mp c with rfl|c
 ·exact(h.o _ m3).2.1
 ·rw[z9.mp c]
  exact(h.o _ m2).2.1
def Wi{B H:Hp}{M:List Addr}(s:Same B H)(hm:∀m∈M,B m=none):Same B (lg H M):=λa o e=>jf (s a o e) λc=>by rw[hm a c]at e;cases e
def nG.same'{H H':Hp}{es:EL}(h:nG A H es)(s:Same H H'):nG A H' es:=λr q=>(h r q).same s
structure His(W:List Str)(nm:Bool)(es:List Ent):Prop where
 g:∀e∈es,e.good/\e.ware∈W/\adN e=0
 f:∀(i:Nat) e,es[i]? =some e->abJ (runC (es.take i)) e
 m:∀(i:Nat) z,runC (es.take i) z<=100000000000
 o:∀(i:Nat) e,es[i]? =some e->adO nm (HX (es.take i)) e
 b:es.Pairwise BfE
 l:es.length<=60
 n:(es.map Ent.num).Nodup
 u:W.Nodup/\W.length<=50
def st0{W:List Str}{ns:List Int}{dr nm:Bool}{L:List Addr}{w pr ps pg:Addr}:StB W ns dr nm [] (k0 L w pr ps pg):=by
 refine⟨⟨.nil,λt h=>(zzd h).elim,λt h=>(zzd h).elim⟩,λz=>rfl,λz l h=>(zzd h).elim,rfl,λt h=>(zzd h).elim,λ_ z n=>rfl,?_,afD,afC⟩;show rR W []+0=0;rw[yyo];unfold rR
 induction W with
 |nil=>rfl
 |cons x W ih=>rw[z6,zzr,ih];rfl
noncomputable def Py(A:Adr):Sp:=λvs H Q _=>∃(L:List Addr)(b q w pr ps pg:Addr)(W:List Str)(dr nm:Bool)(es:EL)(hs:List Ent),vs=[.ref b,.ref q]/\fV A H b (k0 L w pr ps pg)/\(∃Cw dw,lg H ((k0 L w pr ps pg).M b) w=some (.ins Cw dw [])/\Uz A dr Cw)/\H q=some (.lst (iz es))/\nG A (lg H ((k0 L w pr ps pg).M b)) es/\His W nm hs/\(es.map (·.2)).Perm hs/\(dr=true->nm=false)/\
 ∀k' H',fV A H' b k'->Stp ((k0 L w pr ps pg).M b) (k'.M b) H H'->StB W (hs.map Ent.num) dr nm hs k'->k'.ex=L->Q (.ref b) H'
def Bl(T:Txt K mg A D):gJ P w K mg base CX0 10 A.vp D.vp ["book", "entries"] (Py A):=by
 refine T.xA.F.okv oY λ_ _ _ _ H vs Q E hr h=>?_
 ·obtain⟨L,b,q,w,pr,ps,pg,W,dr,nm,es,z,rfl,hB,hw,hq,hE,hH,ag,aq,k⟩:=h
  refine ⟨_,(eU (kE zzM rfl (oK (K:=K) (pcg (Pa T) hr T.wJ (Sv T) (pav 1 eV))) (fG (i:=2) oY.nd rfl orl)
    (eY (gj (gY (pv 0) (mc T.yT T.zR (Ut T) hr (Xq T) .nil) iI (pav 2 eV)))))
   (eY (fJ (pvD 0)))),?_⟩
  simp only[start_eq];rw[ap_seq,ap_for];walk_at "i";have az:es.length=z.length:=by have:=ag.length_eq;rwa [z0]at this
  have hb:=hH.b;have hl:=hH.l;refine⟨q,es,rfl,hq,hE.same' iR,by omega,?_,λp ab H1 s1 hp h1 af ao=>?_⟩
  ·have:=(ag.map Ent.num).nodup_iff.mpr hH.n
   rwa [zzj]at this
  have ah:ab.map (·.2)=z:=adV ((af.map (·.2)).trans ag) ao hb;have ax:nG A (lg H1 ((k0 L w pr ps pg).M b)) ab:=λr hr=>(hE r (af.mem_iff.mp hr)).same (lY s1).same;have ap:=hB.same s1;refine⟨p,rfl,⟨_,fj h1⟩,?_⟩
  refine mZ (K:=K) (a:=p) (xs:=iz ab) (λi σ H2=>∃(k2:BkD)(v2:Option V),σ=[some (.ref b),some (.ref q),v2]/\fV A H2 b k2/\Stp ((k0 L w pr ps pg).M b) (k2.M b) H1 H2/\StB W (z.map Ent.num) dr nm (z.take i) k2/\(k2.way=w/\k2.ex=L)/\∀t,k2.last=some t->∃e∈z.take i,t.2.1=e.day/\t.2.2=e.num)
   ⟨_,_,rfl,ap,lY (same_refl _),st0,⟨rfl,rfl⟩,λt ht=>by cases ht⟩ (λi σ H2 _ ⟨k2,_,_,_,o2,_⟩=>fj (o2.k p _ (λc=>hB.fresh hp (yyz c)) h1)) ?_ ?_
  ·rintro i y σ H2 hi ⟨k2,v2,rfl,ad,o2,ae,w2,ac⟩
   obtain⟨r,ai,rfl⟩:=Ky hi;have au:=zzp ai;have ay:i<ab.length:=(zzm.mp ai).1;have aa:z[i]? =some r.2:=by rw[<-ah,zzl,ai];rfl
   have hln':ab.length=z.length:=by rw[<-ah,z0]
   have hil':i<z.length:=by omega
   have ak:z[i]=r.2:=by rw[zzg hil']at aa;exact zzq aa
   have aw:=(ax r au).same o2.same;obtain⟨ba,an⟩:=ad.i;have htk:z.take (i+1)=z.take i++[r.2]:=by rw[zzO,aa];rfl
   have h5:∀e∈z.take i,BfE e r.2:=λe he=>by
    have h4:=hb;rw[<-zzN i z]at h4;exact(yyf.mp h4).2.2 e he r.2 (by rw[yyu hil',ak];exact zze)
   have as:r.2.num∉(z.take i).map Ent.num:=λc=>by
    have h4:=hH.n;rw[<-zzN i z,zza]at h4;exact(zzS.mp h4).2.2 _ c r.2.num (z3.mpr ⟨r.2,by rw[yyu hil',ak];exact zze,rfl⟩) rfl
   have aj:Can A H2 W (z.map Ent.num) dr nm (z.take i) k2 r.2:=⟨ae,by rw[zzR];omega,by rw[z0];omega,hH.u,hH.g r.2 (zzp aa),⟨z3.mpr ⟨_,zzp aa,rfl⟩,as⟩,hH.f i _ aa,hH.m i,λx hx=>by have:=h5 x hx;unfold BfE at this;omega,hH.o i _ aa,aq,let⟨Cw,dw,g1,g2⟩:=hw;⟨Cw,dw,by rw[w2.1];exact iR _ _ (o2.same _ _ ((lY s1).same _ _ g1)),g2⟩⟩
   have al:Aft k2 r.2:=λt ht=>by
    obtain⟨e,he,ed,en⟩:=ac t ht;rw[ed,en];exact h5 e he
   walk_at "i";refine md an ad.me (by rfl) ⟨b,r.1,W,_,dr,nm,k2,r.2,_,rfl,ad,aw,aj,al,λk3 t H3 av o3 am w3 ar=>?_⟩;refine⟨k3,av,o2.trans o3,htk▸am,w3.1.trans w2.1,w3.2.trans w2.2,λu hu=>?_⟩;rw[ar]at hu;cases hu;exact⟨r.2,by rw[htk];exact zzs.mpr (.inr (by simp)),rfl,rfl⟩
  ·rintro σ H2 ⟨k2,v2,rfl,ad,o2,ae,w2,ac⟩
   rw[gH,show ab.length=z.length by rw[<-ah,z0],yyb]at ae;walk_at "a";exact k k2 H2 ad ((lY s1).trans o2) ae w2.2
def YD{B H:Hp}{b r s:Addr}{L:List Addr}(t:Same B H)(hm:∀m∈[b,r,s],B m=none):Same (lg B L) (lg H (b::r::s::L)):=λa o e=>by
 unfold lg at e;split at e
 ·cases e
 ·next n=>
  refine jf (t a o e) λc=>?_;have:a∈[b,r,s]\/a∈L:=zzs.mp (show a∈[b,r,s]++L from c);rcases this with c|c
  ·rw[hm a c]at e;cases e
  ·exact n c
noncomputable def Uq(A:Adr):Sp:=λvs H Q _=>∃(L:List Addr)(w q:Addr)(W:List Str)(dr nm:Bool)(es:EL)(hs:List Ent),vs=[.ref w,.ref q]/\(∃Cw dw,H w=some (.ins Cw dw [])/\Uz A dr Cw)/\(∀m∈L,∃xs,H m=some (.lst xs))/\H q=some (.lst (iz es))/\nG A (lg H L) es/\His W nm hs/\(es.map (·.2)).Perm hs/\(dr=true->nm=false)/\
 ∀b k H',Same H H'->fV A H' b k->(∀m∈(k.M b).take 3,H m=none)->StB W (hs.map Ent.num) dr nm hs k->k.ex=L->Q (.ref b) H'
def tY(T:Txt K mg A D):gJ P w K mg base CX0 11 A.vv D.vv ["way", "entries"] (Uq A):=by
 refine T.xC.F.okv SM λ_ _ _ _ H vs Q E hr h=>?_
 ·obtain⟨L,w,q,W,dr,nm,es,hs,rfl,⟨Cw,dw,w1,w2⟩,z,hq,hE,hH,ab,ac,k⟩:=h
  refine⟨_,(eY (fJ (pcg (Bl T) hr T.xA (Eb T) (eQ (lC T.zj (Bm (K:=K) T) (hr.mono (by decide)) (by rfl) T.yb (Fl T) .nil iI (pav 0 eV)) (pav 1 eV))))),?_⟩;walk_at "a";intro b db hb aa _;have hN:=pJ (C:=A.vF) hb aa;refine⟨b,w,H,A.vF,db,rfl,hN,⟨T.yT,T.yU,T.yV,T.yW,T.yX,T.yY,T.yZ,T.y3⟩,λpr ps pg H1 hI=>⟨rfl,?_⟩⟩;obtain⟨hB,hm⟩:=afE (A:=A) z hI;have s1:=hI.n.s;have ad:∀m∈[b,pr,ps],H m=none:=hm;have s2:=YD (L:=L) s1 ad;have wL:w∉L:=λc=>by obtain⟨xs,e⟩:=z w c;rw[w1]at e;cases e
  refine⟨L,b,q,w,pr,ps,pg,W,dr,nm,es,hs,rfl,hB,⟨Cw,dw,s2 _ _ (jf w1 wL),w2⟩,s1 _ _ hq,hE.same' s2,hH,ab,ac,λk2 H2 ag o2 af ae=>?_⟩;exact k b k2 H2 (λa u e=>o2.k a u (λc=>by rw[hm a c]at e;cases e) (s1 _ _ e)) ag (λm c=>(o2.g m c).elim (hm m) λe=>s1.free e) af ae
noncomputable def oW{α:Type}(P:α->V->Prop):List α->List V->Prop
 |[],[]=>True
 |y::ys,v::vs=>P y v/\oW P ys vs
 |[],_::_=>False
 |_::_,[]=>False
theorem oW.snoc{α:Type}{P:α->V->Prop}:∀{ys:List α}{vs:List V}{y:α}{v:V},oW P ys vs->P y v->oW P (ys++[y]) (vs++[v])
 |[],[],_,_,_,p=>⟨p,trivial⟩
 |_::_,_::_,_,_,h,p=>⟨h.1,oW.snoc h.2 p⟩
 |[],_::_,_,_,h,_=>h.elim
 |_::_,[],_,_,h,_=>h.elim
theorem oW.imp{α:Type}{P R:α->V->Prop}:∀{ys:List α}{vs:List V},oW P ys vs->(∀y v,P y v->R y v)->oW R ys vs
 |[],[],_,_=>trivial
 |_::_,_::_,h,f=>⟨f _ _ h.1,oW.imp h.2 f⟩
 |[],_::_,h,_=>h.elim
 |_::_,[],h,_=>h.elim
theorem oW.len{α:Type}{P:α->V->Prop}:∀{ys:List α}{vs:List V},oW P ys vs->vs.length=ys.length
 |[],[],_=>rfl
 |_::_,_::_,h=>congrArg (·+1) (oW.len h.2)
 |[],_::_,h=>h.elim
 |_::_,[],h=>h.elim
theorem oW.map{α:Type}{f:α->V}:∀{ys:List α}{vs:List V},oW (λy v=>v=f y) ys vs->vs=ys.map f
 |[],[],_=>rfl
 |_::_,_::_,h=>by rw[z6,<-oW.map h.2,h.1]
 |[],_::_,h=>h.elim
 |_::_,[],h=>h.elim
def oW.ints{α:Type}{f:α->Int}{ys:List α}{vs:List V}(h:oW (λy v=>v=.int (f y)) ys vs):vs=(ys.map f).map V.int:=by rw[oW.map h,zzj];rfl
def filter_all{α:Type}(l:List α):l.filter (λ_=>true)=l:=yys.mpr λ_ _=>rfl
def aaq{α:Type}{f:α->V}{ys:List α}{a:Addr}{cap:List (Option Nat)}{g:TG}{tt:TT}{te:TE}{σ:L2.St}{H:Hp}{Q:VK}(Sσ:L2.St->Prop)(ab:α->Bool)(F:Addr->α->V->Hp->Prop)(hS:SqL K H a (ys.map f))(h0:Sσ (nA σ cap))(hz:ys.length<=100000)
  (hs:∀D y,y∈ys->∀(σ:L2.St)(H5:Hp)(R1:L2.St->VK)(R2:L2.St->Hp->Prop),Sσ σ->Same H H5->H D=none->(∃acc,H5 D=some (.lst acc))->(ab y=true->∀v z H6,Sσ z->Same H5 H6->(∀H',But D H6 H'->F D y v H')->R1 z v H6)->(ab y=false->∀z H6,Sσ z->Same H5 H6->R2 z H6)->g (f y) σ H5 λz H4=>tt z H4 λb H5=>if b=true then te z H5 (R1 z)else R2 z H5)
  (k:∀D H' acc,H D=none->Same H H'->H' D=some (.lst acc)->oW (λy v=>F D y v H') (ys.filter ab) acc->Q (.ref D) H'):iK cap (Itl K a) g tt te σ H Q:=by
 intro D hD;have hz':ys.length<=sizeLine:=by rw[zzk];omega
 refine⟨λi m acc σ H2=>m=ys.length - i/\i<=ys.length/\Sσ σ/\Same H H2/\acc.length<=i/\oW (λy v=>∀H',But D H2 H'->F D y v H') ((ys.take i).filter ab) acc,⟨ys.length,rfl,zzB _,h0,eZ hD,zzB _,trivial⟩,?_⟩;rintro i m acc σ1 H2 ⟨rfl,hi,hσ,sm,ae,hF⟩ hA;by_cases aa:i<ys.length
 ·have hx:(ys.map f)[i]? =some (f ys[i]):=by simp[aa]
  refine .inr ⟨⟨ys.map f,f ys[i],sm.seq hS,hx⟩,λy H3 hy=>?_⟩;obtain rfl:H3=H2:=hy.1;obtain rfl:y=f ys[i]:=zzq ((hy.2 _ (sm.seq hS)).symm.trans hx);have htk:ys.take (i+1)=ys.take i++[ys[i]]:=by rw[zzO,zzg aa];rfl
  refine hs D ys[i] (yya aa) σ1 H3 _ _ hσ sm hD ⟨_,hA⟩ (λhf v z H6 ac s6 ad=>?_) λhf z H6 ac s6=>?_
  ·refine⟨acc,s6 _ _ hA,by omega,ys.length - (i+1),by omega,rfl,aa,ac,(sm.trans s6).upd hD,by rw[zzt];show acc.length+1<=_;omega,?_⟩
   rw[htk,zz1,zzE hf];exact oW.snoc (oW.imp hF λy v h H' hb=>h H' λb o q e=>hb b o q ((fC q).trans (s6 _ _ e))) λH' hb=>ad H' λb o q e=>hb b o q ((fC q).trans e)
  ·refine⟨ys.length - (i+1),by omega,acc,s6 _ _ hA,rfl,aa,ac,sm.trans s6,by omega,?_⟩
   rw[htk,zz1,zzA (by rw[hf];decide),ZH,zz4];exact oW.imp hF λy v h H' hb=>h H' λb o q e=>hb b o q (s6 _ _ e)
 ·obtain rfl:i=ys.length:=by omega
  rw[yyb]at hF;exact .inl ⟨⟨_,sm.seq hS,by rw[z0];exact zzc _⟩,k D H2 acc hD sm hA (oW.imp hF λy v h=>h H2 λb o _ e=>e)⟩
def Nj{α:Type}{f:α->V}{ys:List α}{a:Addr}{cap:List (Option Nat)}{g:TG}{te:TE}{σ:L2.St}{H:Hp}{Q:VK}(Sσ:L2.St->Prop)(F:Addr->α->V->Hp->Prop)(hS:SqL K H a (ys.map f))(h0:Sσ (nA σ cap))(hz:ys.length<=100000)
  (hs:∀D y,y∈ys->∀(σ:L2.St)(q:Hp)(R:L2.St->VK),Sσ σ->Same H q->H D=none->(∃acc,q D=some (.lst acc))->(∀v z H6,Sσ z->Same q H6->(∀H',But D H6 H'->F D y v H')->R z v H6)->g (f y) σ q λz H4=>te z H4 (R z))
  (k:∀D H' acc,H D=none->Same H H'->H' D=some (.lst acc)->oW (λy v=>F D y v H') ys acc->Q (.ref D) H'):iK cap (Itl K a) g Tv te σ H Q:=
 aaq Sσ (λ_=>true) F hS h0 hz (λD y hy σ5 q R1 R2 hσ sm hD hA k1 k2=>by
  simp only[ap_noIf,if_true];exact hs D y hy σ5 q R1 hσ sm hD hA (k1 rfl)) λD H' acc hD sm hA hF=>k D H' acc hD sm hA (by rw[filter_all]at hF;exact hF)
noncomputable def jl.core(s:jl):Int×Int×Str×Int×SP5:=(s.n,s.d,s.w,s.pr,s.ps)
noncomputable def jl.dat(s:jl):(Int×Int×Str×Int×SP5)×Option Int:=(s.core,s.lo)
def jF.but{H H':Hp}{D x:Addr}{s:jl}{xs:List V}(h:jF A H x s)(q:H D=some (.lst xs))(z:s.pl≠D)(b:But D H H'):jF A H' x s:=by
 obtain⟨dx,hi⟩:=h.i;refine⟨⟨dx,b _ _ (λe=>by rw[e,q]at hi;cases hi) hi⟩,b _ _ z h.p,λr hr=>?_,h.l⟩;have h1:=h.t r hr;exact b _ _ (λe=>by rw[e,q]at h1;cases h1) h1
theorem abz{H0 H:Hp}:∀{sl:List (Addr×jl)}{acc:List V},oW (λt v=>∃y s,v=.ref y/\(jF A H y s/\H0 s.pl=none)/\s.dat=t.2.dat) sl acc->∃q:List (Addr×jl),acc=Gw q/\q.map (λt=>t.2.dat)=sl.map (λt=>t.2.dat)/\∀t∈q,jF A H t.1 t.2/\H0 t.2.pl=none
 |[],[],_=>⟨[],rfl,rfl,λt h=>(zzd h).elim⟩
 |t::sl,v::acc,h=>by
  obtain⟨⟨y,s,rfl,hs,hc⟩,h2⟩:=h;obtain⟨q,e1,e2,e3⟩:=abz h2;refine⟨(y,s)::q,by rw[e1];rfl,by rw[z6,e2,hc];rfl,λu z=>?_⟩;rcases zzb.mp z with rfl|z
  ·exact hs
  ·exact e3 u z
 |[],_::_,h=>h.elim
 |_::_,[],h=>h.elim
noncomputable def Jg(A:Adr):Sp:=λvs H Q _=>∃(b:Addr)(k:BkD),vs=[.ref b]/\fV A H b k/\k.sl.length<=100/\∀l sl H',Same H H'->H l=none->H' l=some (.lst (Gw sl))->(∀t∈sl,jF A H' t.1 t.2/\H t.2.pl=none)->sl.map (λt=>t.2.dat)=k.sl.map (λt=>t.2.dat)->Q (.ref l) H'
def JB(T:Txt K mg A D):gJ P w K mg base CX0 4 A.uv D.uv ["self"] (Jg A):=by
 refine T.wy.okv Jq λ_ _ _ _ H vs Q E hr h=>?_
 ·obtain⟨b,kb,rfl,z,hl,k⟩:=h
  refine⟨_,(eY (fJ (gF (cap:=[none]) (N':=["sale"]) rfl (by walk_at "c") (oK (K:=K) (fv K 0)) (λ_ _ _ _=>(fG (i:=0) nd1 rfl orl orr)) (λ_ _ _ _=>gQ) (λ_ _ _ _=>(pcg (Ew T) hr T.ww (Gf T) (pav 0 eV)))))),?_⟩;walk_at "a";obtain⟨dx,hb⟩:=z.i;have hC:=Ik T z;refine rd hb hC.c hC.s (by rfl) ⟨kb.sales,rfl,⟨_,fj z.s⟩,?_⟩;refine Nj (f:=λt:Addr×jl=>V.ref t.1) (λσ=>∃a,σ=[a]) (λ_ t v H'=>∃y s,v=.ref y/\(jF A H' y s/\H s.pl=none)/\s.dat=t.2.dat) (fj z.s) ⟨_,rfl⟩ (by omega) ?_ ?_
  ·rintro Da t ht σ H5 R ⟨_,rfl⟩ sm hD ⟨acc,hA⟩ kk
   walk_at "i";exact⟨t.1,t.2,rfl,(z.frz.s t ht).same sm,λy pl H6 s6 hy q hS=>kk (.ref y) _ H6 ⟨_,rfl⟩ s6 λH' hb=>⟨y,_,rfl,⟨hS.but (s6 _ _ hA) (λe=>by rw[show pl=Da from e,hA]at q;cases q) hb,sm.free q⟩,rfl⟩⟩
  ·intro Da H' acc hD sm hA hF
   obtain⟨sl,e1,e2,e3⟩:=abz hF;exact k Da sl H' sm hD (e1▸hA) e3 e2
abbrev Dat:=(Int×Int×Str×Int×SP5)×Option Int
noncomputable def agK(c:Dat):Int:=if c.2=none then c.1.2.2.2.1 - (c.1.2.2.2.2.map λr=>r.2.1.c).sum else 0
noncomputable def Cv(d:Int)(cs:List Dat):Int:=((cs.filter λc=>decide (c.1.2.1<=d)).map agK).sum
def QL{d:Int}{sl:List (Addr×jl)}:Cv d (sl.map λt=>t.2.dat)=((sl.filter λt=>decide (t.2.d<=d)).map λt=>t.2.cnt).sum:=by
 unfold Cv;rw[Zi,zzj];rfl
noncomputable def KH(A:Adr):Sp:=λvs H Q _=>∃(b:Addr)(k:BkD)(d:Int),vs=[.ref b,.int d]/\fV A H b k/\k.sl.length<=100/\∀H',Same H H'->Q (.int (Cv d (k.sl.map λt=>t.2.dat))) H'
def MN(T:Txt K mg A D):gJ P w K mg base CX0 5 A.uw D.uw ["book", "day"] (KH A):=by
 refine T.wz.F.okv Lr λ_ _ _ _ H vs Q E hr h=>?_
 ·obtain⟨b,kb,d,rfl,hB,hl,k⟩:=h
  refine⟨_,(eY (fJ (fH (jE (K:=K) rfl) (by rfl) T.xS (by decide+kernel) (eQ (gF (cap:=[none,some 1]) (N':=["sale", "day"]) rfl (by walk_at "c") (oK (K:=K) (jj (pv 0) (mc T.yT T.zq (JB T) hr (Lg T) .nil) iI)) (λ_ _ _ _=>(fG (i:=0) (show(["sale", "day"]:List Str).Nodup from by decide+kernel) rfl orl orr)) (λ_ _ _ _=>(rK (fK (adB) (fv K 0) (pvD 1) (fX _)))) (λ_ _ _ _=>(jj (pv 0) (mc T.yM T.zp (FP T) hr (Gx T) .nil) iI))) eV)))),?_⟩;obtain⟨db,hb⟩:=hB.i;walk_at "a";refine md hb hB.me (by rfl) ⟨b,kb,rfl,hB,hl,λq sl H2 s2 hq h2 aa hd=>?_⟩;have ac:sl.length=kb.sl.length:=by simpa using congrArg List.length hd
  rw[<-hd,QL]at k;refine⟨q,rfl,⟨_,fj h2⟩,?_⟩;refine aaq (f:=λt:Addr×jl=>V.ref t.1) (λσ=>∃a,σ=[a,some (.int d)]) (λt=>decide (t.2.d<=d)) (λ_ t v _=>v=.int t.2.cnt) (fj h2) ⟨_,rfl⟩ (by omega) ?_ ?_
  ·rintro Da t ht σ H5 R1 R2 ⟨_,rfl⟩ sm hD hA k1 k2
   have hS:=(aa t ht).1.same sm;obtain⟨dt,hi⟩:=hS.i;walk_at "i";refine rd hi T.yM T.yO (by rfl) ⟨_,rfl,?_⟩;by_cases e:t.2.d<=d
   ·rw[z8 e]
    exact md hi zze (by rfl) ⟨t.1,t.2,rfl,hS,λH7 s7=>k1 (zzx e) _ _ _ ⟨_,rfl⟩ s7 λ_ _=>rfl⟩
   ·rw[z4 e]
    exact k2 (zzH e) _ _ ⟨_,rfl⟩ (same_refl _)
  ·intro D3 H3 ab ad s3 h3 z
   rw[oW.ints z]at h3;rw[ap_rSum];exact⟨_,fj h3,k H3 (s2.trans s3)⟩
noncomputable def spW(z:Str):Sp:=λvs H Q _=>∃x:Addr,vs=[.ref x]/\Q (.str z) H
def Gm(T:Txt K mg A D):gJ P w K mg base CX0 1 A.vw D.vw ["self"] (spW "eldest"):=by
 refine T.xD.okv Gg λ_ _ _ _ H vs Q E q h=>?_
 ·obtain⟨x,rfl,k⟩:=h
  refine⟨_,(eY (fJ gP)),?_⟩;walk_at "a";exact k
def GQ(T:Txt K mg A D):gJ P w K mg base CX0 1 A.vx D.vx ["self"] (spW "newest"):=by
 refine T.xE.okv Gi λ_ _ _ _ H vs Q E q h=>?_
 ·obtain⟨x,rfl,k⟩:=h
  refine⟨_,(eY (fJ gP)),?_⟩;walk_at "a";exact k
def Dh(T:Txt K mg A D):gJ P w K mg base CX0 1 A.vy D.vy ["self"] (spW "dearest"):=by
 refine T.xF.okv El λ_ _ _ _ H vs Q E q h=>?_
 ·obtain⟨x,rfl,k⟩:=h
  refine⟨_,(eY (fJ gP)),?_⟩;walk_at "a";exact k
def Nk(T:Txt K mg A D):gJ P w K mg base CX0 1 A.vz D.vz ["self"] (spW "mean"):=by
 refine T.xG.okv Lh λ_ _ _ _ H vs Q E q h=>?_
 ·obtain⟨x,rfl,k⟩:=h
  refine⟨_,(eY (fJ gP)),?_⟩;walk_at "a";exact k
inductive Od(A:Adr):Str->Bool->Addr->Prop
 |e:Od A "eldest" false A.vJ
 |n:Od A "newest" false A.vL
 |d:Od A "dearest" true A.vM
 |m:Od A "mean" false A.vI
def Od.way{z:Str}{b:Bool}{C:Addr}(h:Od A z b C):Uz A b C:=by
 cases h
 ·exact .e
 ·exact .n
 ·exact .d
 ·exact .m
def Od.is{z:Str}{b:Bool}{C:Addr}(h:Od A z b C){q:Str}{b':Bool}{C':Addr}(h':Od A q b' C')(e:q=z):C'=C:=by
 cases h<;>cases h'<;>first|rfl|exact absurd e (by decide+kernel)
def ne_next{l:List Str}{i:Nat}{z x:Str}(hx:l[i]? =some x)(hn:∀u∈l.take i,u≠z)(h:x≠z):∀u∈l.take (i+1),u≠z:=by
 rw[zzO,hx];intro u q;rcases zzs.mp q with q|q
 ·exact hn u q
 ·obtain rfl:=z9.mp q
  exact h
noncomputable def Ww(A:Adr):Sp:=λvs H Q _=>∃(z:Str)(b:Bool)(C:Addr),vs=[.str z]/\Od A z b C/\∀x dx H',Same H H'->H x=none->H' x=some (.ins C dx [])->Q (.ref x) H'
def Ds(T:Txt K mg A D):gJ P w K mg base CX0 2 A.vA D.vA ["word"] (Ww A):=by
 refine T.xH.F.okv Ls λ_ _ _ _ H vs Q E hr h=>?_
 ·obtain⟨z,b,C,rfl,hC,k⟩:=h
  refine ⟨_,(eU (kE zzM rfl (oK (K:=K) (jc (eQ (JM T.zk (by rfl) T.ye) (eQ (JM T.zl (by rfl) T.yf) (eQ (JM T.zm (by rfl) T.yg) (eQ (JM T.zn (by rfl) T.yd) eV)))))) (fG (i:=1) Ls.nd rfl orl)
    (eY (iC (fK (qX) (jj (pv 1) (mc T.zc T.zS (Gm T) hr (JF T) (mc T.zd T.zT (GQ T) hr (Il T) (mc T.ze T.zU (Dh T) hr (Gq T) (mc T.zb T.zV (Nk T) hr (Qe T) .nil)))) iI) (pvD 0) (fX _)) (eY (fJ (pvD 1))) gn)))
   (eY (iB))),?_⟩
  simp only[start_eq];rw[ap_seq,ap_for];walk_at "i";intro x0 d0 aa af n0 x1 d1 ac ae n1 x2 d2 ab ag n2 x3 d3 ad ah n3;refine⟨sz,λp hp=>⟨⟨_,fj eX⟩,?_⟩⟩;have a0:=pJ (C:=A.vJ) aa af;have a1:=pJ (C:=A.vL) ac ae;have a2:=pJ (C:=A.vM) ab ag;have a3:=pJ (C:=A.vI) ad ah;have ap:=eZ (o:=.lst [V.ref x0,V.ref x1,V.ref x2,V.ref x3]) hp;have t3:=a3.s.trans ap;have t2:=a2.s.trans t3;have t1:=a1.s.trans t2;have S:=a0.s.trans t1;have f0:=t1 _ _ a0.h;have f1:=t2 _ _ a1.h;have f2:=t3 _ _ a2.h;have f3:=ap _ _ a3.h;have e1:=a0.s.free ac;have e2:=(a0.s.trans a1.s).free ab;have e3:=(a0.s.trans (a1.s.trans a2.s)).free ad;have hl:(upd (upd (upd (upd (upd (upd (upd (upd (upd H d0 (HO.own x0)) x0 (HO.ins A.vJ d0 [])) d1 (HO.own x1)) x1 (HO.ins A.vL d1 [])) d2 (HO.own x2)) x2 (HO.ins A.vM d2 [])) d3 (HO.own x3)) x3 (HO.ins A.vI d3 [])) p (HO.lst [V.ref x0,V.ref x1,V.ref x2,V.ref x3])) p=some (.lst [V.ref x0,V.ref x1,V.ref x2,V.ref x3]):=eX;clear a0 a1 a2 a3 ap t1 t2 t3;generalize upd _ p (HO.lst [V.ref x0,V.ref x1,V.ref x2,V.ref x3])=Hf at S f0 f1 f2 f3 hl
  refine mZ (K:=K) (a:=p) (xs:=[V.ref x0,V.ref x1,V.ref x2,V.ref x3]) (λi σ H'=>(∃v,σ=[some (.str z),v])/\H'=Hf/\∀u∈(["eldest", "newest", "dearest", "mean"]:List Str).take i,u≠z)
   ⟨⟨_,rfl⟩,rfl,λu h=>(zzd h).elim⟩ (λi σ H' _ ⟨_,e,_⟩=>e▸fj hl) ?_ ?_
  ·rintro i y σ H' hy ⟨⟨v,rfl⟩,rfl,hn⟩
   rcases i with _|_|_|_|i
   ·cases hy
    walk_at "i";refine⟨_,d0,_,f0,_,zze,by rfl,x0,rfl,rfl,?_⟩;by_cases q:Str.ofString "eldest" =z
    ·rw[z8 (by rw[q])]
     exact k x0 d0 _ S aa (hC.is (Od.e (A:=A)) q▸f0)
    ·rw[z4 (by simpa using q)]
     exact⟨rfl,ne_next (i:=0) rfl hn q⟩
   ·cases hy
    walk_at "i";refine⟨_,d1,_,f1,_,(zzh _ zze),by rfl,x1,rfl,rfl,?_⟩;by_cases q:Str.ofString "newest" =z
    ·rw[z8 (by rw[q])]
     exact k x1 d1 _ S e1 (hC.is (Od.n (A:=A)) q▸f1)
    ·rw[z4 (by simpa using q)]
     exact⟨rfl,ne_next (i:=1) rfl hn q⟩
   ·cases hy
    walk_at "i";refine⟨_,d2,_,f2,_,(zzh _ (zzh _ zze)),by rfl,x2,rfl,rfl,?_⟩;by_cases q:Str.ofString "dearest" =z
    ·rw[z8 (by rw[q])]
     exact k x2 d2 _ S e2 (hC.is (Od.d (A:=A)) q▸f2)
    ·rw[z4 (by simpa using q)]
     exact⟨rfl,ne_next (i:=2) rfl hn q⟩
   ·cases hy
    walk_at "i";refine⟨_,d3,_,f3,_,(zzh _ (zzh _ (zzh _ zze))),by rfl,x3,rfl,rfl,?_⟩;by_cases q:Str.ofString "mean" =z
    ·rw[z8 (by rw[q])]
     exact k x3 d3 _ S e3 (hC.is (Od.m (A:=A)) q▸f3)
    ·rw[z4 (by simpa using q)]
     exact⟨rfl,ne_next (i:=3) rfl hn q⟩
   ·cases hy
  ·rintro σ H' ⟨⟨v,rfl⟩,rfl,hn⟩
   have hn:∀u∈(["eldest", "newest", "dearest", "mean"]:List Str),u≠z:=hn
   cases hC with
   |e=>exact(hn _ zze rfl).elim
   |n=>exact(hn _ (zzh _ zze) rfl).elim
   |d=>exact(hn _ (zzh _ (zzh _ zze)) rfl).elim
   |m=>exact(hn _ (zzh _ (zzh _ (zzh _ zze))) rfl).elim
noncomputable def JX:Sp:=λvs H Q _=>vs=[.non]/\Q .non H
def Ib(T:Txt K mg A D):gJ P w K mg base CX0 1 A.uC D.uC ["named"] JX:=by
 refine T.wE.F.okv Ie λ_ _ _ _ H vs Q E q h=>?_
 ·obtain⟨rfl,k⟩:=h
  refine⟨_,(eY (fJ (sS (fK (sI) (pvD 0) jx (fX _)) jx (iT (Qa (K:=K)) (by rfl) T.xT (by decide+kernel) (pav 0 eV))))),?_⟩;walk_at "a";exact k
noncomputable def abQ(z:Str):Sp:=λvs H Q _=>∃x:Addr,vs=[.ref x]/\Q (.str z) H
def Qt(T:Txt K mg A D):gJ P w K mg base CX0 1 A.uA D.uA ["self"] (abQ "buy"):=by
 refine T.wC.okv Ox λ_ _ _ _ H vs Q E q h=>?_
 ·obtain⟨x,rfl,k⟩:=h
  refine⟨_,(eY (fJ gP)),?_⟩;walk_at "a";exact k
def Le(T:Txt K mg A D):gJ P w K mg base CX0 1 A.uD D.uD ["self"] (abQ "sell"):=by
 refine T.wF.okv MK λ_ _ _ _ H vs Q E q h=>?_
 ·obtain⟨x,rfl,k⟩:=h
  refine⟨_,(eY (fJ gP)),?_⟩;walk_at "a";exact k
noncomputable def aaT(A:Adr)(isK:Ent->Bool):Sp:=λvs H Q _=>∃(x:Addr)(e:Ent),vs=[.ref x]/\isK e=true/\IsE A H x e/\e.lots=none/\∀t,H t=none->Q (.ref t) (upd H t (.tup (.str e.word::e.args .non)))
def Ek(T:Txt K mg A D):gJ P w K mg base CX0 2 A.uB D.uB ["self"] (aaT A Sg):=by
 refine T.wD.okv PX λ_ _ _ _ H vs Q E z h=>?_
 ·obtain⟨x,e,rfl,hk,⟨dx,nv,q,hn⟩,ho,k⟩:=h
  refine⟨_,(eY (fJ (jQ (eQ (jj (pv 0) (mc T.yt T.zr (Qt T) z (Te T) .nil) iI) (eQ (fv K 0) (eQ (fv K 0) (eQ (fv K 0) (eQ (fv K 0) (eQ (fv K 0) (eQ (fv K 0) eV)))))))))),?_⟩
  cases e with
  |sell=>cases hk
  |buy d n w p r f=>
  walk_at "a";refine md q zze (by rfl) ⟨x,rfl,?_⟩;refine rd q T.yt T.yv (by rfl) (rd q T.yt T.yw (by rfl) (rd q T.yt T.yx (by rfl) (rd q T.yt T.yy (by rfl) (rd q T.yt T.yz (by rfl) (rd q T.yt T.yA (by rfl) ⟨sz,k⟩)))))
def Bd(T:Txt K mg A D):gJ P w K mg base CX0 2 A.uE D.uE ["self"] (aaT A Ip):=by
 refine T.wG.okv Bc λ_ _ _ _ H vs Q E z h=>?_
 ·obtain⟨x,e,rfl,hk,⟨dx,nv,q,hn⟩,ho,k⟩:=h
  refine ⟨_,(eU (fL (i:=1) Bc.nd rfl orl (pcg (Ib T) z T.wE (Mt T) (eQ (fv K 0) eV)))
   (eY (fJ (jQ (eQ (jj (pv 0) (mc T.yC T.zt (Le T) z (NK T) .nil) iI) (eQ (fv K 0) (eQ (fv K 0) (eQ (fv K 0) (eQ (fv K 0) (eQ (fv K 0) (eQ (fv K 0) (pav 1 eV)))))))))))),?_⟩
  cases e with
  |buy=>cases hk
  |sell d n w p r f o=>
  obtain rfl:o=none:=ho;obtain rfl:nv=.non:=hn;walk_at "a";refine rd q T.yC T.yK (v:=.non) (by rfl) ⟨rfl,?_⟩;walk_at "a";refine md q zze (by rfl) ⟨x,rfl,?_⟩;refine rd q T.yC T.yE (by rfl) (rd q T.yC T.yF (by rfl) (rd q T.yC T.yG (by rfl) (rd q T.yC T.yH (by rfl) (rd q T.yC T.yI (by rfl) (rd q T.yC T.yJ (by rfl) ⟨sz,k⟩)))))
def nT{i j:Int}(q:0<j)(h1:j<10^30):Tr i j:=by
 refine⟨q,?_⟩;have:j.natAbs<2^100:=by omega
 exact zzC this (ZE (by decide) (by decide))
def WN{e:Int}(h1:0<=e)(h2:e<=1000000):agp 10 e:=⟨h1,h2,by decide⟩
def YZ(xs:List Int):qF (.lst (xs.map DV.int))<=20:=by show mK (xs.map DV.int)+1<=20;rw[HD];decide
def ace{H:Hp}{Q:VK}{p q:Addr}{xs ys:List Int}(h1:SqL K H p (xs.map V.int))(h2:SqL K H q (ys.map V.int))(z:Q (.bl (gZ (.lst (xs.map DV.int)) (.lst (ys.map DV.int)))) H):afX K (.ref p) (.ref q) H Q:=
 ⟨.lst (xs.map DV.int),.lst (ys.map DV.int),.lst h1 (Ad K H xs),.lst h2 (Ad K H ys),Nat.succ_le_succ (zzB _),YZ xs,z⟩
noncomputable def Mj(K:Fg_):Sp:=λvs H Q _=>∃(a:Addr)(ns:List Int)(k:Nat),vs=[.ref a,.int k]/\SqL K H a (ns.map V.int)/\∀g H',Same H H'->Q (.int g) H'
def gK(T:Txt K mg A D):gJ P w K mg base CX0 1 A.t5 D.t5 ["_law_script", "_law_k"] (Mj K):=by
 refine T.vZ.F.okv Kr λ_ _ _ _ H vs Q E hr h=>?_
 ·obtain⟨a,ns,k',rfl,z,k⟩:=h
  refine ⟨_,(eU (iC (fK (Lf) (pvD 1) (fH (ji (K:=K)) (by rfl) T.xK (by decide+kernel) (pav 0 eV)) (fX _)) (eY (fJ (jG (iM (K:=K)) (pvD 0) (pvD 1) (λ_ _=>rfl)))) gn)
   (eU (iC (fK (Xp (K:=K) hr) (pvD 0) (jc eV) (fX _)) (eY (fJ fB)) gn)
   (eY (fJ (fQ je (fQ jq (fQ je (fQ jq (fQ iY (jG (iM (K:=K)) (pvD 0) (fQ je (pvD 1) (fH (ji (K:=K)) (by rfl) T.xK (by decide+kernel) (pav 0 eV))) (λ_ _=>rfl)) (pvD 1)) fB) fB) fB) fB))))),?_⟩
  simp only[start_eq];walk_at "n";refine⟨_,.inl z,?_⟩;have aa:∀j:Nat,j<ns.length->atI (ns.map V.int) (j:Int)=some (.int (ns.getD j 0)):=λj hj=>qO (by rw[zzl,zzg hj,List.getD_eq_getElem?_getD,zzg hj];rfl);rw[z0];by_cases h:k'<ns.length
  ·rw[z8 (by omega)]
   exact⟨_,z,_,aa k' h,k _ H (same_refl _)⟩
  ·rw[z4 (by omega)]
   walk_at "n";refine⟨sz,λp hp=>?_⟩;have q:=eZ (o:=.lst []) hp;refine ace (q.seq z) (ys:=[]) (fj eX) ⟨_,rfl,?_⟩;generalize upd H p (.lst [])=H1 at q⊢
   cases ns with
   |nil=>
    rw[z8 (show gZ _ _=true from rfl)];exact k _ H1 q
   |cons c cs=>
    rw[z4 (by show¬(false=true);decide)];walk_at "a";have hl:(((c::cs).map V.int).length:Int)=((c::cs).length:Int):=by rw[z0]
    have ab:0<((c::cs).length:Int):=by rw[zzu];omega
    refine⟨_,.inl (q.seq z),by rw[hl];exact ab,_,q.seq z,?_⟩;have g1:=zz0 (k':Int) (show(((c::cs).map V.int).length:Int)≠0 by omega);have g2:=zzT (k':Int) (show 0<(((c::cs).map V.int).length:Int) by omega);obtain⟨j,hj⟩:∃j:Nat,(j:Int)=(k':Int)%(((c::cs).map V.int).length:Int):=⟨_,Zg g1⟩;rw[<-hj]at g2⊢;refine⟨_,aa j (by omega),_,rfl,Dy (by decide) (by decide),by decide,Dy (by decide) (by decide),by decide,k _ H1 q⟩
def VJ(m:Nat)(hm:m<26):atI (Str.ofString "abcdefghijklmnopqrstuvwxyz").cps.toList (m:Int)=some (97+m):=by
 have key:∀m:Fin 26,(Str.ofString "abcdefghijklmnopqrstuvwxyz").cps.toList[m.1]? =some (97+m.1):=by decide+kernel
 exact qO (key ⟨m,hm⟩)
noncomputable def Nr:Sp:=λvs H Q _=>∃n:Int,vs=[.int n]/\∀z:Str,Nm z->z≠ "wool" ->Q (.str z) H
def KR(T:Txt K mg A D):gJ P w K mg base CX0 1 A.tZ D.tZ ["_law_cell_here"] Nr:=by
 refine T.vY.F.okv jt λ_ _ _ _ H vs Q E hr h=>?_
 ·obtain⟨n,rfl,k⟩:=h
  refine ⟨_,(eU (fL (i:=1) jt.nd rfl orl gP)
   (eU (fL (i:=2) jt.nd rfl orl (fQ iQ (pvD 0) fB))
   (eU (kE zzM rfl (sU (by rfl) T.xJ (eQ (fQ iY fB (fQ je (pvD 0) fB)) eV)) (fG (i:=3) jt.nd rfl orl)
    (eU (fL (i:=1) jt.nd rfl orl (fQ Ue (pvD 1) (jG afl gP (fQ je (pvD 2) fB) (λ_ _=>rfl))))
    (eY (fL (i:=2) jt.nd rfl orl (fQ iQ (pvD 2) fB)))))
   (eU (iC (fK (qX) (pvD 1) gP (fX _)) (eY (fJ gP)) gn)
   (eY (fJ (pvD 1))))))),?_⟩
  simp only[start_eq]
  iterate 2 walk_at "n"
  refine⟨nT (by decide) (by decide),?_⟩
  (try dsimp only)
  refine gA λu hu=>?_;rw[ap_seq,ap_for];walk_at "i";have ac:=zz0 n (show(8:Int)≠0 by decide);have af:=zzT n (show(0:Int)<8 by decide);obtain⟨q,hq⟩:∃q:Nat,(q:Int)=1+n%8:=⟨(1+n%8).toNat,by omega⟩;rw[<-hq];refine⟨by decide,by omega,by omega,?_⟩;rw[yyA]
  refine CN.rangeN (lo:=0) (n:=q) (λj σ H3=>∃(r:Int)(z:Str)(v3:Option V),z.length=j/\(∀c∈z.cps.toList,97<=c/\c<=122)/\σ=[some (.int n),some (.str z),some (.int r),v3]/\H3=H)
   ⟨_,_,_,by decide+kernel,by decide+kernel,rfl,rfl⟩ ?_ ?_
  ·rintro j σ H3 hj ⟨r,z,v3,ab,aa,rfl,rfl⟩ N hN
   rw[ap_name];walk_at "n";have ae:=zz0 r (show(26:Int)≠0 by decide);have ad:=zzT r (show(0:Int)<26 by decide);obtain⟨m,hm⟩:∃m:Nat,(m:Int)=r%26:=⟨(r%26).toNat,by omega⟩;rw[<-hm];refine⟨by decide,by rw[zzk];decide+kernel,_,VJ m (by omega),by rw[zzk];show z.length+1<=_;omega,?_⟩;walk_at "i";refine⟨nT (by decide) (by decide),hN _ _ ⟨_,_,_,?_,λc hc=>?_,rfl,rfl⟩⟩
   ·show(z.cps++ #[97+m]).size=j+1
    rw[Array.size_append];show z.length+1=_;omega
   ·have hc:c∈(z.cps++ #[97+m]).toList:=hc
    have hc:c∈z.cps.toList\/c=97+m:=by simpa using hc
    rcases hc with hc|hc
    ·exact aa c hc
    ·omega
  ·rintro σ H3 ⟨r,z,v3,ab,aa,rfl,rfl⟩
   subst hu;walk_at "n";by_cases c:z= "wool"
   ·rw[z8 c]
    exact k _ (by unfold Nm;decide+kernel) (by decide+kernel)
   ·rw[z4 c]
    walk_at "a";exact k z ⟨by omega,by omega,aa⟩ c
theorem His.nil{W:List Str}{nm:Bool}(q:W.Nodup/\W.length<=50):His W nm []:=⟨λe h=>(zzd h).elim,λi e h=>by simp at h,λi z=>by rw[List.take_nil];show(0:Int)<=_;decide,λi e h=>by simp at h,.nil,zzB _,.nil,q⟩
def His.snoc{W:List Str}{nm:Bool}{es:List Ent}{e:Ent}(h:His W nm es)(hg:e.good/\e.ware∈W/\adN e=0)(hf:abJ (runC es) e)(hm:∀z,Yi (runC es) e z<=100000000000)(ho:adO nm (HX es) e)(hb:∀x∈es,BfE x e)(hn:e.num∉es.map Ent.num)(hl:es.length<60):His W nm (es++[e]):=by
 have key:∀{P:List Ent->Ent->Prop},(∀(i:Nat) d,es[i]? =some d->P (es.take i) d)->P es e->∀(i:Nat) d,(es++[e])[i]? =some d->P ((es++[e]).take i) d:=fun{P} h1 h2 i d hi=>by
  by_cases c:i<es.length
  ·rw[yyj c]at hi
   rw[yyW (by omega)];exact h1 i d hi
  ·rw[yye (by omega)]at hi
   have aa:i - es.length=0:=by
    have:=(zzm.mp hi).1;simp at this;omega
   rw[aa]at hi;cases hi;rw[show i=es.length by omega,yyW (zzc _),yyb];exact h2
 refine⟨λd hd=>?_,key (P:=λl d=>abJ (runC l) d) h.f hf,λi z=>?_,key (P:=λl d=>adO nm (HX l) d) h.o ho,?_,?_,?_,h.u⟩
 ·rcases zzs.mp hd with hd|hd
  ·exact h.g d hd
  ·rw[z9.mp hd];exact hg
 ·by_cases c:i<=es.length
  ·rw[yyW c]
   exact h.m i z
  ·rw[zz8 (by rw[zzt];show es.length+1<=i;omega),jg]
   exact hm z
 ·refine yyf.mpr ⟨h.b,List.pairwise_singleton _ _,λx hx y q=>?_⟩
  rw[z9.mp q];exact hb x hx
 ·rw[zzt];show es.length+1<=60;omega
 ·rw[zza]
  refine zzS.mpr ⟨h.n,by simp,λx hx y q e'=>?_⟩;have q:y=e.num:=z9.mp q;exact hn (by rw[<-q,<-e'];exact hx)
noncomputable def Yk:Ent->List V
 |.buy d n w p r _=>[.str "buy",.int d,.int n,.str w,.int p,.int r]
 |.sell d n w p r _ _=>[.str "sell",.int d,.int n,.str w,.int p,.int r]
noncomputable def JT(H:Hp)(tl:EL):Prop:=∀r∈tl,H r.1=some (.tup (Yk r.2))
def JT.same{H H':Hp}{tl:EL}(h:JT H tl)(s:Same H H'):JT H' tl:=λr q=>s _ _ (h r q)
def JT.put{H:Hp}{tl:EL}{l:Addr}{xs:List V}{o:HO}(h:JT H tl)(z:H l=some (.lst xs)):JT (upd H l o) tl:=λr q=>(fC λe=>by have:=h r q;rw[e,z]at this;cases this).trans (h r q)
def JT.putK{H:Hp}{tl:EL}{l:Addr}{xs:List (Key×V)}{o:HO}(h:JT H tl)(z:H l=some (.dK xs)):JT (upd H l o) tl:=λr q=>(fC λe=>by have:=h r q;rw[e,z]at this;cases this).trans (h r q)
noncomputable def W2(x:Str):List Str:=["wool",x]
noncomputable def kv2(x:Str)(es:List Ent):List (Key×V):=[(Sum.inr "wool",.int (runC es "wool")),(Sum.inr x,.int (runC es x))]
def oh{x w:Str}{es:List Ent}(z:x≠ "wool") (q:w∈W2 x):jo (kv2 x es) (Sum.inr w)=some (.int (runC es w)):=by
 rcases zzb.mp q with rfl|q
 ·exact gC rfl
 ·obtain rfl:=z9.mp q
  unfold kv2;rw[gD (λe=>z (yyL e).symm)];exact gC rfl
def Qh{x w:Str}{es:List Ent}{e:Ent}{i:Int}(q:x≠ "wool") (hw:w∈W2 x) (h1:Yi (runC es) e w=i) (h2:∀z,z≠w->Yi (runC es) e z=runC es z):putK (kv2 x es) (Sum.inr w) (.int i)=kv2 x (es++[e]):=by
 unfold putK;rw[z8 (by rw[jn,oh q hw];rfl)];unfold kv2;rw[jg];rcases zzb.mp hw with rfl|hw
 ·rw[h1,h2 x q]
  simp[q]
 ·obtain rfl:=z9.mp hw
  rw[h1,h2 _ (λe=>q e.symm)];simp[Ne.symm q]
def aar{xs:List Int}(hx:xs≠[])(n:Int):∃v∈xs,atI (xs.map V.int) (n%(xs.length:Int))=some (.int v):=by
 have z:0<xs.length:=yyC.mpr hx;have g1:=zz0 n (show(xs.length:Int)≠0 by omega);have g2:=zzT n (show 0<(xs.length:Int) by omega);obtain⟨j,hj⟩:∃j:Nat,(j:Int)=n%(xs.length:Int):=⟨_,Zg g1⟩;rw[<-hj]at g2⊢;have q:j<xs.length:=by omega
 exact⟨xs[j],yya _,qO (by rw[zzl,zzg q];rfl)⟩
def aeR{x:Str}(n:Int):∃w∈W2 x,atI [V.str "wool",V.str x] (n%2)=some (.str w):=by
 have z:=zz0 n (show(2:Int)≠0 by decide);have q:=zzT n (show(0:Int)<2 by decide);by_cases c:n%2=0
 ·rw[c];exact⟨_,.head _,rfl⟩
 ·rw[show n%2=1 by omega];exact⟨_,.tail _ (.head _),rfl⟩
structure Drw(x:Str)(es:List Ent)(day nx:Int)(q:Nat):Prop where
 h:His (W2 x) false es
 d:0<=day/\∀e∈es,e.day<=day/\e.num<nx
 c:es.length<=q
 z:∀z,0<=runC es z
 s:runC es "wool" +runC es x<=1000000000*(q:Int)
 b:∀z,z∉W2 x->runC es z=0
 e:q≠0->es≠[]
def Drw.nn{x:Str}{es:List Ent}{z nx:Int}{q:Nat}(h:Drw x es z nx q){n:Int}(hn:nx<=n):n∉es.map Ent.num:=λc=>by
 obtain⟨e,he,rfl⟩:=z3.mp c;have:=(h.d.2 e he).2;omega
def Drw.le{x:Str}{es:List Ent}{aa nx:Int}{q:Nat}(h:Drw x es aa nx q)(z:Str):runC es z<=1000000000*(q:Int):=by
 have h1:=h.z "wool";have h2:=h.z x;have h3:=h.s;by_cases c:z∈W2 x
 ·rcases zzb.mp c with rfl|c
  ·omega
  ·rw[z9.mp c];omega
 ·rw[h.b z c];omega
theorem Drw.buy{x:Str}{es:List Ent}{ab nx ac:Int}{q:Nat}(h:Drw x es ab nx q)(hx:x≠ "wool") (hq:q<50) {d n p r:Int} {w:Str} (hw:w∈W2 x) (hN:Nm w) (hd:ab<=d/\d<=1000000) (hn:nx<=n/\n<ac/\0<=n/\n<=1000000) (hp:1<=p/\p<=1000000000) (hr:0<=r/\r<=1000000000):Drw x (es++[.buy d n w p r 0]) d ac (q+1):=by
 have af:=h.d.1;have hz:=h.z w;have ae:=h.le;have hc:=h.c;have hs:=h.s;have aa:∀z,runC (es++[.buy d n w p r 0]) z=if z=w then runC es w+p else runC es z:=λz=>by rw[jg];rfl
 refine⟨h.h.snoc ⟨⟨⟨by omega,hd.2,hn.2.2.1,hn.2.2.2,hN⟩,hp,hr,by decide,by decide⟩,hw,rfl⟩ trivial (λz=>?_) trivial (λy hy=>?_) (h.nn hn.1) (by omega),⟨by omega,λy hy=>?_⟩,by rw[zzt];show es.length+1<=_;omega,λz=>?_,?_,λz ad=>?_,λ_=>by simp⟩
 ·show(if z=w then runC es w+p else runC es z)<=_
  have:=ae w;have:=ae z;split<;>omega
 ·have:=h.d.2 y hy
  show y.day<d\/(y.day=d/\y.num<n);omega
 ·rcases zzs.mp hy with hy|hy
  ·have:=h.d.2 y hy;omega
  ·rw[z9.mp hy];exact⟨zz3 _,hn.2.1⟩
 ·rw[aa]
  have:=h.z z;split<;>omega
 ·rw[aa,aa]
  rcases zzb.mp hw with rfl|hw
  ·rw[z8 rfl,z4 hx];omega
  ·rw[z9.mp hw,z8 rfl,z4 (λe=>hx e.symm)];omega
 ·rw[aa,z4 (λe:z=w=>ad (e▸hw)),h.b z ad]
theorem Drw.sell{x:Str}{es:List Ent}{ab nx ac:Int}{q:Nat}(h:Drw x es ab nx q)(hq:es.length<60){d n p r:Int}{w:Str}(hw:w∈W2 x)(hN:Nm w)(hd:ab<=d/\d<=1000000)(hn:nx<=n/\n<ac/\0<=n/\n<=1000000)(hp:1<=p/\p<=1000000000/\p<=runC es w)(hr:0<=r/\r<=1000000000)(ai:q<=50){q':Nat}(af:es.length+1<=q')(ag:runC es "wool" +runC es x - p<=1000000000*(q':Int)) (hx:x≠ "wool"):Drw x (es++[.sell d n w p r 0 none]) d ac q':=by
 have ah:=h.d.1;have hz:=h.z w;have ae:=h.le;have aa:∀z,runC (es++[.sell d n w p r 0 none]) z=if z=w then runC es w - p else runC es z:=λz=>by rw[jg];rfl
 refine⟨h.h.snoc ⟨⟨⟨by omega,hd.2,hn.2.2.1,hn.2.2.2,hN⟩,⟨hp.1,hp.2.1⟩,hr,⟨by decide,by decide⟩,trivial⟩,hw,rfl⟩ hp.2.2 (λz=>?_) ⟨λc=>(by cases c),λ_=>rfl⟩ (λy hy=>?_) (h.nn hn.1) hq,⟨by omega,λy hy=>?_⟩,by rw[zzt];exact af,λz=>?_,?_,λz ad=>?_,λ_=>by simp⟩
 ·show(if z=w then runC es w - p else runC es z)<=_
  have:=ae w;have:=ae z;split<;>omega
 ·have:=h.d.2 y hy
  show y.day<d\/(y.day=d/\y.num<n);omega
 ·rcases zzs.mp hy with hy|hy
  ·have:=h.d.2 y hy;omega
  ·rw[z9.mp hy];exact⟨zz3 _,hn.2.1⟩
 ·rw[aa]
  have:=h.z z;split<;>omega
 ·rw[aa,aa]
  rcases zzb.mp hw with rfl|hw
  ·rw[z8 rfl,z4 hx];omega
  ·rw[z9.mp hw,z8 rfl,z4 (λe=>hx e.symm)]
   rw[z9.mp hw]at hp;omega
 ·rw[aa,z4 (λe:z=w=>ad (e▸hw)),h.b z ad]
def Qd{B q:Hp}{z pd t:Addr}{tl:EL}{e:Ent}{kv kv':List (Key×V)}{xs:List V}(sB:Same B q)(ab:B z=none)(ac:B pd=none)(hl:q z=some (.lst (iz tl)))(hR:JT q tl)(hd:q pd=some (.dK kv))(ht:q t=none)(hx:xs=iz tl):
  Same B (upd (upd (upd q t (.tup (Yk e))) z (.lst (xs++[.ref t]))) pd (.dK kv'))/\(upd (upd (upd q t (.tup (Yk e))) z (.lst (xs++[.ref t]))) pd (.dK kv')) z=some (.lst (iz (tl++[(t,e)])))/\JT (upd (upd (upd q t (.tup (Yk e))) z (.lst (xs++[.ref t]))) pd (.dK kv')) (tl++[(t,e)])/\(upd (upd (upd q t (.tup (Yk e))) z (.lst (xs++[.ref t]))) pd (.dK kv')) pd=some (.dK kv')/\(upd (upd q t (.tup (Yk e))) z (.lst (xs++[.ref t]))) pd=some (.dK kv):=by
 subst hx;have s1:=eZ (o:=.tup (Yk e)) ht;have aa:z≠pd:=λe=>by rw[e,hd]at hl;cases hl
 have ae:t≠z:=(fU hl ht).symm;have af:t≠pd:=(fU hd ht).symm;have h1:(upd (upd q t (.tup (Yk e))) z (.lst (iz tl++[.ref t]))) pd=some (.dK kv):=(fC aa.symm).trans (s1 _ _ hd)
 have ad:JT (upd q t (.tup (Yk e))) (tl++[(t,e)]):=λr hr=>by
  rcases zzs.mp hr with hr|hr
  ·exact s1 _ _ (hR r hr)
  ·rw[z9.mp hr];exact eX
 refine⟨((sB.trans s1).upd ab).upd ac,?_,(ad.put (s1 _ _ hl)).putK h1,eX,h1⟩;rw[fC aa,eX];unfold iz;rw[zza];rfl
def Mg{R:L2.St->Hp->Prop}{tb:(L2.St->Hp->Prop)->Prop}(P:L2.St->Hp->Prop)(h1:∀q H',P q H'->R q H')(h2:∀N:L2.St->Hp->Prop,(∀q H',P q H'->N q H')->tb N):∃N:L2.St->Hp->Prop,(∀q H',N q H'->R q H')/\tb N:=⟨P,h1,h2 P λ_ _ h=>h⟩
def aeC{p:Prop} [Decidable p] {A B:Prop} {v0:Int} {G:V->Prop} (hb:p\/v0=0) (hG:G (.int v0)) (h:A):if p then A else∃x,G x/\Yv x (.int 0)=true/\if x=.int 0 then A else B:=by
 by_cases q:p
 ·rw[z8 q];exact h
 ·rw[z4 q]
  refine⟨_,hG,rfl,?_⟩;rw[z8 (by rw[hb.resolve_left q])];exact h
def ack{p:Prop} [Decidable p] {A B:Prop} {v0:Int} {G:V->Prop} (hb:¬(p\/v0=0)) (hG:G (.int v0)) (h:B):if p then A else∃x,G x/\Yv x (.int 0)=true/\if x=.int 0 then A else B:=by
 rw[z4 (λc=>hb (.inl c))];refine⟨_,hG,rfl,?_⟩;rw[z4 (λc=>hb (.inr (V.int.inj c)))];exact h
noncomputable def Dv(K:Fg_):Sp:=λvs H Q _=>∃(a:Addr)(ns:List Int),vs=[.ref a]/\SqL K H a (ns.map V.int)/\
 ∀(t rl hd:Addr)(x:Str)(tl:EL)(H':Hp),Same H H'->H' t=some (.tup [.ref rl,.ref hd])->H' rl=some (.lst (iz tl))->JT H' tl->H' hd=some (.dK (kv2 x (tl.map (·.2))))->x≠ "wool" ->His (W2 x) false (tl.map (·.2))->(∀z,0<=runC (tl.map (·.2)) z)->tl≠[]->tl.length<=40->H rl=none->H hd=none->Q (.ref t) H'
def DW(T:Txt K mg A D):gJ P w K mg base CX0 2 A.t6 D.t6 ["_law_script"] (Dv K):=by
 refine T.wa.F.okv fO λ_ _ _ _ H vs Q E hr h=>?_
 ·obtain⟨a,ns,rfl,hS,k⟩:=h
  refine ⟨_,(eU (fL (i:=1) fO.nd rfl orl (jc eV))
   (eU (fL (i:=2) fO.nd rfl orl (adJ (Qz gP fB (Qz (pcg (KR T) hr T.vY (Pq T) (eQ (pcg (gK T) hr T.vZ (iu T) (pav 0 (eQ fB eV))) eV)) fB adx)) rfl rfl (List.cons_ne_nil _ _) (Nat.le_of_ble_eq_true rfl)))
   (eU (fL (i:=3) fO.nd rfl orl (fQ je (pcg (gK T) hr T.vZ (iu T) (pav 0 (eQ fB eV))) fB))
   (eU (kE zzM rfl (sU (by rfl) T.xJ (eQ (fQ iY fB (fQ je (pcg (gK T) hr T.vZ (iu T) (pav 0 (eQ fB eV))) fB)) eV)) (fG (i:=4) fO.nd rfl orl)
    (eU (fL (i:=5) fO.nd rfl orl (pcg (gK T) hr T.vZ (iu T) (pav 0 (eQ (fQ iY fB (fQ jq fB (pvD 4))) eV))))
    (eU (fL (i:=6) fO.nd rfl orl (pcg (gK T) hr T.vZ (iu T) (pav 0 (eQ (fQ iY fB (fQ jq fB (pvD 4))) eV))))
    (eU (fL (i:=7) fO.nd rfl orl (pcg (gK T) hr T.vZ (iu T) (pav 0 (eQ (fQ iY fB (fQ jq fB (pvD 4))) eV))))
    (eU (fL (i:=3) fO.nd rfl orl (fQ iY (pvD 3) (jG (iM (K:=K)) (jc (eQ fB (eQ fB (eQ fB (eQ fB eV))))) (fQ je (fQ iQ (pvD 5) fB) fB) (λ_ _=>rfl))))
    (eU (fL (i:=8) fO.nd rfl orl (jG (iM (K:=K)) (iT (tW rfl) (by rfl) T.xL (by decide+kernel) (pav 2 eV)) (fQ je (fQ iQ (pvD 5) fB) fB) (λ_ _=>rfl)))
    (eU (fL (i:=9) fO.nd rfl orl (fQ je (fQ iQ (pvD 7) fB) (jG (iM (K:=K)) (jc (eQ fB (eQ (fQ iY (fQ Ld fB fB) fB) eV))) (fQ je (pvD 7) fB) (λ_ _=>rfl))))
    (eY (iC (PW.pt (Kv (fK (Lf) (fQ je (pvD 5) fB) fB (fX _)) (MP (fK (qX) (jA (jr hr) (pvD 2) (pvD 8) (λ_ _=>rfl)) fB (fX _))))) (eU (fL (i:=10) fO.nd rfl orl (fQ iY fB (fQ je (fQ iQ (pvD 6) fB) (jG (iM (K:=K)) (jc (eQ fB (eQ (fQ Ld fB fB) eV))) (fQ je (pvD 6) fB) (λ_ _=>rfl)))))
     (eU (gj (lW (K:=K) zzF zzI zzJ iH (pvD 1) (eQ (jQ (eQ gP (pav 3 (eQ (fQ jq fB (pvD 4)) (pav 8 (pav 10 (pav 9 eV))))))) eV)))
     (eY (lJ (jr hr) (pvD 2) (pvD 8) (fQ iY (jA (jr hr) (pvD 2) (pvD 8) (λ_ _=>rfl)) (pvD 10)) rfl)))) (eU (fL (i:=10) fO.nd rfl orl (fQ iY fB (fQ je (fQ iQ (pvD 6) fB) (jG (iM (K:=K)) (jc (eQ (fH (pH rfl) (by rfl) T.xM (by decide+kernel) (eQ (fQ Ld fB fB) (eQ (jA (jr hr) (pvD 2) (pvD 8) (λ_ _=>rfl)) eV))) (eQ (fH (pH rfl) (by rfl) T.xM (by decide+kernel) (eQ fB (eQ (jA (jr hr) (pvD 2) (pvD 8) (λ_ _=>rfl)) eV))) eV))) (fQ je (pvD 6) fB) (λ_ _=>rfl)))))
     (eU (gj (lW (K:=K) zzF zzI zzJ iH (pvD 1) (eQ (jQ (eQ gP (pav 3 (eQ (fQ jq fB (pvD 4)) (pav 8 (pav 10 (pav 9 eV))))))) eV)))
     (eY (lJ (jr hr) (pvD 2) (pvD 8) (fQ nO (jA (jr hr) (pvD 2) (pvD 8) (λ_ _=>rfl)) (pvD 10)) rfl)))))))))))))
   (eU (fL (i:=9) fO.nd rfl orl (fQ je (fQ iQ (pcg (gK T) hr T.vZ (iu T) (pav 0 (eQ fB eV))) fB) (fQ Ld fB fB)))
   (eU (kE zzM rfl (oK (K:=K) (iT (tW rfl) (by rfl) T.xL (by decide+kernel) (pav 2 eV))) (fG (i:=8) fO.nd rfl orl)
    (eY (Sq zzM (PW.pt (Lx (fK (Jf) (jA (jr hr) (pvD 2) (pvD 8) (λ_ _=>rfl)) fB (fX _)) (DG (fK (qX) (fQ je (fQ iQ (pcg (gK T) hr T.vZ (iu T) (pav 0 (eQ fB eV))) fB) fB) fB (fX _))))) (eU (fL (i:=10) fO.nd rfl orl (fH (pH rfl) (by rfl) T.xM (by decide+kernel) (eQ (fQ Ld fB fB) (eQ (jA (jr hr) (pvD 2) (pvD 8) (λ_ _=>rfl)) eV))))
     (eU (gj (lW (K:=K) zzF zzI zzJ iH (pvD 1) (eQ (jQ (eQ gP (eQ (fQ iY (pvD 3) fB) (eQ (fQ iY fB (fH (ji (K:=K)) (by rfl) T.xK (by decide+kernel) (pav 1 eV))) (pav 8 (pav 10 (pav 9 eV))))))) eV)))
     (eY (lJ (jr hr) (pvD 2) (pvD 8) (fQ nO (jA (jr hr) (pvD 2) (pvD 8) (λ_ _=>rfl)) (pvD 10)) rfl)))))))
   (eY (fJ (jQ (pav 1 (pav 2 eV))))))))))),?_⟩
  simp only[start_eq];walk_at "n";refine⟨sz,λrl ay=>?_⟩;have s1:=eZ (o:=.lst []) ay;have h1:(upd H rl (.lst [])) rl=some (.lst []):=eX;generalize upd H rl (.lst [])=H1 at s1 h1
  (try dsimp only)
  refine gA λu hu=>?_;rw[ap_seq];walk_at "i";unfold afi;intro pd aq;simp only[Rz];have s2:=eZ (o:=.dK []) aq;have h2:(upd H1 pd (.dK [])) pd=some (.dK []):=eX;generalize upd H1 pd (.dK [])=H2 at s2 h2⊢;walk_at "i";refine⟨a,ns,1,rfl,(s1.trans s2).seq hS,λg H3 s3=>⟨g,rfl,λx b8 ac=>⟨s3 _ _ h2,[(Sum.inr "wool",.int 0),(Sum.inr x,.int 0)],rfl,(show(2:Nat)<=15 by decide),?_⟩⟩⟩
  have em:HB ([]:List (Key×V)) [((Sum.inr (Str.ofString "wool"):Key),.int 0),(Sum.inr x,.int 0)]=kv2 x []:=by
   show putK (putK [] (Sum.inr (Str.ofString "wool"):Key) (.int 0)) (Sum.inr x) (.int 0)=_;unfold putK kv2 runC;simp[Ne.symm ac]
  rw[em];have aj:H pd=none:=s1.free aq;have S3:Same H (upd H3 pd (.dK (kv2 x []))):=(s1.trans (s2.trans s3)).upd aj;have b2:(upd H3 pd (.dK (kv2 x []))) pd=some (.dK (kv2 x [])):=eX;have b3:(upd H3 pd (.dK (kv2 x []))) rl=some (.lst []):=(fC λe=>by rw[e]at h1;rw[h1]at aq;cases aq).trans (s3 _ _ (s2 _ _ h1));generalize upd H3 pd (.dK (kv2 x []))=H4 at S3 b2 b3;subst hu;clear s1 s2 s3 h1 h2 aq;walk_at "n";refine⟨a,ns,2,rfl,S3.seq hS,λg2 H5 s5=>⟨_,rfl,by decide,?_⟩⟩;have d0:=zz0 g2 (show(900:Int)≠0 by decide);have d1:=zzT g2 (show(0:Int)<900 by decide);generalize g2%900=b4 at d0 d1⊢;have S5:=S3.trans s5;have cl:=s5 _ _ b2;have ci:=s5 _ _ b3;have hW:(W2 x).Nodup/\(W2 x).length<=50:=⟨by unfold W2;simp[Ne.symm ac],by show(2:Nat)<=50;decide⟩
  (try dsimp only)
  refine gA λu hu=>?_;rw[ap_seq];refine qx λtb bo=>?_;rw[ap_for];walk_at "i";refine⟨a,ns,0,rfl,S5.seq hS,λg3 H6 s6=>⟨_,rfl,by decide,?_⟩⟩;have n0:=zz0 g3 (show(18:Int)≠0 by decide);have n1:=zzT g3 (show(0:Int)<18 by decide);obtain⟨m,hm⟩:∃m:Nat,(m:Int)=1+g3%18:=⟨(1+g3%18).toNat,by omega⟩;rw[<-hm];refine⟨by omega,by omega,?_⟩;rw[yyA];have S6:=S5.trans s6
  refine CN.rangeN (lo:=0) (n:=m) (λi σ Hx=>∃(tl:EL)(q:Int)(v4 v5 v6 v7 v8 v9 ae:Option V),σ=[some (.ref a),some (.ref rl),some (.ref pd),some (.int q),v4,v5,v6,v7,v8,v9,ae]/\Same H Hx/\Hx rl=some (.lst (iz tl))/\JT Hx tl/\Hx pd=some (.dK (kv2 x (tl.map (·.2))))/\Drw x (tl.map (·.2)) q (5*i) i/\q<=900+40*i)
   ⟨[],b4,_,_,_,_,_,_,_,rfl,S6,s6 _ _ ci,λr h=>(zzd h).elim,s6 _ _ cl,⟨His.nil hW,⟨d0,λe h=>(zzd h).elim⟩,zzB _,λz=>zz3 _,by show(0:Int)+0<=_;decide,λz _=>rfl,λc=>(c rfl).elim⟩,by omega⟩ ?_ ?_
  ·rintro i σ Hx hi ⟨tl,q,v4,v5,v6,v7,v8,v9,ae,rfl,sx,bc,bx,az,ab,cq⟩ N hN
   subst bo;rw[yy0,ap_name];walk_at "n";refine⟨La (by decide) (by decide),a,ns,3+3*i,rfl,sx.seq hS,λc5 H7 s7=>?_⟩;walk_at "n";refine⟨La (by decide) (by decide),a,ns,4+3*i,rfl,(sx.trans s7).seq hS,λc6 H8 s8=>?_⟩;walk_at "n";refine⟨La (by decide) (by decide),a,ns,5+3*i,rfl,(sx.trans (s7.trans s8)).seq hS,λc7 H9 s9=>?_⟩;walk_at "n";obtain⟨dv,cn,ce⟩:=aar (xs:=[0,1,0,40]) (by simp) (c5/8);refine⟨sz,λp hp=>⟨nT (by decide) (by decide),by decide,_,fj eX,.int dv,ce,dv,rfl,?_⟩⟩;have bk:=eZ (o:=.lst [V.int 0,V.int 1,V.int 0,V.int 40]) hp;generalize upd H9 p (.lst [V.int 0,V.int 1,V.int 0,V.int 40])=cp at bk⊢;have bn:=s7.trans (s8.trans (s9.trans bk));obtain⟨w,hw,ch⟩:=aeR (x:=x) (c5/32);walk_at "n";refine⟨_,bn _ _ az,(show(2:Nat)<=1000 by decide),λpw au=>⟨nT (by decide) (by decide),by decide,_,fj eX,.str w,ch,?_⟩⟩;have bp:=bn.trans (eZ (o:=.lst [V.str "wool",V.str x]) au);have bm:(kv2 x (tl.map (·.2))).map (λkv=>kV kv.1)=[V.str "wool",V.str x]:=rfl;rw[bm];generalize upd cp pw (.lst [V.str "wool",V.str x])=cs at bp⊢;clear s7 s8 s9 bk bn hp au;obtain⟨mp,br,cc⟩:=aar (xs:=[12,10^Int.toNat 9+1]) (by simp) c7;walk_at "n"
   have bf:0<mp/\mp<=1000000001:=by
    rcases zzb.mp br with rfl|br
    ·decide
    ·rw[z9.mp br];decide
   refine⟨nT (by decide) (by decide),WN (by decide) (by decide),sz,λpp cg=>⟨by decide,_,fj eX,.int mp,cc,mp,rfl,bf.1,?_⟩⟩;have ax:=bp.trans (eZ (o:=.lst [V.int 12,V.int (10^Int.toNat 9+1)]) cg);generalize upd cs pp (.lst [V.int 12,V.int (10^Int.toNat 9+1)])=bu at ax⊢;have r0:=zz0 (c7/2) (show mp≠0 by omega);have r1:=zzT (c7/2) bf.1;generalize c7/2%mp=r at r0 r1⊢;clear bp cg cc ch ce;have am:=ax _ _ az;have ag:=ax _ _ bc;have bg:=bx.same ax;have cd:=sx.trans ax
   have bb:Nm w:=by
    rcases zzb.mp hw with rfl|hw
    ·unfold Nm;decide+kernel
    ·rw[z9.mp hw];exact b8
   have cv:0<=dv/\dv<=40:=by simp at cn;omega
   have hG:Ir bu pd (V.str w) (some (.int (runC (tl.map (·.2)) w))):=oh ac hw▸nH (k:=Sum.inr w) am;have cw:i<18:=by omega
   have b7:tl.length<=i:=by have:=ab.c;rwa [z0]at this
   have cx:=ab.d.1;by_cases hb:c5%8<4\/runC (tl.map (·.2)) w=0
   ·refine Ac λs' u' cf cb=>?_
    walk_at "i";refine⟨by decide,aeC hb hG ?_⟩;subst cf;walk_at "n";obtain⟨mq,ad,bs⟩:=aar (xs:=[9,10^Int.toNat 9]) (by simp) c6
    have ak:0<mq/\mq<=1000000000:=by
     rcases zzb.mp ad with rfl|ad
     ·decide
     ·rw[z9.mp ad];decide
    refine⟨nT (by decide) (by decide),WN (by decide) (by decide),sz,λpq bj=>⟨by decide,_,fj eX,.int mq,bs,mq,rfl,ak.1,?_⟩⟩;have aa:=eZ (o:=.lst [V.int 9,V.int (10^Int.toNat 9)]) bj;generalize upd bu pq (.lst [V.int 9,V.int (10^Int.toNat 9)])=av at aa⊢;have p0:=zz0 (c6/2) (show mq≠0 by omega);have p1:=zzT (c6/2) ak.1;generalize c6/2%mq=pc at p0 p1⊢;have ct:Ir av pd (V.str w) (some (.int (runC (tl.map (·.2)) w))):=oh ac hw▸nH (k:=Sum.inr w) (aa _ _ am);walk_at "n";refine⟨tyL (fj (aa _ _ ag)),La (by decide) (by decide),sz,λt ht=>?_⟩;obtain⟨R1,R2,R3,R4,R5⟩:=Qd (e:=.buy (q+dv) (5*i) w (1+pc) r 0) (kv':=kv2 x (tl.map (·.2)++[.buy (q+dv) (5*i) w (1+pc) r 0])) (cd.trans aa) ay aj (aa _ _ ag) (bg.same aa) (aa _ _ am) ht rfl;refine⟨_,eZ ht _ _ (aa _ _ ag),by rw[gH,zzk];omega,?_⟩;walk_at "i";refine⟨_,oh ac hw▸nH (k:=Sum.inr w) R5,_,rfl,_,qD (k:=Sum.inr w) R5 (by rw[zzk];show(2:Nat)<_;decide),?_⟩;rw[Qh (e:=.buy (q+dv) (5*i) w (1+pc) r 0) ac hw (z8 rfl) λz hz=>z4 hz];refine hN _ _ ⟨tl++[(t,Ent.buy (q+dv) (5*i) w (1+pc) r 0)],_,_,_,_,_,_,_,_,rfl,R1,R2,R3,by rw[zza];exact R4,?_,by omega⟩;rw[zza];exact ab.buy ac (by omega) hw bb ⟨by omega,by omega⟩ ⟨by omega,by omega,by omega,by omega⟩ ⟨by omega,by omega⟩ ⟨r0,by omega⟩
   ·refine Ac λs' u' cf cb=>?_
    walk_at "i";refine⟨by decide,ack hb hG ?_⟩;subst cb;walk_at "n";have aw:0<runC (tl.map (·.2)) w:=by have:=ab.z w;omega
    refine⟨nT (by decide) (by decide),WN (by decide) (by decide),_,hG,?_⟩;unfold afz;refine⟨_,_,rfl,_,hG,_,_,rfl,sz,λpq bj=>?_⟩;obtain⟨mq,ad,bs⟩:=aar (xs:=[if runC (tl.map (·.2)) w<10^Int.toNat 9 then runC (tl.map (·.2)) w else 10^Int.toNat 9,if runC (tl.map (·.2)) w<9 then runC (tl.map (·.2)) w else 9]) (by simp) c6
    have ak:0<mq/\mq<=1000000000/\mq<=runC (tl.map (·.2)) w:=by
     rw[show(10:Int)^Int.toNat 9=1000000000 by decide]at ad;rcases zzb.mp ad with rfl|ad
     ·split<;>omega
     ·rw[z9.mp ad];split<;>omega
    refine⟨by decide,_,fj eX,.int mq,bs,mq,rfl,ak.1,?_⟩;have aa:=eZ (o:=.lst [V.int (if runC (tl.map (·.2)) w<10^Int.toNat 9 then runC (tl.map (·.2)) w else 10^Int.toNat 9),V.int (if runC (tl.map (·.2)) w<9 then runC (tl.map (·.2)) w else 9)]) bj;generalize upd bu pq (.lst [V.int (if runC (tl.map (·.2)) w<10^Int.toNat 9 then runC (tl.map (·.2)) w else 10^Int.toNat 9),V.int (if runC (tl.map (·.2)) w<9 then runC (tl.map (·.2)) w else 9)])=av at aa⊢;have p0:=zz0 (c6/2) (show mq≠0 by omega);have p1:=zzT (c6/2) ak.1;generalize c6/2%mq=pc at p0 p1⊢;walk_at "n";refine⟨tyL (fj (aa _ _ ag)),La (by decide) (by decide),sz,λt ht=>?_⟩;obtain⟨R1,R2,R3,R4,R5⟩:=Qd (e:=.sell (q+dv) (5*i) w (1+pc) r 0 none) (kv':=kv2 x (tl.map (·.2)++[.sell (q+dv) (5*i) w (1+pc) r 0 none])) (cd.trans aa) ay aj (aa _ _ ag) (bg.same aa) (aa _ _ am) ht rfl;refine⟨_,eZ ht _ _ (aa _ _ ag),by rw[gH,zzk];omega,?_⟩;walk_at "i";refine⟨_,oh ac hw▸nH (k:=Sum.inr w) R5,_,rfl,_,qD (k:=Sum.inr w) R5 (by rw[zzk];show(2:Nat)<_;decide),?_⟩;rw[Qh (e:=.sell (q+dv) (5*i) w (1+pc) r 0 none) ac hw (z8 rfl) λz hz=>z4 hz];refine hN _ _ ⟨tl++[(t,Ent.sell (q+dv) (5*i) w (1+pc) r 0 none)],_,_,_,_,_,_,_,_,rfl,R1,R2,R3,by rw[zza];exact R4,?_,by omega⟩;rw[zza];have b5:=ab.s;have c0:(tl.map (·.2)).length<=i:=ab.c;exact ab.sell (by omega) hw bb ⟨by omega,by omega⟩ ⟨by omega,by omega,by omega,by omega⟩ ⟨by omega,by omega,by omega⟩ ⟨r0,by omega⟩ (by omega) (by omega) (by omega) ac
  ·rintro σ Hx ⟨tl,q,v4,v5,v6,v7,v8,v9,ae,rfl,sx,bc,bx,az,ab,cq⟩
   subst hu;walk_at "n";refine⟨a,ns,1,rfl,sx.seq hS,λg9 av aa=>⟨_,rfl,nT (by decide) (by decide),WN (by decide) (by decide),by decide,?_⟩⟩;have r0:=zz0 (g9/7) (show(10:Int)^Int.toNat 9≠0 by decide);have r1:=zzT (g9/7) (show(0:Int)<10^Int.toNat 9 by decide);generalize g9/7%10^Int.toNat 9=r at r0 r1⊢;rw[show(10:Int)^Int.toNat 9=1000000000 by decide]at r1;have b7:tl.length<=m:=by have:=ab.c;rwa [z0]at this
   have b5:=ab.s;have cr:=ab.z "wool";have cm:=ab.z x
   (try dsimp only)
   refine gA λu hu=>?_;rw[ap_seq];refine qx λtb bo=>?_;rw[ap_for];walk_at "i";refine⟨_,aa _ _ az,(show(2:Nat)<=1000 by decide),λpw au=>⟨⟨_,fj eX⟩,?_⟩⟩;have bm:(kv2 x (tl.map (·.2))).map (λkv=>kV kv.1)=(W2 x).map V.str:=rfl;rw[bm];have ar:=aa.trans (eZ (o:=.lst ((W2 x).map V.str)) au);have b1:(upd av pw (.lst ((W2 x).map V.str))) pw=some (.lst ((W2 x).map V.str)):=eX;generalize upd av pw (.lst ((W2 x).map V.str))=c1 at ar b1⊢;have co:=sx.trans ar;have b0:pw≠rl:=(fU (aa _ _ bc) au).symm
   refine CN.listN (K:=K) (a:=pw) (xs:=(W2 x).map V.str) (λj σ Hy=>∃(tl:EL)(v4 v5 v6 v7 v8 ae:Option V),σ=[some (.ref a),some (.ref rl),some (.ref pd),some (.int q),v4,v5,v6,v7,v8,some (.int r),ae]/\Same H Hy/\Hy pw=some (.lst ((W2 x).map V.str))/\Hy rl=some (.lst (iz tl))/\JT Hy tl/\Hy pd=some (.dK (kv2 x (tl.map (·.2))))/\Drw x (tl.map (·.2)) (q+1) (200+tl.length) 50/\tl.length+(runC (tl.map (·.2)) "wool" +999999999)/1000000000+(runC (tl.map (·.2)) x+999999999)/1000000000<=40)
    ⟨tl,_,_,_,_,_,_,rfl,co,b1,ar _ _ bc,bx.same ar,ar _ _ az,⟨ab.h,⟨by have:=ab.d.1;omega,λe he=>by have:=ab.d.2 e he;omega⟩,by have:=ab.c;omega,ab.z,by omega,ab.b,λ_=>ab.e (by omega)⟩,by omega⟩ (λj σ Hy _ ⟨_,_,_,_,_,_,_,_,_,h,_⟩=>fj h) ?_ ?_
   ·rintro j y σ Hy hj ⟨tl,v4,v5,v6,v7,v8,ae,rfl,sy,bl,be,ba,ao,ai,bt⟩ N hN
    obtain⟨w,hw,rfl⟩:=z3.mp (zzp hj)
    have bb:Nm w:=by
     rcases zzb.mp hw with rfl|hw
     ·unfold Nm;decide+kernel
     ·rw[z9.mp hw];exact b8
    subst bo;rw[ap_name]
    refine ⟨λmm σ Hz=>∃(tl:EL)(ae:Option V),mm=(runC (tl.map (·.2)) w).toNat/\σ=[some (.ref a),some (.ref rl),some (.ref pd),some (.int q),v4,v5,v6,v7,some (.str w),some (.int r),ae]/\Same H Hz/\Hz pw=some (.lst ((W2 x).map V.str))/\Hz rl=some (.lst (iz tl))/\JT Hz tl/\Hz pd=some (.dK (kv2 x (tl.map (·.2))))/\Drw x (tl.map (·.2)) (q+1) (200+tl.length) 50/\tl.length+(runC (tl.map (·.2)) "wool" +999999999)/1000000000+(runC (tl.map (·.2)) x+999999999)/1000000000<=40,
     ⟨_,tl,ae,rfl,rfl,sy,bl,be,ba,ao,ai,bt⟩,?_⟩
    clear ai bt ao ba be bl sy;rintro mm σ Hz ⟨tl,ae,rfl,rfl,bq,bh,bz,bv,bd,al,ca⟩;have hG:Ir Hz pd (V.str w) (some (.int (runC (tl.map (·.2)) w))):=oh ac hw▸nH (k:=Sum.inr w) bd;have cy:=al.z w;have cr:=al.z "wool";have cm:=al.z x;have hlz':(tl.map (·.2)).length=tl.length:=z0 _;walk_at "i";refine⟨_,hG,_,rfl,?_⟩;by_cases aw:0<runC (tl.map (·.2)) w
    ·rw[z8 aw]
     refine⟨a,ns,0,rfl,bq.seq hS,λg cz ah=>⟨g,rfl,nT (by decide) (by decide),by decide,?_⟩⟩;have b9:=bq.trans ah;by_cases hg:g/18%2=1
     ·rw[z8 hg]
      refine Mg (λσ' H'=>∃(af:EL)(ae:Option V),(runC (af.map (·.2)) w).toNat<(runC (tl.map (·.2)) w).toNat/\σ'=[some (.ref a),some (.ref rl),some (.ref pd),some (.int q),v4,v5,v6,v7,some (.str w),some (.int r),ae]/\Same H H'/\H' pw=some (.lst ((W2 x).map V.str))/\H' rl=some (.lst (iz af))/\JT H' af/\H' pd=some (.dK (kv2 x (af.map (·.2))))/\Drw x (af.map (·.2)) (q+1) (200+af.length) 50/\af.length+(runC (af.map (·.2)) "wool" +999999999)/1000000000+(runC (af.map (·.2)) x+999999999)/1000000000<=40) (λσ' H' ⟨af,v,h0,h⟩=>⟨_,h0,af,rfl,v,h⟩) λN1 cj=>?_;have as:=ah _ _ bd;have ap:=ah _ _ bz;walk_at "n";refine⟨WN (by decide) (by decide),_,oh ac hw▸nH (k:=Sum.inr w) as,?_⟩;unfold afz;refine⟨_,_,rfl,?_⟩;rw[show(10:Int)^Int.toNat 9=1000000000 by decide];obtain⟨mq,ad⟩:∃mq,mq=if runC (tl.map (·.2)) w<1000000000 then runC (tl.map (·.2)) w else 1000000000:=⟨_,rfl⟩;rw[<-ad];have ck:1<=mq/\mq<=1000000000/\mq<=runC (tl.map (·.2)) w:=by rw[ad];split<;>omega
      walk_at "n";refine⟨tyL (fj ap),_,.inl (fj ap),sz,λt ht=>?_⟩;rw[gH];obtain⟨R1,R2,R3,R4,R5⟩:=Qd (e:=Ent.sell (q+1) (200+tl.length) w mq r 0 none) (kv':=kv2 x (tl.map (·.2)++[Ent.sell (q+1) (200+tl.length) w mq r 0 none])) b9 ay aj ap (bv.same ah) as ht rfl;have cu:tl.length<=40:=by omega
      refine⟨_,eZ ht _ _ ap,by rw[gH,zzk];omega,?_⟩;walk_at "i";refine⟨_,oh ac hw▸nH (k:=Sum.inr w) R5,_,rfl,_,qD (k:=Sum.inr w) R5 (by rw[zzk];show(2:Nat)<_;decide),?_⟩;rw[Qh (e:=Ent.sell (q+1) (200+tl.length) w mq r 0 none) ac hw (z8 rfl) λz hz=>z4 hz];have bi:∀z,runC ((tl++[(t,Ent.sell (q+1) (200+tl.length) w mq r 0 none)]).map (·.2)) z=if z=w then runC (tl.map (·.2)) w - mq else runC (tl.map (·.2)) z:=λz=>by rw[zza];show runC (_++[Ent.sell (q+1) (200+tl.length) w mq r 0 none]) z=_;rw[jg];rfl
      have an:=ah _ _ bh;have b6:((tl++[(t,Ent.sell (q+1) (200+tl.length) w mq r 0 none)]).length:Int)=tl.length+1:=by rw[zzt];rfl
      refine cj _ _ ⟨tl++[(t,Ent.sell (q+1) (200+tl.length) w mq r 0 none)],_,?_,rfl,R1,?_,R2,R3,by rw[zza];exact R4,?_,?_⟩
      ·rw[bi,z8 rfl];omega
      ·have bw:pw≠pd:=λe=>by rw[e,as]at an;cases an
       rw[fC bw,fC b0,fC (fU an ht)];exact an
      ·rw[b6,zza]
       have b5:=al.s;exact al.sell (by omega) hw bb ⟨zz3 _,by omega⟩ ⟨zz3 _,by omega,by omega,by omega⟩ ck ⟨r0,by omega⟩ (by decide) (by omega) (by omega) ac
      ·rw[b6,bi,bi]
       rcases zzb.mp hw with rfl|hw
       ·rw[z8 rfl,z4 ac]
        by_cases c:runC (tl.map (·.2)) "wool" <1000000000
        ·rw[z8 c]at ad;omega
        ·rw[z4 c]at ad;omega
       ·obtain rfl:=z9.mp hw
        rw[z8 rfl,z4 (λe=>ac e.symm)];by_cases c:runC (tl.map (·.2)) w<1000000000
        ·rw[z8 c]at ad;omega
        ·rw[z4 c]at ad;omega
     ·rw[z4 hg]
      exact hN _ _ ⟨tl,_,_,_,_,_,_,rfl,b9,ah _ _ bh,ah _ _ bz,bv.same ah,ah _ _ bd,al,ca⟩
    ·rw[z4 aw]
     exact hN _ _ ⟨tl,_,_,_,_,_,_,rfl,bq,bh,bz,bv,bd,al,ca⟩
   ·rintro σ Hy ⟨tl,v4,v5,v6,v7,v8,ae,rfl,sy,bl,be,ba,ao,ai,bt⟩
    subst hu;walk_at "a";refine⟨sz,λt ht=>?_⟩;have st:=eZ (o:=.tup [V.ref rl,V.ref pd]) ht;exact k t rl pd x tl _ (sy.trans st) eX (st _ _ be) (ba.same st) (st _ _ ao) ac ai.h ai.z (λe=>ai.e (by decide) (by rw[e];rfl)) (by have h1:=ai.z "wool";have h2:=ai.z x;omega) ay aj
abbrev Ks:=List (Int×Int)
noncomputable def kvI(ks:Ks):List (Key×V):=ks.map λp=>(Sum.inl p.1,.int p.2)
structure aak(ks:Ks):Prop where
 u:(ks.map (·.1)).Nodup
 p:∀q∈ks,1<=q.2
noncomputable def smK(ks:Ks):Int:=(ks.map (·.2)).sum
theorem Dj:∀(ks:Ks)(n:Int),jo (kvI ks) (Sum.inl n)=(ks.lookup n).map V.int
 |[],_=>rfl
 |q::ks,n=>by
  show jo ((Sum.inl q.1,V.int q.2)::kvI ks) (Sum.inl n)=_;obtain⟨x,y⟩:=q;rw[zzP];by_cases c:n=x
  ·rw[gC (by rw[c]),c,beq_self_eq_true];rfl
  ·rw[gD (λe=>c (Zm e).symm),Dj ks n,show(n==x)=false by simpa using c]
def abt{ks:Ks}{n:Int}(h:1<=lkP ks n):(n,lkP ks n)∈ks/\ks.lookup n=some (lkP ks n):=by
 unfold lkP at h⊢
 cases e:ks.lookup n with
 |none=>rw[e]at h;have h:(1:Int)<=0:=h;omega
 |some w=>exact⟨IW e,rfl⟩
def Yn{ks:Ks}{q:Int×Int}(h:aak ks)(z:q∈ks):lkP ks q.1=q.2:=by unfold lkP;rw[Jr h.u z];rfl
def DY{ks:Ks}{n:Int}(h:n∉ks.map (·.1)):lkP ks n=0:=by unfold lkP;rw[mX h];rfl
noncomputable def rpl(ks:Ks)(n i:Int):Ks:=ks.map λq=>if q.1=n then(n,i)else q
def Qw(ks:Ks)(n i:Int):(rpl ks n i).map (·.1)=ks.map (·.1):=by
 unfold rpl;rw[zzj];refine zzy λq _=>?_;show(if q.1=n then(n,i)else q).1=q.1;split
 ·next e=>exact e.symm
 ·rfl
def Vq{ks:Ks}{n i:Int}(h:n∈ks.map (·.1)):putK (kvI ks) (Sum.inl n) (.int i)=kvI (rpl ks n i):=by
 unfold putK
 have hv:jo (kvI ks) (Sum.inl n)≠none:=by
  rw[Dj];intro c;obtain⟨q,z,e⟩:=z3.mp h
  cases hl:ks.lookup n with
  |some w=>rw[hl]at c;cases c
  |none=>
   have:∀{ks:Ks},q∈ks->ks.lookup q.1≠none:=fun{ks} z=>by
    induction ks with
    |nil=>cases z
    |cons a ks ih=>
     obtain⟨x,y⟩:=a;rw[zzP];by_cases c:q.1=x
     ·rw[c,beq_self_eq_true];exact λe=>by cases e
     ·rw[show(q.1==x)=false by simpa using c]
      exact ih ((zzb.mp z).resolve_left λe=>c (by rw[e]))
   exact this z (e▸hl)
 rw[z8 (by rw[jn];cases e:jo (kvI ks) (Sum.inl n)with|none=>exact(hv e).elim|some _=>rfl)];unfold kvI rpl;rw[zzj,zzj];refine zzy λq _=>?_;show(if(Sum.inl q.1:Key)=Sum.inl n then((Sum.inl q.1:Key),V.int i)else(Sum.inl q.1,V.int q.2))=(Sum.inl (if q.1=n then(n,i)else q).1,V.int (if q.1=n then(n,i)else q).2);by_cases c:q.1=n
 ·rw[z8 (by rw[c]),z8 c,c]
 ·rw[z4 (λe=>c (Zm e)),z4 c]
def aea{ks:Ks}{n i m:Int}(h:n∈ks.map (·.1)):lkP (rpl ks n i) m=if m=n then i else lkP ks m:=by
 unfold lkP rpl
 induction ks with
 |nil=>cases h
 |cons a ks ih=>
  obtain⟨x,y⟩:=a;rw[z6];by_cases c:x=n
  ·subst c
   rw[show(if(x,y).1=x then(x,i)else(x,y))=(x,i)from z8 rfl,zzP,zzP];by_cases z:m=x
   ·rw[z,beq_self_eq_true,z8 rfl];rfl
   ·rw[show(m==x)=false by simpa using z,z4 z]
    by_cases hk:x∈ks.map (·.1)
    ·rw[ih hk,z4 z]
    ·rw[show(ks.map λq=>if q.1=x then(x,i)else q)=ks from(zzy λq hq=>z4 λe:q.1=x=>hk (e▸z3.mpr ⟨q,hq,rfl⟩)).trans (ZF _)]
  ·rw[show(if(x,y).1=n then(n,i)else(x,y))=(x,y)from z4 c,zzP,zzP]
   have hk:n∈ks.map (·.1):=(zzb.mp h).resolve_left λe=>c e.symm;by_cases z:m=x
   ·rw[z,beq_self_eq_true,z4 c]
   ·rw[show(m==x)=false by simpa using z]
    exact ih hk
def aes{ks:Ks}{n i:Int}(hu:(ks.map (·.1)).Nodup)(h:n∈ks.map (·.1)):smK (rpl ks n i)=smK ks - lkP ks n+i:=by
 unfold smK lkP rpl
 induction ks with
 |nil=>cases h
 |cons a ks ih=>
  obtain⟨x,y⟩:=a;obtain⟨h1,h2⟩:=zzw.mp hu;rw[z6,z6,z6,zzr,zzr,zzP];by_cases c:x=n
  ·subst c
   rw[z8 rfl,beq_self_eq_true,show(ks.map λq=>if q.1=x then(x,i)else q)=ks from(zzy λq hq=>z4 λe:q.1=x=>h1 (e▸z3.mpr ⟨q,hq,rfl⟩)).trans (ZF _)];show i+_=y+_ - y+i;omega
  ·have z:n∈ks.map (·.1):=(zzb.mp h).resolve_left λe=>c e.symm
   rw[z4 c,show(n==x)=false by simpa using λe=>c e.symm,ih h2 z];show y+_=y+_ - (List.lookup n ks).getD 0+i;omega
noncomputable def drp(ks:Ks)(n:Int):Ks:=ks.filter λq=>decide (q.1≠n)
def aed(ks:Ks)(n:Int):Eo (kvI ks) (Sum.inl n)=kvI (drp ks n):=by
 unfold Eo kvI drp;rw[Zi];congr 1;refine ZZ λq _=>?_;by_cases c:q.1=n
 ·simp[c]
 ·simp[c]
def aeg{ks:Ks}{n m:Int}:lkP (drp ks n) m=if m=n then 0 else lkP ks m:=by
 unfold lkP drp
 induction ks with
 |nil=>split<;>rfl
 |cons a ks ih=>
  obtain⟨x,y⟩:=a;by_cases c:x=n
  ·subst c
   rw[zzA (by simp),ih,zzP];by_cases q:m=x
   ·rw[z8 q,z8 q]
   ·rw[z4 q,z4 q,show(m==x)=false by simpa using q]
  ·rw[zzE (by simpa using c),zzP,zzP]
   by_cases q:m=x
   ·rw[q,beq_self_eq_true,z4 c]
   ·rw[show(m==x)=false by simpa using q]
    exact ih
def adY{ks:Ks}{n:Int}(q:(ks.map (·.1)).Nodup):smK (drp ks n)=smK ks - lkP ks n:=by
 unfold smK lkP drp
 induction ks with
 |nil=>rfl
 |cons a ks ih=>
  obtain⟨x,y⟩:=a;obtain⟨h1,h2⟩:=zzw.mp q;by_cases c:x=n
  ·subst c
   rw[zzA (by simp),ih h2,zzP,beq_self_eq_true,z6,zzr,mX h1];show _ - 0=y+_ - y;omega
  ·rw[zzE (by simpa using c),z6,zzr,ih h2,z6,zzr,zzP,show(n==x)=false by simpa using λe=>c e.symm]
   show y+_=y+_ - (List.lookup n ks).getD 0;omega
noncomputable def GD(ns:List Int):List V:=ns.map V.int
noncomputable def smN(ks:Ks)(ns:List Int):Int:=(ns.map (lkP ks)).sum
structure NmI(ks:Ks)(w wx:Int)(ns:List Int)(rs:Rs):Prop where
 n:ns.Nodup
 k:∀n∈ns,n∈ks.map (·.1)
 u:(rs.map (·.2.1)).Nodup
 d:∀r∈rs,r.2.1∉ns
 b:∀r∈rs,1<=r.2.2/\r.2.2<=lkP ks r.2.1
 s:(rs.map (·.2.2)).sum+wx=w
 w0:0<=wx
 le:wx<=smN ks ns
 l:rs.length+ns.length<=ks.length
theorem nD:∀{l:List Int}{i:Nat}(h:i<l.length),(l[i]::l.eraseIdx i).Perm l
 |x::l,0,_=> .refl _
 |x::l,i+1,h=>by
  have hi:i<l.length:=by simpa using h
  have q:=nD hi;show(l[i]::x::l.eraseIdx i).Perm (x::l);exact(List.Perm.swap _ _ _).trans (q.cons x)
theorem HN:∀(ns:List Int)(j:Nat),(GD ns).eraseIdx j=GD (ns.eraseIdx j)
 |[],_=>rfl
 |_::_,0=>rfl
 |x::ns,j+1=>by show V.int x::(GD ns).eraseIdx j=_;rw[HN ns j];rfl
def Pu{ks:Ks}{n w m:Int}(h:n∉ks.map (·.1)):lkP (ks++[(n,w)]) m=lkP ks m+if m=n then w else 0:=by
 unfold lkP;rw[FJ];by_cases c:m=n
 ·rw[z8 c,z8 c,c,mX h]
  show w=0+w;omega
 ·rw[z4 c,z4 c,yyo]
  cases ks.lookup m<;>rfl
structure Lft(ks:Ks)(ps:Ks)(ks':Ks):Prop where
 o:aak ks'
 a:∀n,lkP ks' n=lkP ks n - lkP ps n
 s:smK ks'=smK ks - (ps.map (·.2)).sum
 l:ks'.length<=ks.length
 k:∀n∈ks'.map (·.1),n∈ks.map (·.1)
def Lft.put{ks ps ks':Ks}{n w:Int}(h:Lft ks ps ks')(hn:n∉ps.map (·.1))(hw:w<lkP ks n)(hm:n∈ks'.map (·.1)):Lft ks (ps++[(n,w)]) (rpl ks' n (lkP ks' n - w)):=by
 have h1:=h.a n;rw[DY hn]at h1;refine⟨⟨by rw[Qw];exact h.o.u,λq z=>?_⟩,λm=>?_,?_,by unfold rpl;rw[z0];exact h.l,by rw[Qw];exact h.k⟩
 ·obtain⟨a,ha,rfl⟩:=z3.mp z
  by_cases c:a.1=n
  ·rw[z8 c];show 1<=lkP ks' n - w;omega
  ·rw[z4 c];exact h.o.p a ha
 ·rw[aea hm,Pu hn]
  by_cases c:m=n
  ·rw[z8 c,z8 c,c,DY hn];omega
  ·rw[z4 c,z4 c,h.a m];omega
 ·rw[aes h.o.u hm,zza,zz5,h.s]
  show _=_ - (_+(w+0));omega
def Lft.drop{ks ps ks':Ks}{n w:Int}(h:Lft ks ps ks')(hn:n∉ps.map (·.1))(hw:w=lkP ks n):Lft ks (ps++[(n,w)]) (drp ks' n):=by
 have h1:=h.a n;rw[DY hn]at h1;have z:(drp ks' n).Sublist ks':=List.filter_sublist;refine⟨⟨(z.map _).nodup h.o.u,λq hq=>h.o.p q (z.subset hq)⟩,λm=>?_,?_,zzK z.length_le h.l,λm hm=>h.k m ((z.map _).subset hm)⟩
 ·rw[aeg,Pu hn]
  by_cases c:m=n
  ·rw[z8 c,z8 c,c,DY hn];omega
  ·rw[z4 c,z4 c,h.a m];omega
 ·rw[adY h.o.u,zza,zz5,h.s]
  show _=_ - (_+(w+0));omega
theorem VP(n i:Int):∀ks:Ks,drp (rpl ks n i) n=drp ks n
 |[]=>rfl
 |a::ks=>by
  have q:=VP n i ks;unfold drp rpl at q⊢;rw[z6];by_cases c:a.1=n
  ·rw[z8 c,zzA (by simp),zzA (by simp[c]),q]
  ·rw[z4 c,zzE (by simpa using c),zzE (by simpa using c),q]
def abW{ks:Ks}(h:aak ks):smN ks (ks.map (·.1))=smK ks:=by
 unfold smN smK;rw[zzj];have h1:∀q∈ks,(lkP ks∘λx:Int×Int=>x.1) q=q.2:=λq z=>Yn h z;rw[zzy h1]
def NmI.step{ks:Ks}{w wx s0 s1:Int}{ns ms:List Int}{rs aa:Rs}{n:Int}{t:Addr}(h:NmI ks w wx ns rs)(hK:aak ks)(hp:(n::ms).Perm ns)(h0:s0=min wx (lkP ks n))(h1:s1=s0\/(s1=s0/2/\wx<=smN ks ms+s1))(hw:0<wx)(hr:(0<s1/\aa=rs++[(t,n,s1)])\/(s1<=0/\aa=rs)):NmI ks w (wx - s1) ms aa:=by
 have ae:=hp.nodup_iff.mpr h.n;obtain⟨ad,ab⟩:=zzw.mp ae;have z:∀x∈n::ms,x∈ns:=λx hx=>hp.mem_iff.mp hx
 have af:lkP ks n+smN ks ms=smN ks ns:=by
  have:=oO (hp.map (lkP ks));exact this
 have ac:=hp.length_eq;rw[zzu]at ac;obtain⟨q,hq,e⟩:=z3.mp (h.k n (z n (.head _)));have ah:=hK.p q hq;have ai:lkP ks n=q.2:=by rw[<-e];exact Yn hK hq
 have aj:=h.le;have hs:=h.s;have hl:=h.l;have ag:0<=s1/\s1<=s0:=by rcases h1 with h1|⟨h1,_⟩<;>omega
 have hd:∀r∈rs,r.2.1∉ms:=λr hr c=>h.d r hr (z _ (.tail _ c))
 have ak:0<=smN ks ms:=jN λy hy=>by
  obtain⟨x,hx,rfl⟩:=z3.mp hy;obtain⟨a,ha,e⟩:=z3.mp (h.k x (z x (.tail _ hx)));rw[<-e,Yn hK ha];have:=hK.p a ha;omega
 have hle':wx - s1<=smN ks ms:=by rcases h1 with h1|⟨h1,h2⟩<;>omega
 rcases hr with⟨c,rfl⟩|⟨c,rfl⟩
 ·refine⟨ab,λx hx=>h.k x (z x (.tail _ hx)),?_,λr hr=>?_,λr hr=>?_,?_,by omega,hle',by rw[zzt];show rs.length+1+_<=_;omega⟩
  ·rw[zza]
   refine zzS.mpr ⟨h.u,by simp,λx hx y hy e=>?_⟩;obtain⟨r,hr,rfl⟩:=z3.mp hx;have hy:y=n:=z9.mp hy;exact h.d r hr (by rw[e,hy];exact z n (.head _))
  ·rcases zzs.mp hr with hr|hr
   ·exact hd r hr
   ·rw[z9.mp hr];exact ad
  ·rcases zzs.mp hr with hr|hr
   ·exact h.b r hr
   ·rw[z9.mp hr];exact⟨by show 1<=s1;omega,by show s1<=lkP ks n;omega⟩
  ·rw[zza,zz5]
   show _+(s1+0)+_=w;omega
 ·exact⟨ab,λx hx=>h.k x (z x (.tail _ hx)),h.u,hd,h.b,by omega,by omega,hle',by omega⟩
noncomputable def JC:Sp:=λvs H Q _=>∃(ld:Addr)(w tn:Int)(ks:Ks),vs=[.ref ld,.int w,.int tn]/\H ld=some (.dK (kvI ks))/\aak ks/\ks.length<=60/\0<=w/\w<=smK ks/\
 ∀(pl:Addr)(rs:Rs)(ks':Ks)(H':Hp),But ld H H'->H pl=none->H' pl=some (.lst (refs rs))->QC H' rs->(rs.map (·.2.1)).Nodup->(∀r∈rs,1<=r.2.2/\r.2.2<=lkP ks r.2.1)->(rs.map (·.2.2)).sum=w->rs.length<=ks.length->H' ld=some (.dK (kvI ks'))->aak ks'->(∀n,lkP ks' n=lkP ks n - lkP (rs.map (·.2)) n)->smK ks'=smK ks - w->ks'.length<=ks.length->(∀n∈ks'.map (·.1),n∈ks.map (·.1))->Q (.ref pl) H'
def Js(T:Txt K mg A D):gJ P w K mg base CX0 1 A.uh D.uh ["_law_left", "_law_wanted", "_law_turn"] JC:=by
 refine T.wk.F.okv gB λ_ _ _ _ H vs Q E hr h=>?_
 ·obtain⟨ld,w,tn,ks,rfl,ba,hK,hl,b5,b4,k⟩:=h
  refine ⟨_,(eU (fL (i:=3) gB.nd rfl orl (jc eV))
   (eU (fL (i:=4) gB.nd rfl orl (iT (tW rfl) (by rfl) T.xL (by decide+kernel) (pav 0 eV)))
   (eU (Sq zzM (fK (Jf) (pvD 1) fB (fX _)) (eU (fL (i:=5) gB.nd rfl orl (lW (K:=K) zzF PySem.F.slot_list_pop PySem.F.type_list_pop Yz (pvD 4) (eQ (fQ je (pvD 2) (fH (ji (K:=K)) (by rfl) T.xK (by decide+kernel) (pav 4 eV))) eV)))
    (eU (fL (i:=6) gB.nd rfl orl (fH (pH rfl) (by rfl) T.xM (by decide+kernel) (pav 1 (eQ (jA (jr hr) (pvD 0) (pvD 5) (λ_ _=>rfl)) eV))))
    (eU (iC (PW.pt (Lx (fK (qX) (fQ je (fQ iQ (pvD 2) fB) fB) fB (fX _)) (DG (fK (adB) (pvD 1) (fQ iY (fH (jE (K:=K) rfl) (by rfl) T.xS (by decide+kernel) (eQ (gF (cap:=[none,some 0]) (N':=["_law_other", "_law_left"]) rfl (by walk_at "c") (gm (K:=K) (pv 4)) (λ_ _ _ _=>(fG (i:=0) (show(["_law_other", "_law_left"]:List Str).Nodup from by decide+kernel) rfl orl orr)) (λ_ _ _ _=>gQ) (λ_ _ _ _=>(jA (jr hr) (pvD 1) (pvD 0) (λ_ _=>rfl)))) eV)) (fQ iQ (pvD 6) fB)) (fX _))))) (eY (fL (i:=6) gB.nd rfl orl (fQ iQ (pvD 6) fB))) gn)
    (eU (iC (fK (Jf) (pvD 6) fB (fX _)) (eY (gj (lW (K:=K) zzF zzI zzJ iH (pvD 3) (eQ (jQ (pav 5 (pav 6 eV))) eV)))) gn)
    (eU (fL (i:=1) gB.nd rfl orl (fQ nO (pvD 1) (pvD 6)))
    (eY (fL (i:=2) gB.nd rfl orl (fQ iY (fQ iQ (pvD 2) fB) fB)))))))))
   (eU (kE zzM rfl (gm (K:=K) (pv 3)) (jV (K:=K) (n:=2) rfl (fZ (fG (i:=5) gB.nd rfl orl) (fZ (fG (i:=6) gB.nd rfl orl) jU)))
    (eU (lJ (jr hr) (pvD 0) (pvD 5) (fQ nO (jA (jr hr) (pvD 0) (pvD 5) (λ_ _=>rfl)) (pvD 6)) rfl)
    (eY (iC (fK (qX) (jA (jr hr) (pvD 0) (pvD 5) (λ_ _=>rfl)) fB (fX _)) (eY (gj (Ys (pvD 0) (pvD 5) ⟨rfl,rfl,rfl,rfl⟩))) gn))))
   (eY (fJ (pvD 3))))))),?_⟩
  simp only[start_eq];walk_at "n";refine⟨sz,λpl aq=>?_⟩;have s1:=eZ (o:=.lst []) aq;have h1:(upd H pl (.lst [])) pl=some (.lst []):=eX;generalize upd H pl (.lst [])=H1 at s1 h1;walk_at "n";refine⟨_,s1 _ _ ba,by unfold kvI;rw[z0];omega,λpn am=>?_⟩;have e2:(kvI ks).map (λkv=>kV kv.1)=GD (ks.map (·.1)):=by unfold kvI GD;rw[zzj,zzj];rfl
  rw[e2];have s2:=eZ (o:=.lst (GD (ks.map (·.1)))) am;have h2:(upd H1 pn (.lst (GD (ks.map (·.1))))) pn=some (.lst (GD (ks.map (·.1)))):=eX;generalize upd H1 pn (.lst (GD (ks.map (·.1))))=H2 at s2 h2
  (try dsimp only)
  refine gA λu hu=>?_;rw[ap_seq]
  refine ⟨λmm σ Hz=>∃(wx tx:Int)(ns:List Int)(rs:Rs)(v5 v6:Option V),mm=ns.length/\σ=[some (.ref ld),some (.int wx),some (.int tx),some (.ref pl),some (.ref pn),v5,v6]/\Same H Hz/\Hz pl=some (.lst (refs rs))/\QC Hz rs/\Hz pn=some (.lst (GD ns))/\NmI ks w wx ns rs,
   ⟨_,w,tn,ks.map (·.1),[],_,_,rfl,rfl,s1.trans s2,s2 _ _ h1,λr h=>(zzd h).elim,h2,⟨hK.u,λn h=>h,.nil,λr h=>(zzd h).elim,λr h=>(zzd h).elim,by simp,b5,by rw[abW hK];exact b4,by simp⟩⟩,?_⟩
  rintro mm σ Hz ⟨wx,tx,ns,rs,v5,v6,rfl,rfl,ay,ab,aj,ae,hI⟩;have ad:=ay _ _ ba;have ao:pn≠pl:=λe=>by rw[e,h1]at am;cases am
  walk_at "i";by_cases al:0<wx
  ·rw[z8 al]
   refine Mg (λσ' H'=>∃(wx tx:Int)(ai:List Int)(rs:Rs)(v5 v6:Option V),ai.length<ns.length/\σ'=[some (.ref ld),some (.int wx),some (.int tx),some (.ref pl),some (.ref pn),v5,v6]/\Same H H'/\H' pl=some (.lst (refs rs))/\QC H' rs/\H' pn=some (.lst (GD ai))/\NmI ks w wx ai rs) (λσ' H' ⟨wx,tx,ai,rs,v5,v6,h0,h⟩=>⟨_,h0,wx,tx,ai,rfl,rs,v5,v6,h⟩) λN1 bt=>?_;have bs:ns≠[]:=λe=>by have:=hI.le;rw[e]at this;have:wx<=0:=this;omega
   have b8:0<ns.length:=yyC.mpr bs;have ca:=hI.l;have g1:=zz0 tx (show(ns.length:Int)≠0 by omega);have g2:=zzT tx (show 0<(ns.length:Int) by omega);obtain⟨j,hj⟩:∃j:Nat,(j:Int)=tx%(ns.length:Int):=⟨_,Zg g1⟩;have bc:j<ns.length:=by omega
   have as:(GD ns).length=ns.length:=z0 _;walk_at "n";refine⟨tyL (fj ae),_,.inl (fj ae),by rw[as];omega,?_⟩;rw[as,<-hj];refine⟨pn,GD ns,(j:Int),j,.int ns[j],rfl,rfl,ae,by omega,by omega,(Wn (by unfold ixN;rw[as,z8 (by omega),z8 (by omega)];simp)).1,by unfold GD;rw[zzl,zzg bc];rfl,?_⟩;have aa:=nD bc;have bk:=hI.k ns[j] (yya _);rw[HN];have bh:(ns.eraseIdx j).length<ns.length:=by have:=aa.length_eq;rw[zzu]at this;omega
   have bg:∀x∈ns.eraseIdx j,x∈ks.map (·.1):=λx hx=>hI.k x (aa.mem_iff.mp (.tail _ hx));generalize ns[j]=n at aa bk⊢;generalize ns.eraseIdx j=ms at aa bh bg⊢;have bj:H pn=none:=s1.free am;have S3:Same H (upd Hz pn (.lst (GD ms))):=ay.upd bj;have ag:(upd Hz pn (.lst (GD ms))) pl=some (.lst (refs rs)):=(fC ao.symm).trans ab;have ax:QC (upd Hz pn (.lst (GD ms))) rs:=aj.put ae;have ak:(upd Hz pn (.lst (GD ms))) pn=some (.lst (GD ms)):=eX;generalize upd Hz pn (.lst (GD ms))=H3 at S3 ag ax ak⊢
   have bf:∀{x:Int}{Hq:Hp},Same H Hq->x∈ks.map (·.1)->Ir Hq ld (.int x) (some (.int (lkP ks x))):=fun{x Hq} s hx=>by
    obtain⟨q,hq,e⟩:=z3.mp hx;have hv:jo (kvI ks) (Sum.inl x)=some (.int (lkP ks x)):=by rw[Dj,<-e,Jr hK.u hq,Yn hK hq];rfl
    exact hv▸nH (k:=Sum.inl x) (s _ _ ba)
   walk_at "n";refine⟨_,bf S3 bk,_,_,rfl,?_⟩;obtain⟨s0,be⟩:∃s0,s0=if lkP ks n<wx then lkP ks n else wx:=⟨_,rfl⟩;rw[<-be];have hs0':s0=min wx (lkP ks n):=by rw[be];split<;>omega
   refine lX (λσ' H'=>∃s1,σ'=[some (.ref ld),some (.int wx),some (.int tx),some (.ref pl),some (.ref pn),some (.int n),some (.int s1)]/\Same H3 H'/\(s1=s0\/(s1=s0/2/\wx<=smN ks ms+s1))) ?_ ?_
   ·rintro σ4 H4 ⟨ac,rfl,s4,bm⟩
    have S4:=S3.trans s4;refine lX (λσ' H'=>∃(t:Addr)(af:Rs),σ'=[some (.ref ld),some (.int wx),some (.int tx),some (.ref pl),some (.ref pn),some (.int n),some (.int ac)]/\Same H H'/\H' pl=some (.lst (refs af))/\QC H' af/\H' pn=some (.lst (GD ms))/\((0<ac/\af=rs++[(t,n,ac)])\/(ac<=0/\af=rs))) ?_ ?_
    ·rintro σ5 H5 ⟨t,af,rfl,S5,bl,b2,b6,bo⟩
     walk_at "n";walk_at "i";exact⟨nT (by decide) (by decide),bt _ _ ⟨_,_,ms,af,_,_,bh,rfl,S5,bl,b2,b6,hI.step hK aa hs0' bm al bo⟩⟩
    ·intro N hN
     walk_at "i";by_cases hc:0<ac
     ·rw[z8 hc]
      refine⟨tyL (fj (s4 _ _ ag)),sz,λt ht=>⟨_,eZ ht _ _ (s4 _ _ ag),by rw[Ii,zzk];have:=hI.l;omega,?_⟩⟩;have st:=eZ (o:=.tup [V.int n,V.int ac]) ht;have bp:=st _ _ (s4 _ _ ag);refine hN _ _ ⟨t,rs++[(t,n,ac)],rfl,(S4.trans st).upd aq,?_,λr hr=>?_,(fC ao).trans (st _ _ (s4 _ _ ak)),.inl ⟨hc,rfl⟩⟩
      ·rw[eX];unfold refs;rw[zza];rfl
      ·rcases zzs.mp hr with hr|hr
       ·exact((ax.same (s4.trans st)).put bp) r hr
       ·rw[z9.mp hr]
        exact(fC (fU (s4 _ _ ag) ht).symm).trans eX
     ·rw[z4 hc]
      exact hN _ _ ⟨ld,rs,rfl,S4,s4 _ _ ag,ax.same s4,s4 _ _ ak,.inr ⟨by omega,rfl⟩⟩
   ·intro N hN
    refine Ac λs' u' b3 bd=>?_;walk_at "i";have dv:Tr s0 2:=nT (by decide) (by decide);refine⟨nT (by decide) (by decide),by decide,?_⟩;by_cases c:tx/16%3=1
    ·rw[z8 c]
     refine⟨⟨_,fj ak⟩,?_⟩;refine Nj (f:=V.int) (ys:=ms) (λσ=>∃v,σ=[v,some (.ref ld)]) (λ_ x v _=>v=.int (lkP ks x)) (fj ak) ⟨_,rfl⟩ (by omega) ?_ ?_
     ·rintro Da x hx σ H5 R ⟨_,rfl⟩ sm hD hA kk
      walk_at "i";exact⟨_,bf (S3.trans sm) (bg x hx),kk _ _ _ ⟨_,rfl⟩ (same_refl _) λ_ _=>rfl⟩
     ·intro D6 H6 b7 cb s6 h6 bn
      rw[oW.ints bn]at h6;rw[ap_rSum];refine⟨_,fj h6,dv,_,rfl,?_⟩;by_cases c2:wx<=smN ks ms+s0/2
      ·rw[z8 (by exact c2)]
       subst b3;walk_at "i";exact⟨dv,hN _ _ ⟨s0/2,rfl,s6,.inr ⟨rfl,c2⟩⟩⟩
      ·rw[z4 (by exact c2)]
       subst bd;exact hN _ _ ⟨s0,rfl,s6,.inl rfl⟩
    ·rw[z4 c]
     subst bd;exact hN _ _ ⟨s0,rfl,same_refl _,.inl rfl⟩
  ·rw[z4 al]
   have bz:wx=0:=by have:=hI.w0;omega
   subst bz hu;have ap:pl≠ld:=λe=>by rw[e,ad]at ab;cases ab
   have b0:∀(i:Nat) r,rs[i]? =some r->r.2.1∉((rs.take i).map (·.2)).map (·.1):=λi r hi c=>by
    rw[zzj]at c;exact fresh_at hI.u hi c
   (try dsimp only)
   refine gA λu hu=>?_;rw[ap_seq];refine qx λtb bv=>?_;rw[ap_for];walk_at "i";refine⟨⟨_,fj ab⟩,?_⟩
   refine CN.listN (K:=K) (a:=pl) (xs:=refs rs) (λi σ Hy=>∃(ks':Ks)(v5 v6:Option V),σ=[some (.ref ld),some (.int 0),some (.int tx),some (.ref pl),some (.ref pn),v5,v6]/\But ld Hz Hy/\Hy ld=some (.dK (kvI ks'))/\Lft ks ((rs.take i).map (·.2)) ks')
    ⟨ks,_,_,rfl,λa o _ e=>e,ad,⟨hK,λn=>by show _=_ - 0;omega,by show _=_ - 0;omega,zzc _,λn h=>h⟩⟩ (λi σ Hy _ ⟨_,_,_,_,b,_⟩=>fj (b _ _ ap ab)) ?_ ?_
   ·rintro i y σ Hy hi ⟨ks',bw,b1,rfl,ah,an,z⟩ N hN
    obtain⟨r,aw,rfl⟩:=Ra hi;have az:=zzp aw;have bx:Hy r.1=some (.tup [.int r.2.1,.int r.2.2]):=ah _ _ (λe=>by have:=aj r az;rw[e,ad]at this;cases this) (aj r az);walk_at "i";refine⟨_,gM bx,rfl,_,_,rfl,_,_,rfl,rfl,?_⟩;subst bv;have hb:=hI.b r az;have av:=b0 i r aw;have bq:=z.a r.2.1;rw[DY av]at bq;obtain⟨br,bu⟩:=abt (ks:=ks') (n:=r.2.1) (by omega);have ar:r.2.1∈ks'.map (·.1):=z3.mpr ⟨_,br,rfl⟩;have hv:jo (kvI ks') (Sum.inl r.2.1)=some (.int (lkP ks' r.2.1)):=by rw[Dj,bu];rfl
    have htk:((rs.take (i+1)).map (·.2))=(rs.take i).map (·.2)++[(r.2.1,r.2.2)]:=by rw[zzO,aw,zza];rfl
    have b9:=z.l;rw[htk]at hN;walk_at "n";refine⟨_,hv▸nH (k:=Sum.inl r.2.1) an,_,rfl,_,qD (k:=Sum.inl r.2.1) an (by unfold kvI;rw[z0,zzk];omega),?_⟩;rw[Vq ar];have h7:(upd Hy ld (.dK (kvI (rpl ks' r.2.1 (lkP ks' r.2.1 - r.2.2))))) ld=some (.dK (kvI (rpl ks' r.2.1 (lkP ks' r.2.1 - r.2.2)))):=eX;have au:But ld Hz (upd Hy ld (.dK (kvI (rpl ks' r.2.1 (lkP ks' r.2.1 - r.2.2))))):=λa o ha e=>(fC ha).trans (ah a o ha e);generalize upd Hy ld (.dK (kvI (rpl ks' r.2.1 (lkP ks' r.2.1 - r.2.2))))=H7 at h7 au⊢
    have bi:jo (kvI (rpl ks' r.2.1 (lkP ks' r.2.1 - r.2.2))) (Sum.inl r.2.1)=some (.int (lkP ks' r.2.1 - r.2.2)):=by
     rw[<-Vq ar,Rm,z8 rfl]
    walk_at "i";refine⟨_,bi▸nH (k:=Sum.inl r.2.1) h7,rfl,?_⟩;by_cases c:lkP ks' r.2.1 - r.2.2=0
    ·rw[z8 (by rw[c])]
     refine⟨.inl ⟨_,.inl h7⟩,_,h7,Sum.inl r.2.1,rfl,_,bi,?_⟩;rw[aed,VP];exact hN _ _ ⟨_,_,_,rfl,λa o ha e=>(fC ha).trans (au a o ha e),eX,z.drop av (by omega)⟩
    ·rw[z4 (λe=>c (V.int.inj e))]
     exact hN _ _ ⟨_,_,_,rfl,au,h7,z.put av (by omega) ar⟩
   ·rintro σ Hy ⟨ks',bw,b1,rfl,ah,an,z⟩
    subst hu;walk_at "a";rw[Ii,yyb]at z;have hs:=hI.s;have bb:=z.s;rw[zzj]at bb;refine k pl rs ks' Hy (λa o ha e=>ah a o ha (ay a o e)) aq (ah _ _ ap ab) (λr hr=>ah _ _ (λe=>by have:=aj r hr;rw[e,ad]at this;cases this) (aj r hr)) hI.u hI.b (by omega) (by have:=hI.l;omega) an z.o z.a ?_ z.l z.k;have bb:smK ks'=smK ks - (rs.map (·.2.2)).sum:=bb;omega
structure acu(M M':List Addr)(H H':Hp):Prop where
 k:∀a o,a∉M->H a=some o->H' a=some o
 f:∀m∈M',m∈M\/H m=none
def acu.same{M M':List Addr}{H H':Hp}(s:acu M M' H H'):Same (lg H M) (lg H' M'):=λa o h=>by
 unfold lg at h;split at h
 ·cases h
 ·next n=>exact jf (s.k a o n h) λc=>(s.f a c).elim n λe=>by rw[e]at h;cases h
theorem acu.upd{M:List Addr}{H:Hp}{m:Addr}{o:HO}(h:m∈M):acu M M H (upd H m o):=⟨λa o n e=>(fC λc:a=m=>n (c▸h)).trans e,λm h=> .inl h⟩
structure Lw(H:Hp)(od:Addr)(rs:RW)(kf:Str->Ks):Prop where
 o:H od=some (.dK (kvR rs))
 i:∀t∈rs,H t.2.1=some (.dK (kvI (kf t.1)))/\t.2.1≠od
 z:∀z,z∉rs.map (·.1)->kf z=[]
 j:∀t∈rs,∀s∈rs,t.2.1=s.2.1↔t.1=s.1
noncomputable def adM(el od:Addr)(rs:RW):List Addr:=el::od::rs.map (·.2.1)
def aaD{B H2 H5:Hp}{x:Addr}{e:Ent}{M:List Addr}(h:Made A B H2 x e)(hB:∀m∈M,∃o,B m=some o/\((∃xs,o=.lst xs)\/∃kv,o=.dK kv))(hc:∀a o,a∉M->H2 a=some o->H5 a=some o):IsE A (lg H5 M) x e:=by
 obtain⟨dx,nv,hN,hn,hf⟩:=h
 have z:∀{a:Addr},B a=none->a∉M:=λe c=>by
  obtain⟨o,h1,_⟩:=hB _ c;rw[e]at h1;cases h1
 refine⟨dx,nv,jf (hc _ _ (z hN.n) hN.h) (z hN.n),?_⟩
 cases ho:e.lots with
 |none=>rw[ho]at hn;exact hn
 |some rs=>
  rw[ho]at hn;obtain⟨q,rfl,h1,h2⟩:=hn;refine⟨q,rfl,jf (hc _ _ (z (hf q rfl)) h1) (z (hf q rfl)),λr hr=>?_⟩;have h3:=h2 r hr
  have h4:r.1∉M:=λc=>by
   obtain⟨o,g1,g2⟩:=hB _ c;have:=hN.s _ _ g1;rw[h3]at this;have:=zzq this;rcases g2 with⟨_,g2⟩|⟨_,g2⟩<;>rw[g2]at this<;>cases this
  exact jf (hc _ _ h4 h3) h4
def Lw.put{H H':Hp}{od la:Addr}{rs:RW}{kf:Str->Ks}{w:Str}{ks:Ks}(h:Lw H od rs kf)(ac:(∃t∈rs,t.1=w/\t.2.1=la)\/(w∉rs.map (·.1)/\H la=none))(hd:la≠od)(h1:H' od=some (.dK (kvR (Bg rs w la []))))(h2:H' la=some (.dK (kvI ks)))(h3:∀t∈rs,t.2.1≠la->H' t.2.1=H t.2.1):Lw H' od (Bg rs w la []) (λz=>if z=w then ks else kf z):=by
 have aa:∀t∈rs,t.2.1=la↔t.1=w:=λt q=>by
  rcases ac with⟨s,hs,e1,e2⟩|⟨hw,hn⟩
  ·rw[<-e2,h.j t q s hs,e1]
  ·constructor
   ·intro c
    have:=(h.i t q).1;rw[c,hn]at this;cases this
   ·intro c
    exact(hw (z3.mpr ⟨t,q,c⟩)).elim
 refine⟨h1,λt q=>?_,λz hz=>?_,λt q s hs=>?_⟩
 ·rcases qm q with rfl|q
  ·exact⟨by show H' la=_;rw[h2,z8 rfl],hd⟩
  ·obtain⟨g1,g2⟩:=h.i t q
   by_cases c:t.1=w
   ·have:=(aa t q).mpr c
    exact⟨by rw[this,h2,z8 c],g2⟩
   ·exact⟨by rw[h3 t q (λe=>c ((aa t q).mp e)),z4 c];exact g1,g2⟩
 ·rw[Ao]at hz
  have ab:z≠w:=λe=>by
   subst e;split at hz
   ·next c=>exact hz c
   ·exact hz (by simp)
  show(if z=w then ks else kf z)=[];rw[z4 ab];refine h.z z λc=>?_;split at hz
  ·exact hz c
  ·exact hz (zz6 _ c)
 ·rcases qm q with rfl|q
  ·rcases qm hs with rfl|hs
   ·exact⟨λ_=>rfl,λ_=>rfl⟩
   ·exact⟨λe=>((aa s hs).mp e.symm).symm,λe=>((aa s hs).mpr e.symm).symm⟩
  ·rcases qm hs with rfl|hs
   ·exact aa t q
   ·exact h.j t q s hs
noncomputable def bare:Ent->Ent
 |.buy d n w p r f=> .buy d n w p r f
 |.sell d n w p r f _=> .sell d n w p r f none
def aaG(c:Str->Int)(e:Ent):Yi c (bare e)=Yi c e:=by cases e<;>rfl
def qe:∀{es fs:List Ent},es.map bare=fs.map bare->runC es=runC fs:=fun{es fs} h=>by
 have key:∀(es:List Ent)(c:Str->Int),(es.map bare).foldl Yi c=es.foldl Yi c:=λes=>by
  induction es with
  |nil=>exact λc=>rfl
  |cons e es ih=>intro c;rw[z6,yyi,yyi,ih,aaG]
 unfold runC;rw[<-key,h,key]
theorem Wm:∀{es fs:List Ent},es.map bare=fs.map bare->∀z t b,BdP es z t b↔BdP fs z t b
 |[],[],_,_,_,_=>Iff.rfl
 |[],_::_,h,_,_,_=>by cases h
 |_::_,[],h,_,_,_=>by cases h
 |e::es,f::fs,h,z,t,b=>by
  rw[z6,z6]at h;obtain⟨h1,h2⟩:=yyQ h;have q:=Wm h2;cases e<;>cases f<;>cases h1<;>unfold BdP<;>simp only[q]
def Ij{a b:Ent}(h:bare a=bare b):a.day=b.day/\a.num=b.num:=by
 have e:∀a:Ent,(bare a).day=a.day/\(bare a).num=a.num:=λa=>by cases a<;>exact⟨rfl,rfl⟩
 rw[<-(e a).1,<-(e a).2,h];exact e b
structure Eg(x:Str)(nm:Bool)(tl:List Ent)(i:Nat)(es:List Ent)(kf:Str->Ks):Prop where
 h:His (W2 x) nm es
 b:es.map bare=(tl.take i).map bare
 a:∀z n,HX es z n=lkP (kf z) n
 s:nm=true->∀z,smK (kf z)=runC es z
 k:∀z,aak (kf z)/\(kf z).length<=i/\∀n∈(kf z).map (·.1),n∈es.map Ent.num
def Eg.pre{x:Str}{nm:Bool}{tl es:List Ent}{i:Nat}{kf:Str->Ks}{e0 e:Ent}(h:Eg x nm tl i es kf)(hH:His (W2 x) false tl)(hi:tl[i]? =some e0)(hb:bare e=bare e0)(hg:e.good/\e.ware∈W2 x/\adN e=0)(hf:abJ (runC es) e)(ho:adO nm (HX es) e):His (W2 x) nm (es++[e])/\e.num∉es.map Ent.num/\(es++[e]).map bare=(tl.take (i+1)).map bare:=by
 have ab:i<tl.length:=(zzm.mp hi).1;have ah:tl.length<=60:=hH.l;have ag:es.length=i:=by have:=congrArg List.length h.b;rw[z0,z0,zzR]at this;omega
 have ad:tl[i]=e0:=by rw[zzg ab]at hi;exact zzq hi
 have q:∀y∈es,∃y0∈tl.take i,bare y0=bare y:=λy hy=>by
  have:bare y∈(tl.take i).map bare:=h.b▸z3.mpr ⟨y,hy,rfl⟩;exact z3.mp this
 have aa:=Ij hb
 have af:∀y∈es,BfE y e:=λy hy=>by
  obtain⟨y0,h0,e1⟩:=q y hy;have h4:=hH.b;rw[<-zzN i tl]at h4;have:=(yyf.mp h4).2.2 y0 h0 e0 (by rw[yyu ab,ad];exact zze);have e2:=Ij e1;unfold BfE at this⊢;rw[<-e2.1,<-e2.2,aa.1,aa.2];exact this
 have ae:e.num∉es.map Ent.num:=λc=>by
  obtain⟨y,hy,ey⟩:=z3.mp c;obtain⟨y0,h0,e1⟩:=q y hy;have e2:=Ij e1;have h4:=hH.n;rw[<-zzN i tl,zza]at h4;exact(zzS.mp h4).2.2 y0.num (z3.mpr ⟨y0,h0,rfl⟩) e0.num (z3.mpr ⟨e0,by rw[yyu ab,ad];exact zze,rfl⟩) (by rw[e2.2,ey,aa.2])
 have ac:(es++[e]).map bare=(tl.take (i+1)).map bare:=by rw[zza,zzO,hi,zza,h.b];show _++[bare e]=_++[bare e0];rw[hb]
 refine⟨h.h.snoc hg hf (λz=>?_) ho af ae (by omega),ae,ac⟩;have:=hH.m (i+1) z;rw[<-qe ac,jg]at this;exact this
theorem Eg.buy{x:Str}{nm:Bool}{tl es:List Ent}{i:Nat}{kf:Str->Ks}{d n p r:Int}{w:Str}(h:Eg x nm tl i es kf)(hH:His (W2 x) false tl)(hi:tl[i]? =some (.buy d n w p r 0)):Eg x nm tl (i+1) (es++[.buy d n w p r 0]) (λz=>if z=w then kf w++[(n,p)]else kf z)/\n∉(kf w).map (·.1):=by
 have hg:=hH.g _ (zzp hi);obtain⟨h1,h2,h3⟩:=h.pre hH hi rfl hg trivial trivial;have aa:n∉(kf w).map (·.1):=λc=>h2 ((h.k w).2.2 n c);refine⟨⟨h1,h3,λz m=>?_,λab z=>?_,λz=>?_⟩,aa⟩
 ·rw[sX]
  show(if z=w/\m=n then HX es z m+p else HX es z m)=lkP (if z=w then kf w++[(n,p)]else kf z) m;rw[h.a z m];by_cases c:z=w
  ·rw[z8 c,Pu aa,c]
   by_cases c2:m=n
   ·rw[z8 ⟨rfl,c2⟩,z8 c2]
   ·rw[z4 (λe=>c2 e.2),z4 c2,yyo]
  ·rw[z4 (λe=>c e.1),z4 c]
 ·rw[jg]
  show smK (if z=w then kf w++[(n,p)]else kf z)=if z=w then runC es w+p else runC es z;by_cases c:z=w
  ·rw[z8 c,z8 c,<-h.s ab w]
   unfold smK;simp
  ·rw[z4 c,z4 c,h.s ab z]
 ·by_cases c:z=w
  ·rw[z8 c]
   obtain⟨k1,k2,k3⟩:=h.k w;refine⟨⟨?_,λq hq=>?_⟩,by rw[zzt];show(kf w).length+1<=_;omega,λm hm=>?_⟩
   ·rw[zza]
    refine zzS.mpr ⟨k1.u,by simp,λa ha b hb e=>?_⟩;rw[z9.mp hb]at e;have e:a=n:=e;exact aa (e▸ha)
   ·rcases zzs.mp hq with hq|hq
    ·exact k1.p q hq
    ·rw[z9.mp hq];exact hg.1.2.1.1
   ·rw[zza]at hm⊢
    rcases zzs.mp hm with hm|hm
    ·exact zz6 _ (k3 m hm)
    ·exact zzD _ hm
  ·rw[z4 c]
   obtain⟨k1,k2,k3⟩:=h.k z;exact⟨k1,by omega,λm hm=>by rw[zza];exact zz6 _ (k3 m hm)⟩
theorem Eg.sell{x:Str}{nm:Bool}{tl es:List Ent}{i:Nat}{kf:Str->Ks}{d n p r:Int}{w:Str}{o o':Option Rs}{ks':Ks}(h:Eg x nm tl i es kf)(hH:His (W2 x) false tl)(hi:tl[i]? =some (.sell d n w p r 0 o))(h0:nm=false->o'=none/\ks'=kf w)(h1:nm=true->∃rs:Rs,o'=some rs/\(rs.map (·.2.1)).Nodup/\(∀r∈rs,1<=r.2.2/\r.2.2<=lkP (kf w) r.2.1)/\(rs.map (·.2.2)).sum=p/\rs.length<=(kf w).length/\aak ks'/\(∀n,lkP ks' n=lkP (kf w) n - lkP (rs.map (·.2)) n)/\smK ks'=smK (kf w) - p/\ks'.length<=(kf w).length/\∀n∈ks'.map (·.1),n∈(kf w).map (·.1)):Eg x nm tl (i+1) (es++[.sell d n w p r 0 o']) (λz=>if z=w then ks' else kf z)/\Ent.good (.sell d n w p r 0 o'):=by
 have hg:=hH.g _ (zzp hi);have ak:i<tl.length:=(zzm.mp hi).1;have ah:=hH.l;obtain⟨ai,al,af⟩:=h.k w
 have ag:acW p o':=by
  cases q:nm with
  |false=>rw[(h0 q).1];trivial
  |true=>
   obtain⟨rs,rfl,q1,q2,q3,q4,_⟩:=h1 q;refine⟨by omega,λr hr=>?_,q1,q3⟩;obtain⟨b1,b2⟩:=q2 r hr;have hk:=af _ (z3.mpr ⟨_,(abt (ks:=kf w) (n:=r.2.1) (by omega)).1,rfl⟩);obtain⟨y,hy,ey⟩:=z3.mp hk;have ae:=(h.h.g y hy).1
   have aj:r.2.2<=(rs.map (·.2.2)).sum:=by
    have key:∀{l:List (Addr×Int×Int)},(∀r∈l,1<=r.2.2)->∀r∈l,r.2.2<=(l.map (·.2.2)).sum/\0<=(l.map (·.2.2)).sum:=fun{l}=>by
     induction l with
     |nil=>exact λ_ r h=>by cases h
     |cons a l ih=>
      intro hp r hr;have ha:=hp a (.head _)
      have hs:0<=(l.map (·.2.2)).sum:=jN λy hy=>by
       obtain⟨b,hb,rfl⟩:=z3.mp hy;have:=hp b (.tail _ hb);omega
      rw[z6,zzr];rcases zzb.mp hr with rfl|hr
      ·omega
      ·have:=(ih (λr hr=>hp r (.tail _ hr)) r hr).1
       omega
    exact(key (λr hr=>(q2 r hr).1) r hr).1
   refine⟨?_,?_,b1,by omega⟩
   ·rw[<-ey];cases y<;>exact ae.1.3
   ·rw[<-ey];cases y<;>exact ae.1.4
 have aa:Ent.good (.sell d n w p r 0 o'):=⟨hg.1.1,hg.1.2.1,hg.1.2.2.1,hg.1.2.2.2.1,ag⟩
 have ac:abJ (runC es) (.sell d n w p r 0 o'):=by
  have:=hH.f i _ hi;rw[<-qe h.b]at this;exact this
 have ad:adO nm (HX es) (.sell d n w p r 0 o'):=⟨λq=>by
  obtain⟨rs,e,_,q2,_⟩:=h1 q;exact⟨rs,e,λr hr=>by rw[h.a];exact(q2 r hr).2⟩,λq=>(h0 q).1⟩
 obtain⟨g1,g2,g3⟩:=h.pre (e:=.sell d n w p r 0 o') hH hi rfl ⟨aa,hg.2.1,rfl⟩ ac ad;refine⟨⟨g1,g3,λz m=>?_,λq z=>?_,λz=>?_⟩,aa⟩
 ·rw[sX]
  show _=lkP (if z=w then ks' else kf z) m
  cases q:nm with
  |false=>
   obtain⟨rfl,rfl⟩:=h0 q;show HX es z m=_;rw[h.a];by_cases c:z=w
   ·rw[z8 c,c]
   ·rw[z4 c]
  |true=>
   obtain⟨rs,rfl,_,_,_,_,_,q6,_⟩:=h1 q;show(if z=w then HX es z m - lkP (rs.map (·.2)) m else HX es z m)=_;rw[h.a];by_cases c:z=w
   ·rw[z8 c,z8 c,c,q6]
   ·rw[z4 c,z4 c]
 ·rw[jg]
  obtain⟨rs,rfl,_,_,_,_,_,_,q7,_⟩:=h1 q;show smK (if z=w then ks' else kf z)=if z=w then runC es w - p else runC es z;by_cases c:z=w
  ·rw[z8 c,z8 c,q7,h.s q w]
  ·rw[z4 c,z4 c,h.s q z]
 ·have ab:∀z,aak (kf z)/\(kf z).length<=i+1/\∀m∈(kf z).map (·.1),m∈(es++[Ent.sell d n w p r 0 o']).map Ent.num:=λz=>by
   obtain⟨k1,k2,k3⟩:=h.k z;exact⟨k1,by omega,λm hm=>by rw[zza];exact zz6 _ (k3 m hm)⟩
  by_cases c:z=w
  ·rw[z8 c]
   cases q:nm with
   |false=>rw[(h0 q).2];exact ab w
   |true=>
    obtain⟨rs,_,_,_,_,_,q5,_,_,q8,q9⟩:=h1 q;exact⟨q5,by omega,λm hm=>(ab w).2.2 m (q9 m hm)⟩
  ·rw[z4 c];exact ab z
noncomputable def pcE:Ent->Int
 |.buy _ _ _ p _ _=>p
 |.sell _ _ _ p _ _ _=>p
noncomputable def prE:Ent->Int
 |.buy _ _ _ _ r _=>r
 |.sell _ _ _ _ r _ _=>r
def JW(e:Ent):Yk e=[.str e.word,.int e.day,.int e.num,.str e.ware,.int (pcE e),.int (prE e)]:=by cases e<;>rfl
def aaz{rs:RW}{z:Str}{q:Addr}{ls:RL}:(Bg rs z q ls).length<=rs.length+1:=by
 have h:=congrArg List.length (Ao (rs:=rs) (z:=z) (q:=q) (ls:=ls));rw[z0]at h;split at h
 ·rw[z0]at h;omega
 ·rw[zzt,z0]at h;show _<=rs.length+[z].length;omega
def adp{rs:RW}{z:Str}{q:Addr}{ls:RL}:(z,q,ls)∈Bg rs z q ls:=by
 unfold Bg;split
 ·next h=>
  obtain⟨t,ht,e⟩:=zzZ.mp h;have e:t.1=z:=zzW e;exact z3.mpr ⟨t,ht,by rw[z8 e,e]⟩
 ·exact zzD _ (z9.mpr rfl)
structure Bh(A:Adr)(x:Str)(nm:Bool)(tl:List Ent)(i:Nat)(H Hx H':Hp)(el od la:Addr)(rs:RW)(kf:Str->Ks)(w:Str)(es:EL)(ks:Ks):Prop where
 s:Same H H'
 l:H' el=some (.lst (iz es))
 a:H' la=some (.dK (kvI ks))
 o:H' od=some (.dK (kvR rs))
 t:∀t∈rs,t.2.1≠la->H' t.2.1=Hx t.2.1
 e:nG A (lg H' (adM el od (Bg rs w la []))) es
 g:Eg x nm tl (i+1) (es.map (·.2)) (λz=>if z=w then ks else kf z)
def Bh.of{x:Str}{nm:Bool}{tl:List Ent}{i:Nat}{H Hx Hy H4:Hp}{q od la:Addr}{rs:RW}{kf:Str->Ks}{w:Str}{es:EL}{ks:Ks}{ys:List V}(s:Same H Hy)(h1:H q=none)(h2:H la=none)(hl:Hy q=some (.lst ys))(ho:Hy od=some (.dK (kvR rs)))(hd:la≠od)(ht:∀t∈rs,∃kv,Hx t.2.1=some (.dK kv)/\Hy t.2.1=some (.dK kv))(hk:∀a o,a≠q->a≠la->Hy a=some o->H4 a=some o)(g1:H4 q=some (.lst (iz es)))(g2:H4 la=some (.dK (kvI ks)))(g3:nG A (lg H4 (adM q od (Bg rs w la []))) es)(g4:Eg x nm tl (i+1) (es.map (·.2)) (λz=>if z=w then ks else kf z)):Bh A x nm tl i H Hx H4 q od la rs kf w es ks:=by
 refine⟨λa o h=>hk a o (λe=>by rw[e,h1]at h;cases h) (λe=>by rw[e,h2]at h;cases h) (s a o h),g1,g2,hk _ _ (λe=>by rw[e,hl]at ho;cases ho) hd.symm ho,λt aa hn=>?_,g3,g4⟩;obtain⟨kv,e1,e2⟩:=ht t aa;rw[e1];exact hk _ _ (λe=>by rw[e,hl]at e2;cases e2) hn e2
def Ql{Hy H1 H2 H4:Hp}{M:List Addr}{es:EL}{x:Addr}{e:Ent}(z:nG A (lg Hy M) es)(hM:Made A H1 H2 x e)(hB:∀m∈M,∃o,H1 m=some o/\((∃xs,o=.lst xs)\/∃kv,o=.dK kv))(h1:∀a o,a∉M->Hy a=some o->H1 a=some o)(h4:∀a o,a∉M->H2 a=some o->H4 a=some o):nG A (lg H4 M) (es++[(x,e)]):=λr q=>by
 rcases zzs.mp q with q|q
 ·exact(z r q).same (acu.same ⟨λa o n h=>h4 a o n (by obtain⟨dx,nv,hN,_⟩:=hM;exact hN.s _ _ (h1 a o n h)),λm hm=> .inl hm⟩)
 ·rw[z9.mp q]
  exact aaD hM hB h4
noncomputable def Dz(A:Adr)(K:Fg_):Sp:=λvs H Q _=>∃(rl a:Addr)(ns:List Int)(nm:Bool)(x:Str)(tl:EL),vs=[.ref rl,.ref a,.bl nm]/\H rl=some (.lst (iz tl))/\JT H tl/\SqL K H a (ns.map V.int)/\His (W2 x) false (tl.map (·.2))/\tl≠[]/\
 ∀(p:Addr)(es:EL)(hs:List Ent)(H':Hp),Same H H'->H p=none->H' p=some (.lst (iz es))->nG A H' es->(es.map (·.2)).Perm hs->His (W2 x) nm hs->hs.map bare=(tl.map (·.2)).map bare->Q (.ref p) H'
def pM(T:Txt K mg A D):gJ P w K mg base CX0 6 A.ul D.ul ["_law_rows", "_law_script", "_law_names"] (Dz A K):=by
 refine T.wo.F.okv fY λ_ _ _ _ H vs Q E hr h=>?_
 ·obtain⟨rl,a,ns,nm,x,tl,rfl,b3,hR,hS,hH,as,k⟩:=h
  refine ⟨_,(eU (fL (i:=3) fY.nd rfl orl (jc eV))
   (eU (fL (i:=4) fY.nd rfl orl nZ)
   (eU (kE zzM rfl (sU (by rfl) T.xJ (eQ (fH (ji (K:=K)) (by rfl) T.xK (by decide+kernel) (pav 0 eV)) eV)) (fG (i:=5) fY.nd rfl orl)
    (eU (aaY (jG (iM (K:=K)) (pvD 0) (pvD 5) (λ_ _=>rfl)) (jV (K:=K) (n:=6) rfl (fZ (fG (i:=6) fY.nd rfl orl) (fZ (fG (i:=7) fY.nd rfl orl) (fZ (fG (i:=8) fY.nd rfl orl) (fZ (fG (i:=9) fY.nd rfl orl) (fZ (fG (i:=10) fY.nd rfl orl) (fZ (fG (i:=11) fY.nd rfl orl) jU))))))))
    (eU (fL (i:=12) fY.nd rfl orl (CQ (jr hr) (pvD 4) (pvD 9) nZ ⟨rfl,rfl,rfl,rfl⟩))
    (eU (iC (fK (qX) (pvD 6) gP (fX _)) (eU (gj (lW (K:=K) zzF zzI zzJ iH (pvD 3) (eQ (lC T.zf (Fz (K:=K) T) (hr.mono (by decide)) (by rfl) T.x8 (pA T).choose_spec.1 (pA T).choose_spec.2 iI (pav 7 (pav 8 (pav 9 (pav 10 (pav 11 eV)))))) eV)))
     (eY (lJ (jr hr) (pvD 12) (pvD 8) (pvD 10) rfl))) (eY (iC (aaj (pvD 2) (λ_=>rfl)) (eU (fL (i:=13) fY.nd rfl orl (pcg (Js T) hr T.wk (Nt T) (pav 12 (pav 10 (eQ (fQ je (fQ jq (pcg (gK T) hr T.vZ (iu T) (pav 1 (eQ (fQ iY fB (pvD 5)) eV))) fB) fB) eV)))))
      (eY (gj (lW (K:=K) zzF zzI zzJ iH (pvD 3) (eQ (lC T.zg (ph (K:=K) T) (hr.mono (by decide)) (by rfl) T.x9 (mW T).choose_spec.1 (mW T).choose_spec.2 iI (pav 7 (pav 8 (pav 9 (pav 10 (pav 11 (eQ fB (pav 13 eV)))))))) eV))))) (eY (gj (lW (K:=K) zzF zzI zzJ iH (pvD 3) (eQ (lC T.zg (ph (K:=K) T) (hr.mono (by decide)) (by rfl) T.x9 (nj T).choose_spec.1 (nj T).choose_spec.2 iI (pav 7 (pav 8 (pav 9 (pav 10 (pav 11 eV)))))) eV)))))))
    (eY (lJ (jr hr) (pvD 4) (pvD 9) (pvD 12) rfl))))))
   (eU (fL (i:=14) fY.nd rfl orl (fQ je (fQ iQ (pcg (gK T) hr T.vZ (iu T) (pav 1 (eQ fB eV))) fB) (fH (ji (K:=K)) (by rfl) T.xK (by decide+kernel) (pav 3 eV))))
   (eY (fJ (fQ Rt (Je (Ig (K:=K)) (pvD 3) (PQ (pvD 14)) Ol) (Je (Ig (K:=K)) (pvD 3) Ol (PQ (pvD 14)))))))))),?_⟩
  simp only[start_eq];walk_at "n";refine⟨sz,λel al=>?_⟩;have s1:=eZ (o:=.lst []) al;have h1:(upd H el (.lst [])) el=some (.lst []):=eX;generalize upd H el (.lst [])=H1 at s1 h1;walk_at "n";intro od br;have s2:=eZ (o:=.dK []) br;have h2:(upd H1 od (.dK [])) od=some (.dK []):=eX;generalize upd H1 od (.dK [])=H2 at s2 h2;have S2:=s1.trans s2;have ax:H od=none:=s1.free br;have hW:(W2 x).Nodup/\(W2 x).length<=50:=hH.u;have cg:tl.length<=60:=by have:=hH.l;rwa [z0]at this
  (try dsimp only)
  refine gA λu hu=>?_;rw[ap_seq];refine qx λtb b9=>?_;rw[ap_for];walk_at "i";refine⟨_,.inl (fj (S2 _ _ b3)),by omega,by rw[gH];omega,?_⟩;rw[gH,yyA]
  refine CN.rangeN (lo:=0) (n:=tl.length) (λi σ Hx=>∃(es:EL)(rs:RW)(kf:Str->Ks)(v5 v6 v7 v8 v9 bi be bb ar aj:Option V),σ=[some (.ref rl),some (.ref a),some (.bl nm),some (.ref el),some (.ref od),v5,v6,v7,v8,v9,bi,be,bb,ar,aj]/\Same H Hx/\Hx el=some (.lst (iz es))/\Lw Hx od rs kf/\(∀m∈adM el od rs,H m=none)/\nG A (lg Hx (adM el od rs)) es/\Eg x nm (tl.map (·.2)) i (es.map (·.2)) kf/\rs.length<=i)
   ⟨[],[],λ_=>[],_,_,_,_,_,_,_,_,_,_,rfl,S2,s2 _ _ h1,⟨h2,λt h=>(zzd h).elim,λz _=>rfl,λt h=>(zzd h).elim⟩,λm hm=>?_,λr h=>(zzd h).elim,⟨His.nil hW,rfl,λz n=>rfl,λ_ z=>rfl,λz=>⟨⟨.nil,λq h=>(zzd h).elim⟩,zzB _,λn h=>(zzd h).elim⟩⟩,zzc _⟩ ?_ ?_
  ·rcases zzb.mp hm with rfl|hm
   ·exact al
   ·rw[z9.mp hm];exact ax
  ·rintro i σ Hx hi ⟨es,rs,kf,v5,v6,v7,v8,v9,bi,be,bb,ar,aj,rfl,sx,an,aa,bg,ba,hG,bv⟩ N hN
   obtain⟨r,bj⟩:∃r,tl[i]? =some r:=⟨tl[i],zzg hi⟩;have ce:=zzp bj;have af:(tl.map (·.2))[i]? =some r.2:=by rw[zzl,bj];rfl
   have bm:=sx _ _ (hR r ce);subst b9;rw[yy0,ap_name];obtain⟨ra,e⟩:=r;dsimp only at bm af;rw[JW]at bm;have az:=(hH.g e (zzp af)).2.2;have ao:=(hH.g e (zzp af)).1;obtain⟨b8,bz,cj⟩:=hG.k e.ware;walk_at "n";refine⟨_,fj (sx _ _ b3),.ref ra,qO (by unfold iz;rw[zzl,bj];rfl),ra,rfl,_,gM bm,rfl,_,_,rfl,_,_,rfl,_,_,rfl,_,_,rfl,_,_,rfl,_,_,rfl,rfl,?_⟩;refine lX (λσ' H'=>∃la,σ'=[some (.ref rl),some (.ref a),some (.bl nm),some (.ref el),some (.ref od),some (.int i),some (.str e.word),some (.int e.day),some (.int e.num),some (.str e.ware),some (.int (pcE e)),some (.int (prE e)),some (.ref la),ar,aj]/\Same Hx H'/\H' la=some (.dK (kvI (kf e.ware)))/\la≠od/\H la=none/\((∃t∈rs,t.1=e.ware/\t.2.1=la)\/(e.ware∉rs.map (·.1)/\Hx la=none))) ?_ ?_
   ·rintro σ1 Hy ⟨la,rfl,sy,ac,ae,ag,bq⟩
    have ak:∀m∈adM el od (Bg rs e.ware la []),m∈adM el od rs\/m=la:=λm hm=>by
     rcases zzb.mp hm with rfl|hm
     ·exact .inl (.head _)
     rcases zzb.mp hm with rfl|hm
     ·exact .inl (.tail _ (.head _))
     ·obtain⟨t,ht,rfl⟩:=z3.mp hm
      rcases qm ht with rfl|ht
      ·exact .inr rfl
      ·exact .inl (.tail _ (.tail _ (z3.mpr ⟨t,ht,rfl⟩)))
    have hfr':∀m∈adM el od (Bg rs e.ware la []),H m=none:=λm hm=>(ak m hm).elim (bg m) λe=>e▸ag;have bo:el∈adM el od (Bg rs e.ware la []):=.head _;have cc:od∈adM el od (Bg rs e.ware la []):=.tail _ (.head _);have b0:la∈adM el od (Bg rs e.ware la []):=.tail _ (.tail _ (z3.mpr ⟨_,adp,rfl⟩));have ab:=sy _ _ an;have ap:=sy _ _ aa.o
    have bk:∀m∈adM el od (Bg rs e.ware la []),∃o,Hy m=some o/\((∃xs,o=.lst xs)\/∃kv,o=.dK kv):=λm hm=>by
     rcases ak m hm with hm|rfl
     ·rcases zzb.mp hm with rfl|hm
      ·exact⟨_,ab,.inl ⟨_,rfl⟩⟩
      rcases zzb.mp hm with rfl|hm
      ·exact⟨_,ap,.inr ⟨_,rfl⟩⟩
      ·obtain⟨t,ht,rfl⟩:=z3.mp hm
       exact⟨_,sy _ _ (aa.i t ht).1,.inr ⟨_,rfl⟩⟩
     ·exact⟨_,ac,.inr ⟨_,rfl⟩⟩
    have bh:nG A (lg Hy (adM el od (Bg rs e.ware la []))) es:=λr hr=>(ba r hr).same (acu.same ⟨λb o _ e=>sy b o e,λm hm=>(ak m hm).elim .inl λe=>by
     rcases bq with⟨t,ht,_,e2⟩|⟨_,h⟩
     ·exact .inl (.tail _ (.tail _ (z3.mpr ⟨t,ht,e2.trans e.symm⟩)))
     ·exact .inr (e▸h)⟩)
    have ad:la≠el:=λe=>by rw[e,ab]at ac;cases ac
    have ci:es.length<=i:=by have:=congrArg List.length hG.b;rw[z0,z0,z0,zzR]at this;omega
    have bn:∀t∈rs,∃kv,Hx t.2.1=some (.dK kv)/\Hy t.2.1=some (.dK kv):=λt ht=>⟨_,(aa.i t ht).1,sy _ _ (aa.i t ht).1⟩;refine lX (λσ' H'=>∃bl ks' ay,σ'=[some (.ref rl),some (.ref a),some (.bl nm),some (.ref el),some (.ref od),some (.int i),some (.str e.word),some (.int e.day),some (.int e.num),some (.str e.ware),some (.int (pcE e)),some (.int (prE e)),some (.ref la),ay,aj]/\Bh A x nm (tl.map (·.2)) i H Hx H' el od la rs kf e.ware bl ks') ?_ ?_
    ·rintro σ2 Hz ⟨bl,ks',ay,rfl,hb⟩
     walk_at "i";refine⟨_,qD (k:=Sum.inr e.ware) hb.o (by unfold kvR;rw[z0,zzk];omega),?_⟩;rw[Yb _ _ _ []];have b7:el≠od:=λe=>by have:=hb.l;rw[e,hb.o]at this;cases this
     refine hN _ _ ⟨bl,Bg rs e.ware la [],_,_,_,_,_,_,_,_,_,_,_,rfl,hb.s.upd ax,(fC b7).trans hb.l,aa.put bq ae eX ((fC ae).trans hb.a) (λt ht hn=>(fC (aa.i t ht).2).trans (hb.t t ht hn)),hfr',λr hr=>(hb.e r hr).same (acu.upd cc).same,hb.g,zzK aaz (by omega)⟩
    ·intro N2 ah
     cases e with
     |buy d n w p r f=>
      obtain rfl:f=0:=az;refine Ac λs' u' av au=>?_;walk_at "i";rw[z8 (show(Ent.buy d n w p r 0).word=Str.ofString "buy" from rfl)];subst av;obtain⟨ai,cf⟩:=hG.buy hH af;have kw2':(kf w).length<=i:=bz;walk_at "n";refine⟨tyL (fj ab),λy dy hy am as=>⟨y,d,n,p,r,0,w,Hy,dy,rfl,pJ hy am,ao,λH2 hM=>⟨rfl,iz es,?_⟩⟩⟩;have s2:Same Hy H2:=by obtain⟨_,_,hN,_⟩:=hM;exact hN.s
      refine⟨s2 _ _ ab,by rw[gH,zzk];omega,?_⟩;walk_at "i";refine⟨_,qD (k:=Sum.inl n) ((fC ad).trans (s2 _ _ ac)) (by unfold kvI;rw[z0,zzk];omega),?_⟩;rw[JH _ (show jo (kvI (kf (Ent.buy d n w p r 0).ware)) (Sum.inl n)=none by show jo (kvI (kf w)) (Sum.inl n)=none;rw[Dj,mX cf];rfl)];refine ah _ _ ⟨es++[(y,Ent.buy d n w p r 0)],kf w++[(n,p)],_,rfl,Bh.of (sx.trans sy) al ag ab ap ae bn (λb o n1 n2 h=>(fC n2).trans ((fC n1).trans (s2 _ _ h))) ?_ ?_ (Ql bh hM bk (λb o _ h=>h) λb o n h=>(fC λe:b=la=>n (e▸b0)).trans ((fC λe:b=el=>n (e▸bo)).trans h)) (by rw[zza];exact ai)⟩
      ·rw[fC ad.symm,eX];unfold iz;rw[zza];rfl
      ·rw[eX];unfold kvI;rw[zza];rfl
     |sell d n w p r f o=>
      refine Ac λs' u' av au=>?_;walk_at "i";rw[z4 (show¬(Ent.sell d n w p r f o).word=Str.ofString "buy" by show¬(Str.ofString "sell" =Str.ofString "buy");decide+kernel)];subst au;obtain rfl:f=0:=az;refine Ac λs' u' av au=>?_;walk_at "i"
      cases nm with
      |true=>
       refine⟨true,rfl,?_⟩;rw[z8 rfl];subst av;walk_at "n"
       have b1:p<=smK (kf w):=by
        have:=hH.f i _ af;rw[<-qe hG.b]at this;rw[hG.s rfl w];exact this
       have aw:1<=p:=ao.2.1.1;have kw2':(kf w).length<=i:=bz;refine⟨a,ns,40+i,by push_cast;rfl,(sx.trans sy).seq hS,λg H1 s1=>⟨g,rfl,Dy (by decide) (by decide),by decide,la,p,_,kf w,rfl,s1 _ _ ac,b8,by omega,by omega,b1,λpl aq ks' H3 bx ck bs bf hu hb hs hl bw cd b5 b6 ca b4=>?_⟩⟩;obtain⟨ai,bc⟩:=hG.sell (o':=some aq) (ks':=ks') hH af (λe=>by cases e) (λ_=>⟨aq,rfl,hu,hb,hs,hl,cd,b5,b6,ca,b4⟩);have k3:∀b o,b≠la->Hy b=some o->H3 b=some o:=λb o n h=>bx b o n (s1 _ _ h);have bu:=k3 _ _ ad.symm ab;walk_at "i";refine⟨tyL (fj bu),λy dy hy am as=>⟨y,d,n,p,r,0,w,some aq,.ref pl,H3,dy,rfl,pJ hy am,bc,⟨pl,rfl,bs,bf⟩,λH2 hM=>⟨rfl,iz es,?_⟩⟩⟩;have s2:Same H3 H2:=by obtain⟨_,_,hN,_⟩:=hM;exact hN.s
       refine⟨s2 _ _ bu,by rw[gH,zzk];omega,?_⟩;refine ah _ _ ⟨es++[(y,Ent.sell d n w p r 0 (some aq))],ks',_,rfl,Bh.of (sx.trans sy) al ag ab ap ae bn (λb o n1 n2 h=>(fC n1).trans (s2 _ _ (k3 _ _ n2 h))) ?_ ((fC ad).trans (s2 _ _ bw)) (Ql bh hM (λm hm=>?_) (λb o n h=>k3 b o (λe=>n (e▸b0)) h) λb o n h=>(fC λe:b=el=>n (e▸bo)).trans h) (by rw[zza];exact ai)⟩
       ·rw[eX];unfold iz;rw[zza];rfl
       ·by_cases c:m=la
        ·exact⟨_,c▸bw,.inr ⟨_,rfl⟩⟩
        ·obtain⟨o,h1,h2⟩:=bk m hm
         exact⟨o,k3 _ _ c h1,h2⟩
      |false=>
       refine⟨false,rfl,?_⟩;rw[z4 (by decide)];subst au;walk_at "i";obtain⟨ai,bc⟩:=hG.sell (o':=none) (ks':=kf w) hH af (λ_=>⟨rfl,rfl⟩) (λe=>by cases e);refine⟨tyL (fj ab),λy dy hy am as=>⟨y,d,n,p,r,0,w,none,.non,Hy,dy,rfl,pJ hy am,bc,rfl,λH2 hM=>⟨rfl,iz es,?_⟩⟩⟩;have s2:Same Hy H2:=by obtain⟨_,_,hN,_⟩:=hM;exact hN.s
       refine⟨s2 _ _ ab,by rw[gH,zzk];omega,?_⟩;refine ah _ _ ⟨es++[(y,Ent.sell d n w p r 0 none)],kf w,_,rfl,Bh.of (sx.trans sy) al ag ab ap ae bn (λb o n1 _ h=>(fC n1).trans (s2 _ _ h)) ?_ ((fC ad).trans (s2 _ _ ac)) (Ql bh hM bk (λb o _ h=>h) λb o n h=>(fC λe:b=el=>n (e▸bo)).trans h) (by rw[zza];exact ai)⟩;rw[eX];unfold iz;rw[zza];rfl
   ·intro N2 ah
    walk_at "i";refine⟨.inl ⟨_,.inl aa.o⟩,λp hp=>⟨_,nH (k:=Sum.inr e.ware) ((eZ hp) _ _ aa.o),?_⟩⟩;have sp:=eZ (o:=.dK []) hp;have cb:=fU aa.o hp;rcases aev rs e.ware with⟨t,ht,e1,e2,_⟩|⟨e2,_,e3⟩
    ·rw[e2]
     obtain⟨g1,g2⟩:=aa.i t ht;exact ah _ _ ⟨t.2.1,rfl,sp,by rw[<-e1];exact sp _ _ g1,g2,bg _ (.tail _ (.tail _ (z3.mpr ⟨t,ht,rfl⟩))),.inl ⟨t,ht,e1,rfl⟩⟩
    ·rw[e2]
     exact ah _ _ ⟨p,rfl,sp,by rw[aa.z _ e3];exact eX,cb.symm,sx.free hp,.inr ⟨e3,hp⟩⟩
  ·rintro σ Hx ⟨es,rs,kf,v5,v6,v7,v8,v9,bi,be,bb,ar,aj,rfl,sx,an,aa,bg,ba,hG,bv⟩
   subst hu;walk_at "n";have bt:(es.map (·.2)).map bare=(tl.map (·.2)).map bare:=by have:=hG.b;rwa [zz8 (by rw[z0];exact zzc _)]at this
   have ch:es.length=tl.length:=by have:=congrArg List.length bt;simpa using this
   have cl:0<tl.length:=yyC.mpr as;refine⟨a,ns,2,rfl,sx.seq hS,λg H1 s1=>⟨g,rfl,nT (by decide) (by decide),_,.inl (fj (s1 _ _ an)),by rw[gH];omega,?_⟩⟩;rw[gH];obtain⟨t,ht⟩:∃t:Nat,g/900%(es.length:Int)=t:=⟨_,(Zg (zz0 _ (by omega))).symm⟩;rw[ht];walk_at "a"
   try refine⟨_,rfl,?_⟩
   refine⟨_,fj (s1 _ _ an),λp1 aw=>?_⟩;have bp:=s1 _ _ an;have n1:=fU bp aw;try refine⟨_,rfl,?_⟩
   refine⟨_,fj ((fC n1).trans bp),λp2 bd=>?_⟩;have n2:p1≠p2:=fU eX bd;refine⟨_,(fC n2).trans eX,_,eX,?_,λp3 b2=>?_⟩
   ·have q1:=rO (iz es) (some (t:Int)) none
    have q2:=rO (iz es) none (some (t:Int));rw[gH]at q1 q2;rw[zzk];omega
   have s3:=s1.trans ((eZ aw (o:=.lst (Ny (iz es) (some (t:Int)) none))).trans ((eZ bd (o:=.lst (Ny (iz es) none (some (t:Int))))).trans (eZ b2 (o:=.lst (Ny (iz es) (some (t:Int)) none++Ny (iz es) none (some (t:Int)))))));have f3:H p3=none:=(sx.trans (s1.trans ((eZ aw (o:=.lst (Ny (iz es) (some (t:Int)) none))).trans (eZ bd (o:=.lst (Ny (iz es) none (some (t:Int)))))))).free b2;refine k p3 (es.drop t++es.take t) (es.map (·.2)) _ (sx.trans s3) f3 ?_ (λr hr=>?_) ?_ hG.h bt
   ·rw[eX,aag,QM]
    unfold iz;rw[zza,Ya1,List.map_take]
   ·have hr:r∈es:=by
     rcases zzs.mp hr with hr|hr
     ·exact ZD hr
     ·exact yyz hr
    exact(ba r hr).same (iR.trans s3)
   ·refine List.Perm.map _ ?_
    have:=List.perm_append_comm (l₁:=es.drop t) (l₂:=es.take t)
    rwa [zzN]at this
noncomputable def Iu:Sp:=λvs H Q _=>∃i,vs=[.int i]/\Q (.bl true) H
def Jx(T:Txt K mg A D):gJ P w K mg base CX0 1 A.ux D.ux ["_law_found"] Iu:=by
 refine T.wA.F.okv Jc λ_ _ _ _ H vs Q E q h=>?_
 ·obtain⟨i,rfl,k⟩:=h
  refine⟨_,(eY (fJ (abL (fH (nR (K:=K)) (by rfl) T.xN (by decide+kernel) (pav 0 (eQ (Uw "int" (by rfl) T.xO (by decide+kernel)) eV))) (abS (abR (fH (nR (K:=K)) (by rfl) T.xN (by decide+kernel) (pav 0 (eQ (Uw "bool" (by rfl) T.xP (by decide+kernel)) eV)))))))),?_⟩;walk_at "a";refine⟨_,.int i,true,by with_unfolding_all rfl,?_⟩;walk_at "a";refine⟨_,.int i,false,by with_unfolding_all rfl,?_⟩;walk_at "a";exact k
noncomputable def Jw(A:Adr):Sp:=λvs H Q _=>∃(b q:Addr)(k:BkD)(ds:List Int),vs=[.ref b,.ref q]/\fV A H b k/\k.sl.length<=100/\H q=some (.lst (ds.map V.int))/\ds.length<=100/\∀(p:Addr) H',Same H H'->H p=none->H' p=some (.lst ((ds.map λd=>Cv d (k.sl.map λt=>t.2.dat)).map V.int))->Q (.ref p) H'
theorem all_true{α:Type}:∀ds:List α,(ds.map λ_=>true).all id=true
 |[]=>rfl
 |_::ds=>all_true ds
def sY(T:Txt K mg A D):gJ P w K mg base CX0 6 A.uy D.uy ["_law_book", "_law_days"] (Jw A):=by
 refine T.wB.F.okv sH λ_ _ _ _ H vs Q E hr h=>?_
 ·obtain⟨b,q,kb,ds,rfl,hB,hl,hq,hd,k⟩:=h
  refine ⟨_,(eU (nW (i:=2) sH.nd rfl rfl (cap:=[none,some 0]) (N':=["_law_day", "_law_book"]) rfl (by walk_at "c") (gm (K:=K) (pv 1)) (λ_ _ _ _=>(fG (i:=0) (show(["_law_day", "_law_book"]:List Str).Nodup from by decide+kernel) rfl orl orr)) (λ_ _ _ _=>gQ) (λ_ _ _ _=>(pcg (MN T) hr T.wz (Ov T) (pav 1 (pav 0 eV)))))
   (eU (iC (Mw (lU (fH (KQ (K:=K) rfl) (by rfl) T.xQ (by decide+kernel) (eQ (gF (cap:=[none]) (N':=["_law_gain"]) rfl (by walk_at "c") (gm (K:=K) (pv 2)) (λ_ _ _ _=>(fG (i:=0) nd1 rfl orl orr)) (λ_ _ _ _=>gQ) (λ_ _ _ _=>(pcg (Jx T) hr T.wA (Nx T) (pav 0 eV)))) eV)))) (eY (fJ jx)) gn)
   (eY (fJ (pvD 2))))),?_⟩
  simp only[start_eq];walk_at "n";refine⟨⟨_,fj hq⟩,Nj (f:=V.int) (λσ=>∃v,σ=[v,some (.ref b)]) (λ_ d v _=>v=.int (Cv d (kb.sl.map λt=>t.2.dat))) (fj hq) ⟨_,rfl⟩ (by omega) ?_ ?_⟩
  ·rintro Da d aa σ H5 R ⟨_,rfl⟩ sm hD hA kk
   walk_at "i";exact⟨b,kb,d,rfl,hB.same sm,hl,λH6 s6=>kk _ _ _ ⟨_,rfl⟩ s6 λ_ _=>rfl⟩
  ·intro p H1 acc hp s1 h1 hF
   rw[oW.ints hF]at h1
   (try dsimp only)
   rw[ap_seq];walk_at "i";refine⟨⟨_,fj h1⟩,Nj (f:=V.int) (λσ=>∃v,σ=[v]) (λ_ d v _=>v=.bl true) (fj h1) ⟨_,rfl⟩ (by rw[z0];omega) ?_ ?_⟩
   ·rintro Da d aa σ H5 R ⟨_,rfl⟩ sm hD hA kk
    walk_at "i";exact⟨d,rfl,kk _ _ _ ⟨_,rfl⟩ (same_refl _) λ_ _=>rfl⟩
   ·intro p2 H2 ab ac s2 h2 z
    rw[oW.map (f:=λ_=>V.bl true) z]at h2;rw[ap_rAll];refine⟨(ds.map λd=>Cv d (kb.sl.map λt=>t.2.dat)).map λ_=>true,fj (by rw[h2,zzj (f:=λ_=>true)];rfl),true,by rw[all_true],?_⟩;rw[z4 (by decide)];exact k p _ (s1.trans s2) hp (s2 _ _ h1)
section
noncomputable def afQ:R2:=λx y H Q=>∃(a b:Addr)(ka:List (Key×V)),x=.ref a/\y=.ref b/\Rd H a (.dK ka)/\Rd H b (.dK [])/\Q (.bl (decide (ka.length=0))) H
def abv{X:Cx}{k:Nat}(hr:lq k X.A):OpR X (compareOp .Eq) afQ:=by
 intro pins s σ H x y v u Q I rx ry h;obtain⟨a,b,ka,rfl,rfl,h1,h2,q⟩:=h;have hr':=hr.units;cases rx;cases ry;obtain⟨_,s1,z,ra,da⟩:=Bt I.hok h1;obtain⟨_,s2,vb,rb,db⟩:=Bt I.hok h2;cases rb;refine PySem.W.keq_eq (r:=true) s1 s2 da db (by omega) (λe=>?_) ⟨.bl (decide (ka.length=0)),H,I,?_,q⟩
 ·cases z with
  |nil=>exact .nil
  |cons _ _=>cases e
 ·rw[ra.length]
  cases z<;>rfl
def aaU{a b:Addr}{H:Hp}{Q:VK}:afQ (.ref a) (.ref b) H Q=∃(ka:List (Key×V)),Rd H a (.dK ka)/\Rd H b (.dK [])/\Q (.bl (decide (ka.length=0))) H:=by simp[afQ]
end
def aaP(e:Ent):(bare e).day=e.day:=by cases e<;>rfl
def aan{es fs:List Ent}(h:es.map bare=fs.map bare)(d:Int):(qG d es).map bare=(qG d fs).map bare:=by
 have key:∀es:List Ent,(qG d es).map bare=(es.map bare).filter λe=>decide (e.day<=d):=λes=>by
  unfold qG;rw[Zi];congr 1;refine ZZ λe _=>?_;show decide (e.day<=d)=decide ((bare e).day<=d);rw[aaP]
 rw[key,key,h]
def QZ{β:Type}{f:Ent->β}(q:∀e,f (bare e)=f e){es fs:List Ent}(h:es.map bare=fs.map bare):es.map f=fs.map f:=by
 have key:∀es:List Ent,es.map f=(es.map bare).map f:=λes=>by rw[zzj];exact zzy λe _=>(q e).symm
 rw[key,key fs,h]
def Ar{es fs:List Ent}(h:es.map bare=fs.map bare):es.filterMap pC=fs.filterMap pC:=by
 have key:∀es:List Ent,es.filterMap pC=(es.map pC).filterMap id:=λes=>by rw[List.filterMap_map];rfl
 rw[key,key fs,QZ (λe=>by cases e<;>rfl) h]
def Kq{es fs:List Ent}(h:es.map bare=fs.map bare):es.map GR=fs.map GR:=QZ (λe=>by cases e<;>rfl) h
noncomputable def prS(d:Int)(l:List (Int×Str×Int)):Int:=((l.filter λc=>decide (c.1<=d)).map λc=>c.2.2).sum
theorem abF{α:Type}(f g:α->Int):∀l:List α,(l.map λx=>f x - g x).sum=(l.map f).sum - (l.map g).sum
 |[]=>rfl
 |x::l=>by rw[z6,z6,z6,zzr,zzr,zzr,abF f g l];omega
theorem abU{α:Type}(f g:α->Int):∀l:List α,(l.map λx=>f x+g x).sum=(l.map f).sum+(l.map g).sum
 |[]=>rfl
 |x::l=>by rw[z6,z6,z6,zzr,zzr,zzr,abU f g l];omega
def Oh{W:List Str}{ns:List Int}{dr nm:Bool}{es:List Ent}{k:BkD}(h:StB W ns dr nm es k)(d:Int):Cv d (k.sl.map λt=>t.2.dat)=prS d (es.filterMap pC) - ((kj d k.sl).map λt=>t.2.co).sum:=by
 have q:∀t∈kj d k.sl,t.2.cnt=t.2.pr - t.2.co:=λt z=>by
  have:=h.l t (zzY.mp z).1;unfold jl.cnt;rw[z8 this]
 have e2:prS d (es.filterMap pC)=((kj d k.sl).map λt=>t.2.pr).sum:=by
  rw[<-h.s];unfold prS kj;rw[Zi,zzj];rfl
 rw[QL,e2,<-abF];show(List.map _ (kj d k.sl)).sum=_;rw[zzy q]
theorem abp{c:Int}{w:Str}:∀{W:List Str},W.Nodup->(W.map λz=>if w=z then c else 0).sum=if w∈W then c else 0
 |[],_=>rfl
 |x::W,hu=>by
  obtain⟨h1,h2⟩:=zzw.mp hu;rw[z6,zzr,abp h2];by_cases e:w=x
  ·subst e
   rw[z8 rfl,z4 h1,z8 (.head _)];omega
  ·rw[z4 e]
   by_cases c:w∈W
   ·rw[z8 c,z8 (.tail _ c)];omega
   ·rw[z4 c,z4 (λh=>c ((zzb.mp h).resolve_left e))];rfl
theorem IK{W:List Str}(q:W.Nodup):∀{sl:SL},(∀t∈sl,t.2.w∈W)->(sl.map λt=>t.2.co).sum=(W.map λz=>gnA z sl).sum
 |[],_=>by
  show(0:Int)=_
  induction W with
  |nil=>rfl
  |cons x W ih=>rw[z6,zzr,<-ih (zzw.mp q).2 (λt h=>(zzd h).elim)];rfl
 |t::sl,h=>by
  have e:∀z,gnA z (t::sl)=(if t.2.w=z then t.2.co else 0)+gnA z sl:=λz=>by unfold gnA;rw[z6,zzr]
  rw[z6,zzr,IK q λt ht=>h t (.tail _ ht),zzy (λz _=>e z),abU,abp q,z8 (h t (.head _))]
def StB.wr{W:List Str}{ns:List Int}{dr nm:Bool}{es:List Ent}{k:BkD}(h:StB W ns dr nm es k)(hH:His W nm es):∀t∈k.sl,t.2.w∈W:=λt z=>by
 have:(t.2.d,t.2.w,t.2.pr)∈es.filterMap pC:=h.s▸z3.mpr ⟨t,z,rfl⟩;obtain⟨e,he,q⟩:=yyH.mp this;have h2:=(hH.g e he).2.1
 cases e with
 |buy=>cases q
 |sell d' n w p r f o=>
  have q:(d',w,p*r - f)=(t.2.d,t.2.w,t.2.pr):=zzq q;have:w=t.2.w:=congrArg (λc=>c.2.1) q;rw[<-this];exact h2
theorem abu{α:Type}{f g:α->Int}:∀{l:List α},(∀x∈l,f x<=g x)->(l.map f).sum<=(l.map g).sum
 |[],_=>zz3 _
 |x::l,h=>by
  have h1:=h x (.head _);have h2:=abu λx q=>h x (.tail _ q);rw[z6,z6,zzr,zzr];omega
def acP{W:List Str}{ms ns:List Int}{dr nm aa:Bool}{es fs:List Ent}{k k':BkD}(h:StB W ms true nm es k)(hH:His W nm es)(h':StB W ns dr aa fs k')(ab:His W aa fs)(hb:fs.map bare=es.map bare)(d:Int):Cv d (k.sl.map λt=>t.2.dat)<=Cv d (k'.sl.map λt=>t.2.dat):=by
 rw[Oh h,Oh h',Ar hb];have q:∀{k:BkD},(∀t∈k.sl,t.2.w∈W)->∀t∈kj d k.sl,t.2.w∈W:=λh t ht=>h t (zzY.mp ht).1;rw[IK hH.u.1 (q (h.wr hH)),IK hH.u.1 (q (h'.wr ab))]
 have:=abu (l:=W) (f:=λz=>gnA z (kj d k'.sl)) (g:=λz=>gnA z (kj d k.sl)) λz _=>by
  obtain⟨t,t0,hB⟩:=h.d.v rfl d z;refine h'.d.u d z t _ t0 ((Wm ?_ z t _).mpr hB);rw[Ya6,Ya6,aan hb]
 omega
def adA{ls:RL}(h:∀l∈ls,1<=l.2.p)(h0:pcs ls=0):ls=[]:=by
 cases ls with
 |nil=>rfl
 |cons l ls=>
  have h1:=h l (.head _)
  have h2:0<=pcs ls:=jN λy z=>by
   obtain⟨x,q,rfl⟩:=z3.mp z;have:=h x (.tail _ q);omega
  have h3:pcs (l::ls)=l.2.p+pcs ls:=by unfold pcs;rw[z6,zzr]
  omega
def RX{W:List Str}{ns:List Int}{dr nm:Bool}{es:List Ent}{k:BkD}{d:Int}(h:StB W ns dr nm es k)(hz:∀z∈W,runC es z=0)(hd:∀e∈es,e.day<=d):Cv d (k.sl.map λt=>t.2.dat)=((es.filterMap pC).map λc=>c.2.2).sum - (es.map GR).sum:=by
 have q:kj d k.sl=k.sl:=yys.mpr λt ht=>zzx (h.day hd t ht)
 have e2:rR W k.rs=0:=by
  unfold rR;rw[zzy (g:=λ_=>(0:Int)) λz aa=>by rw[adA (h.q.p z) (by rw[h.c,hz z aa])];rfl];clear h hz
  induction W with
  |nil=>rfl
  |cons x W ih=>rw[z6,zzr,ih];rfl
 have e3:prS d (es.filterMap pC)=((es.filterMap pC).map λc=>c.2.2).sum:=by
  unfold prS;rw[yys.mpr λc hc=>?_];obtain⟨e,he,q⟩:=yyH.mp hc;have h2:=hd e he
  cases e with
  |buy=>cases q
  |sell d' n w p r f o=>
   have q:(d',w,p*r - f)=c:=zzq q;rw[<-q];exact zzx h2
 have:=h.b;rw[Oh h,q,e3];omega
theorem Vg:∀{tl:EL},(∀r∈tl,adN r.2=0)->((tl.filter λr=>decide (r.2.word=Str.ofString "sell")).map λr=>pcE r.2*prE r.2).sum=(((tl.map (·.2)).filterMap pC).map λc=>c.2.2).sum
 |[],_=>rfl
 |(x,.buy d n w p r f)::tl,h=>by
  rw[zzA (by rw[decide_eq_true_eq];show¬(Str.ofString "buy" =Str.ofString "sell");decide+kernel),Vg λr q=>h r (.tail _ q)];rfl
 |(x,.sell d n w p r f o)::tl,h=>by
  obtain rfl:f=0:=h _ (.head _);rw[zzE (by rw[decide_eq_true_eq];rfl),z6,zzr,Vg λr q=>h r (.tail _ q)];show p*r+_=(p*r - 0)+_;rw[Zv];rfl
theorem Oc:∀{tl:EL},(∀r∈tl,adN r.2=0)->((tl.filter λr=>decide (r.2.word=Str.ofString "buy")).map λr=>pcE r.2*prE r.2).sum=((tl.map (·.2)).map GR).sum
 |[],_=>rfl
 |(x,.buy d n w p r f)::tl,h=>by
  obtain rfl:f=0:=h _ (.head _);rw[zzE (by rw[decide_eq_true_eq];rfl),z6,zzr,Oc λr q=>h r (.tail _ q)];show p*r+_=(p*r+0)+_;rw[yyo];rfl
 |(x,.sell d n w p r f o)::tl,h=>by
  rw[zzA (by rw[decide_eq_true_eq];show¬(Str.ofString "sell" =Str.ofString "buy");decide+kernel),Oc λr q=>h r (.tail _ q)];show _=0+_;rw[yy0];rfl
noncomputable def Jm(c:Str->Int)(l:List Str):List (Key×V):=(l.filter λz=>decide (0<c z)).map λz=>(Sum.inr z,.int (c z))
def Ye(c:Str->Int)(y:Str)(l:List Str):Jm c (y::l)=if 0<c y then(Sum.inr y,.int (c y))::Jm c l else Jm c l:=by
 unfold Jm;by_cases h:0<c y
 ·rw[zzE (by rw[decide_eq_true_eq];exact h),z8 h];rfl
 ·rw[zzA (by rw[decide_eq_true_eq];exact h),z4 h]
theorem CJ(c:Str->Int)(z:Str):∀l:List Str,jo (Jm c l) (Sum.inr z)=if z∈l/\0<c z then some (.int (c z))else none
 |[]=>by rw[z4 (λh=>zzd h.1)];rfl
 |y::l=>by
  rw[Ye];have ih:=CJ c z l;by_cases e:y=z
  ·subst e
   by_cases h:0<c y
   ·rw[z8 h,gC rfl,z8 ⟨.head _,h⟩]
   ·rw[z4 h,ih,z4 (λq=>h q.2),z4 (λq=>h q.2)]
  ·have hm:z∈y::l/\0<c z↔z∈l/\0<c z:=⟨λq=>⟨(zzb.mp q.1).resolve_left λe'=>e e'.symm,q.2⟩,λq=>⟨.tail _ q.1,q.2⟩⟩
   by_cases h:0<c y
   ·rw[z8 h,gD (λq=>e (yyL q)),ih]
    by_cases g:z∈l/\0<c z
    ·rw[z8 g,z8 (hm.mpr g)]
    ·rw[z4 g,z4 (λq=>g (hm.mp q))]
   ·rw[z4 h,ih]
    by_cases g:z∈l/\0<c z
    ·rw[z8 g,z8 (hm.mpr g)]
    ·rw[z4 g,z4 (λq=>g (hm.mp q))]
def MT(c:Str->Int)(z:Str)(l:List Str):Jm c (l++[z])=if 0<c z then Jm c l++[(Sum.inr z,.int (c z))]else Jm c l:=by
 unfold Jm;rw[zz1];by_cases h:0<c z
 ·rw[zzE (by rw[decide_eq_true_eq];exact h),z8 h,zza];rfl
 ·rw[zzA (by rw[decide_eq_true_eq];exact h),z4 h,ZH,zz4]
def Wv(c:Str->Int){l:List Str}(hu:l.Nodup):Ju (Jm c l):=by
 refine⟨λkv h=>?_,?_⟩
 ·obtain⟨z,q,rfl⟩:=z3.mp h
  have:=zzW (zzY.mp q).2;exact⟨z,c z,rfl,by omega⟩
 ·unfold Jm
  rw[zzj];exact List.Pairwise.map _ (λa b h e=>h (yyL e)) (List.filter_sublist.nodup hu)
def aaO(c:Str->Int)(l:List Str):(Jm c l).length<=l.length:=by unfold Jm;rw[z0];exact yym _ _
def acj{es:List Ent}{z:Str}(h:∀e∈es,e.ware≠z):runC es z=0:=by
 have key:∀(es:List Ent)(c:Str->Int),(∀e∈es,e.ware≠z)->c z=0->(es.foldl Yi c) z=0:=λes=>by
  induction es with
  |nil=>exact λc _ h=>h
  |cons e es ih=>
   intro c h h0;refine ih _ (λe he=>h e (.tail _ he)) ?_;have q:=h e (.head _)
   cases e with
   |buy d n w p r f=>show(if z=w then _ else _)=_;rw[z4 λe=>q e.symm];exact h0
   |sell d n w p r f o=>show(if z=w then _ else _)=_;rw[z4 λe=>q e.symm];exact h0
 exact key es _ h rfl
def aej{x:Str}{nm:Bool}{es:List Ent}(hH:His (W2 x) nm es)(hz:∀z,0<=runC es z)(z:Str):iZ (Jm (runC es) (W2 x)) z=runC es z:=by
 unfold iZ;rw[CJ];by_cases c:z∈W2 x/\0<runC es z
 ·rw[z8 c]
 ·rw[z4 c]
  by_cases m:z∈W2 x
  ·have h1:¬0<runC es z:=λh=>c ⟨m,h⟩
   have:=hz z;show(0:Int)=_;omega
  ·exact(acj (z:=z) λe he (q:e.ware=z)=>m (q▸(hH.g e he).2.1)).symm
def PN{c:Str->Int}{l:List Str}(h:(Jm c l).length=0)(h0:∀z,0<=c z):∀z∈l,c z=0:=λz q=>by
 have h1:=CJ c z l;rw[yyV.mp h]at h1;by_cases g:0<c z
 ·rw[z8 ⟨q,g⟩]at h1;cases h1
 ·have:=h0 z;omega
noncomputable def Rh(K:Fg_):Sp:=λvs H Q _=>∃(a:Addr)(ns:List Int),vs=[.ref a]/\SqL K H a (ns.map V.int)/\ns.length<=63/\∀H',Q (.bl true) H'
def YL{W:List Str}{q:List Ent}(h:His W false q):∀e∈q,e.lots=none:=λe z=>by
 obtain⟨i,hi⟩:=List.mem_iff_getElem?.mp z;have:=h.o i e hi
 cases e with
 |buy=>rfl
 |sell d n w p r f o=>exact this.2 rfl
def abq{e:Ent}(h:e.good):Bw (pcE e) (prE e):=by
 cases e with
 |buy d n w p r f=>exact Ri h.2.1 h.2.2.1
 |sell d n w p r f o=>exact Ri h.2.1 h.2.2.1
def abj{q tl:List Ent}{m:Int}(hb:q.map bare=tl.map bare)(h:∀e∈tl,e.day<=m):∀e∈q,e.day<=m:=λe he=>by
 have:bare e∈tl.map bare:=hb▸z3.mpr ⟨e,he,rfl⟩;obtain⟨y,z,ey⟩:=z3.mp this;rw[<-(Ij ey).1];exact h y z
noncomputable def BkV(A:Adr)(x:Str)(tl:List Ent)(H:Hp)(D:Addr)(v:V):Prop:=∃b k,v=.ref b/\D∉(k.M b).take 3/\(∀xs,fV A (upd H D (.lst xs)) b k)/\∃nm fs,His (W2 x) nm fs/\fs.map bare=tl.map bare/\StB (W2 x) (fs.map Ent.num) false nm fs k
def fV.but{H H':Hp}{b D:Addr}{k:BkD}(h:fV A H b k)(hD:D∈k.ex)(hn:D∉(k.M b).take 3)(hl:∃xs,H' D=some (.lst xs))(z:But D H H'):fV A H' b k:=by
 have n1:b≠D:=λe=>hn (e▸BkD.mb);have n2:k.rows≠D:=λe=>hn (e▸BkD.mr);have n3:k.sales≠D:=λe=>hn (e▸BkD.ms);refine⟨let⟨dx,e⟩:=h.i;⟨dx,z _ _ n1 e⟩,z _ _ n2 h.r,z _ _ n3 h.s,h.z.same λa o e=>?_,λm hm=>?_⟩
 ·unfold lg at e⊢
  split at e
  ·cases e
  ·next c=>rw[z4 c];exact z _ _ (λq=>c (by rw[q];exact .tail _ (.tail _ (.tail _ hD)))) e
 ·by_cases c:m=D
  ·rw[c];exact hl
  ·exact(h.e m hm).imp λ_ q=>z _ _ c q
theorem Rr{α:Type}{P:V->Prop}:∀{ys:List α}{vs:List V},oW (λ_ v=>P v) ys vs->∀v∈vs,P v
 |[],[],_=>λv h=>(zzd h).elim
 |_::_,_::_,h=>λv q=>by
  rcases zzb.mp q with rfl|q
  ·exact h.1
  ·exact Rr h.2 v q
 |[],_::_,h=>h.elim
 |_::_,[],h=>h.elim
def aat{H H':Hp}{a:Addr}{o:HO}(s:Same H H'):Same (upd H a o) (upd H' a o):=λb u e=>by
 by_cases c:b=a
 ·subst c;rw[eX]at e⊢;exact e
 ·rw[fC c]at e⊢;exact s _ _ e
def acF{H:Hp}{D b C db:Addr}{vs:List V}{gs:List (Str×V)}{es:EL}(hE:nG A H es)(z:H D=some (.lst (.ref b::vs)))(hb:H b=some (.ins C db gs)):nG A (lg H [D]) es:=λr hr=>by
 obtain⟨dx,nv,hx,hn⟩:=hE r hr;have no:∀{a:Addr}{o:HO},H a=some o->(∀xs,o≠.lst xs)->a∉[D]:=λh q c=>by rw[z9.mp c,z]at h;exact q _ (zzq h).symm
 refine⟨dx,nv,jf hx (no hx λ_ e=>by cases e),?_⟩
 cases ho:r.2.lots with
 |none=>rw[ho]at hn;exact hn
 |some rs=>
  rw[ho]at hn;obtain⟨l,e,h1,h2⟩:=hn;refine⟨l,e,jf h1 λc=>?_,λq hq=>jf (h2 q hq) (no (h2 q hq) λ_ e=>by cases e)⟩;rw[z9.mp c,z]at h1;have h3:V.ref b::vs=refs rs:=by injection (zzq h1)
  cases rs with
  |nil=>cases h3
  |cons q rs=>
   have:V.ref b=V.ref q.1:=(yyQ h3).1;injection this with this
   have:=this▸h2 q (.head _);rw[hb]at this;cases this
noncomputable def acr(H:Hp)(e:Ent)(v:V):Prop:=∃t,v=.ref t/\H t=some (.tup (.str e.word::e.args .non))
def acr.same{H H':Hp}{e:Ent}{v:V}(h:acr H e v)(s:Same H H'):acr H' e v:=let⟨t,e1,e2⟩:=h;⟨t,e1,s _ _ e2⟩
noncomputable def dvE:Ent->DV
 |.buy d n w p r f=> .tup [.str "buy",.int d,.int n,.str w,.int p,.int r,.int f]
 |.sell d n w p r f _=> .tup [.str "sell",.int d,.int n,.str w,.int p,.int r,.int f,.non]
theorem Jl{H:Hp}:∀{es:EL}{acc:List V},oW (λr v=>acr H r.2 v) es acc->lu K H acc (es.map λr=>dvE r.2)
 |[],[],_=> .nil
 |r::es,v::acc,h=>by
  obtain⟨⟨t,rfl,q⟩,h2⟩:=h;refine .cons ?_ (Jl h2);obtain⟨y,e⟩:=r
  cases e with
  |buy d n w p r f=>exact .tup (gM q) (.cons (.str _) (.cons (.int _) (.cons (.int _) (.cons (.str _) (.cons (.int _) (.cons (.int _) (.cons (.int _) .nil)))))))
  |sell d n w p r f o=>exact .tup (gM q) (.cons (.str _) (.cons (.int _) (.cons (.int _) (.cons (.str _) (.cons (.int _) (.cons (.int _) (.cons (.int _) (.cons .non .nil))))))))
 |[],_::_,h=>h.elim
 |_::_,[],h=>h.elim
theorem Vh:∀es:EL,mK (es.map λr=>dvE r.2)<=4
 |[]=>zzB _
 |r::es=>by
  rw[z6];unfold mK;refine Nat.max_le.mpr ⟨?_,Vh es⟩;obtain⟨y,e⟩:=r;cases e<;>·simp only[dvE,qF,mK];decide
def afc(T:Txt K mg A D):gJ P w K mg base CX0 12 A.law D.law ["_law_script"] (Rh K):=by
 refine T.xI.F.okv lR λ_ _ _ _ H vs Q E hr h=>?_
 ·obtain⟨a,ns,rfl,hS,hn,k⟩:=h
  refine ⟨_,(eU (aaY (pcg (DW T) hr T.wa (Gk T) (pav 0 eV)) (jV (K:=K) (n:=2) rfl (fZ (fG (i:=1) lR.nd rfl orl) (fZ (fG (i:=2) lR.nd rfl orl) jU))))
   (eU (fL (i:=3) lR.nd rfl orl nZ)
   (eU (kE zzM rfl (acd (pvD 2)) (fG (i:=4) lR.nd rfl orl)
    (eY (iC (fK (Jf) (jA (jr hr) (pvD 2) (pvD 4) (λ_ _=>rfl)) fB (fX _)) (eY (lJ (jr hr) (pvD 3) (pvD 4) (jA (jr hr) (pvD 2) (pvD 4) (λ_ _=>rfl)) rfl)) gn)))
   (eU (fL (i:=5) lR.nd rfl orl (TJ (K:=K) rfl (by rfl) T.xU (by decide+kernel) (by rfl) T.x4 (by decide+kernel) (eQ (gF (cap:=[none]) (N':=["_law_row"]) rfl (by walk_at "c") (gm (K:=K) (pv 1)) (λ_ _ _ _=>(fG (i:=0) nd1 rfl orl orr)) (λ_ _ _ _=>gQ) (λ_ _ _ _=>(jG (jT (K:=K)) (pvD 0) fB (λ_ _=>rfl)))) eV)))
   (eU (fL (i:=5) lR.nd rfl orl (fQ Rt (fQ Rt (jc (eQ (fH (Xb rfl) (by rfl) T.x5 (by decide+kernel) (eQ fB (eQ (fQ nO (jG (iM (K:=K)) (pvD 5) fB (λ_ _=>rfl)) fB) eV))) eV)) (pvD 5)) (jc (eQ (fQ iY (jG (iM (K:=K)) (pvD 5) (Yr RM fB) (λ_ _=>rfl)) fB) eV))))
   (eU (fL (i:=6) lR.nd rfl orr (pcg (pM T) hr T.wo (qN T) (pav 1 (pav 0 (eQ Kg eV)))))
   (eU (nW (i:=7) lR.nd rfl rfl (cap:=[none]) (N':=["_law_entry"]) rfl (by walk_at "c") (gm (K:=K) (pv 6)) (λ_ _ _ _=>(fG (i:=0) nd1 rfl orl orr)) (λ_ _ _ _=>gQ) (λ_ _ _ _=>(jj (pv 0) (mc T.yt T.zW (Ek T) hr (Hh T) (mc T.yC T.zX (Bd T) hr (Ei T) .nil)) iI)))
   (eU (fL (i:=8) lR.nd rfl orr (pcg (sY T) hr T.wB (Bk T) (eQ (pcg (tY T) hr T.xC (Fw T) (eQ (pcg (Ds T) hr T.xH (Ih T) (eQ gP eV)) (pav 6 eV))) (pav 5 eV))))
   (eU (iC (fK (sI) (pvD 8) jx (fX _)) (eY (fJ Kg)) gn)
   (eU (fL (i:=9) lR.nd rfl orl (fH (jE (K:=K) rfl) (by rfl) T.xS (by decide+kernel) (eQ (gF (cap:=[none]) (N':=["_law_row"]) rfl (by walk_at "c") (gm (K:=K) (pv 1)) (λ_ _ _ _=>(fG (i:=0) nd1 rfl orl orr)) (λ_ _ _ _=>(rK (fK (qX) (jG (jT (K:=K)) (pvD 0) fB (λ_ _=>rfl)) gP (fX _)))) (λ_ _ _ _=>(fQ jq (jG (jT (K:=K)) (pvD 0) fB (λ_ _=>rfl)) (jG (jT (K:=K)) (pvD 0) fB (λ_ _=>rfl))))) eV)))
   (eU (fL (i:=10) lR.nd rfl orl (fH (jE (K:=K) rfl) (by rfl) T.xS (by decide+kernel) (eQ (gF (cap:=[none]) (N':=["_law_row"]) rfl (by walk_at "c") (gm (K:=K) (pv 1)) (λ_ _ _ _=>(fG (i:=0) nd1 rfl orl orr)) (λ_ _ _ _=>(rK (fK (qX) (jG (jT (K:=K)) (pvD 0) fB (λ_ _=>rfl)) gP (fX _)))) (λ_ _ _ _=>(fQ jq (jG (jT (K:=K)) (pvD 0) fB (λ_ _=>rfl)) (jG (jT (K:=K)) (pvD 0) fB (λ_ _=>rfl))))) eV)))
   (eU (iC (PW.pt (Lx (fK (abv hr) (pvD 3) nZ (fX _)) (DG (fK (acA) (jG (iM (K:=K)) (pvD 8) (Yr RM fB) (λ_ _=>rfl)) (fQ nO (pvD 10) (pvD 9)) (fX _))))) (eY (fJ Kg)) gn)
   (eU (nW (i:=11) lR.nd rfl rfl (cap:=[none,some 6]) (N':=["_law_word", "_law_entries_here"]) rfl (by walk_at "c") (oK (K:=K) (jc (eQ gP (eQ gP (eQ gP eV))))) (λ_ _ _ _=>(fG (i:=0) (show(["_law_word", "_law_entries_here"]:List Str).Nodup from by decide+kernel) rfl orl orr)) (λ_ _ _ _=>gQ) (λ_ _ _ _=>(pcg (tY T) hr T.xC (Fw T) (eQ (pcg (Ds T) hr T.xH (Ih T) (pav 0 eV)) (pav 1 eV)))))
   (eU (gj (lW (K:=K) zzF zzI zzJ iH (pvD 11) (eQ (pcg (tY T) hr T.xC (Fw T) (eQ (pcg (Ds T) hr T.xH (Ih T) (eQ gP eV)) (eQ (pcg (pM T) hr T.wo (qN T) (pav 1 (pav 0 (eQ Kg eV)))) eV))) eV)))
   (eU (kE zzM rfl (gm (K:=K) (pv 11)) (fG (i:=12) lR.nd rfl orl)
    (eU (fL (i:=13) lR.nd rfl orr (pcg (sY T) hr T.wB (Bk T) (pav 12 (pav 5 eV))))
    (eU (iC (PW.pt (Kv (fK (sI) (pvD 13) jx (fX _)) (Kv (fK (aeF hr) (jj (pv 12) (mc T.yT T.zQ (Be T) hr (FN T) .nil) iI) (pvD 3) (fX _)) (MP (PW.pt (Lx (fK (abv hr) (pvD 3) nZ (fX _)) (DG (fK (acA) (jG (iM (K:=K)) (pvD 13) (Yr RM fB) (λ_ _=>rfl)) (jG (iM (K:=K)) (pvD 8) (Yr RM fB) (λ_ _=>rfl)) (fX _))))))))) (eY (fJ Kg)) gn)
    (eY (iC (fK (acD (K:=K) hr) (gF (cap:=[none,some 13,some 8]) (N':=["_law_k", "_law_gains_here", "_law_least"]) rfl (by walk_at "c") (sU (by rfl) T.xJ (eQ (fH (ji (K:=K)) (by rfl) T.xK (by decide+kernel) (pav 5 eV)) eV)) (λ_ _ _ _=>(fG (i:=0) (show(["_law_k", "_law_gains_here", "_law_least"]:List Str).Nodup from by decide+kernel) rfl orl orr)) (λ_ _ _ _=>(rK (fK (Lf) (jG (iM (K:=K)) (pvD 1) (pvD 0) (λ_ _=>rfl)) (jG (iM (K:=K)) (pvD 2) (pvD 0) (λ_ _=>rfl)) (fX _)))) (λ_ _ _ _=>(pvD 0))) (jc eV) (fX _)) (eY (fJ Kg)) gn)))))
   (eY (fJ (Iw (Xp (K:=K) hr) (gF (cap:=[none]) (N':=["_law_entry"]) rfl (by walk_at "c") (gm (K:=K) (pv 6)) (λ_ _ _ _=>(fG (i:=0) nd1 rfl orl orr)) (λ_ _ _ _=>gQ) (λ_ _ _ _=>(jj (pv 0) (mc T.yt T.zW (Ek T) hr (Hh T) (mc T.yC T.zX (Bd T) hr (Ei T) .nil)) iI))) (pvD 7) (fX _))))))))))))))))))),?_⟩
  simp only[start_eq];walk_at "n";refine⟨a,ns,rfl,hS,λt rl hd x tl H1 s1 ht bl hR az dz hH hz b9 ey el cv=>⟨t,rfl,_,gM ht,rfl,_,_,rfl,_,_,rfl,rfl,?_⟩⟩;walk_at "n";intro du bb;have s2:=eZ (o:=.dK []) bb;have h2:(upd H1 du (.dK [])) du=some (.dK []):=eX;generalize upd H1 du (.dK [])=H2 at s2 h2;have S2:=s1.trans s2;have ct:H du=none:=s1.free bb;have dn:du≠hd:=(fU az bb).symm
  (try dsimp only)
  refine gA λu hu=>?_;rw[ap_seq];refine qx λtb ce=>?_;rw[ap_for];walk_at "i";refine⟨_,s2 _ _ az,λo=>?_⟩
  refine CN.keys (kvs:=kv2 x (tl.map (·.2))) (λi σ Hx=>∃(v4:Option V),σ=[some (.ref a),some (.ref rl),some (.ref hd),some (.ref du),v4,none,none,none,none,none,none,none,none,none]/\(∀b o,b≠du->b≠hd->H2 b=some o->Hx b=some o)/\Hx hd=some (.frz o (.dK (kv2 x (tl.map (·.2)))))/\Hx du=some (.dK (Jm (runC (tl.map (·.2))) ((W2 x).take i))))
   ⟨_,rfl,λb o _ n2 h=>(fC n2).trans h,eX,(fC dn).trans h2⟩ (λi σ Hx _ ⟨_,_,_,h,_⟩=>h) ?_ ?_
  ·rintro i kv σ Hx hi ⟨v4,rfl,kx,bn,ak⟩
   obtain ⟨z,dr,rfl⟩:∃z,(W2 x)[i]? =some z/\kv=(Sum.inr z,.int (runC (tl.map (·.2)) z)):=by
    rcases i with _|_|i
    ·cases hi;exact⟨_,rfl,rfl⟩
    ·cases hi;exact⟨_,rfl,rfl⟩
    ·cases hi
   have ef:=zzp dr;have hG:Ir Hx hd (V.str z) (some (.int (runC (tl.map (·.2)) z))):=oh (es:=tl.map (·.2)) dz ef▸.inl ⟨_,Sum.inr z,.inr ⟨o,bn⟩,rfl,rfl⟩;have htk:(W2 x).take (i+1)=(W2 x).take i++[z]:=by rw[zzO,dr];rfl
   have dl:z∉(W2 x).take i:=λq=>by
    have df:=hH.u.1;rw[<-zzN (i+1) (W2 x),htk]at df;exact(zzS.mp (zzS.mp df).1).2.2 z q z (z9.mpr rfl) rfl
   subst ce;rw[ap_name];walk_at "i";refine⟨_,hG,_,rfl,?_⟩;by_cases c:0<runC (tl.map (·.2)) z
   ·rw[z8 c]
    refine⟨_,hG,_,qD (k:=Sum.inr z) ak ?_,?_⟩
    ·have h1:=aaO (runC (tl.map (·.2))) ((W2 x).take i)
     have h2:((W2 x).take i).length<=2:=by rw[zzR];exact Nat.min_le_right _ _
     rw[zzk];omega
    ·rw[JH _ (by rw[CJ,z4];intro q;exact dl q.1)]
     refine⟨λb o n1 n2 h=>(fC n1).trans (kx b o n1 n2 h),(fC dn.symm).trans bn,?_⟩;rw[eX,htk,MT,z8 c]
   ·rw[z4 c]
    exact⟨kx,bn,by rw[htk,MT,z4 c];exact ak⟩
  ·rintro σ Hx ⟨v4,rfl,kx,bn,ak⟩
   subst hu;have S3:Same H Hx:=λb o h=>kx b o (λe=>by rw[e,ct]at h;cases h) (λe=>by rw[e,cv]at h;cases h) (S2 _ _ h);have ac:Hx rl=some (.lst (iz tl)):=kx _ _ (fU bl bb) (λe=>by rw[e,az]at bl;cases bl) (s2 _ _ bl);have au:JT Hx tl:=λr hr=>kx _ _ (fU (hR r hr) bb) (λe=>by have:=hR r hr;rw[e,az]at this;cases this) (s2 _ _ (hR r hr));have ak:Hx du=some (.dK (Jm (runC (tl.map (·.2))) (W2 x))):=ak;clear kx bn s2 h2 S2 bl hR az s1 ht;walk_at "n";refine⟨⟨_,fj ac⟩,Nj (f:=λr:Addr×Ent=>V.ref r.1) (λσ=>∃v,σ=[v]) (λ_ r v _=>v=.int r.2.day) (fj ac) ⟨_,rfl⟩ (by omega) ?_ ?_⟩
   ·rintro Da r ab σ H5 R ⟨_,rfl⟩ sm hD hA kk
    have ad:=sm _ _ (au r ab);rw[JW]at ad;walk_at "i";exact⟨_,gM ad,_,rfl,kk _ _ _ ⟨_,rfl⟩ (same_refl _) λ_ _=>rfl⟩
   intro p0 H4 acc ev s4 h4 c1;rw[oW.ints c1]at h4;rw[ap_rSS];refine⟨_,fj h4,by rw[z0];omega,λpd ms cw cm ca dd=>?_⟩;rw[z0]at dd;have s5:=s4.trans (eZ (o:=.lst (ms.map V.int)) cw);have h5:(upd H4 pd (.lst (ms.map V.int))) pd=some (.lst (ms.map V.int)):=eX;generalize upd H4 pd (.lst (ms.map V.int))=H5 at s5 h5;clear h4 c1 cw s4
   obtain ⟨m0,ml,cg⟩:∃m0 ml,ms=m0::ml:=by
    cases ms with
    |nil=>
     obtain⟨r,et,rfl⟩:=ZQ b9;exact(zzd ((cm r.2.day).mpr (.head _))).elim
    |cons m0 ml=>exact⟨_,_,rfl⟩
   have aw:ms≠[]:=by rw[cg];exact λe=>by cases e
   obtain⟨mi,mz,cd⟩:∃mi mz,ms=mi++[mz]:=⟨ms.dropLast,ms.getLast aw,(List.dropLast_concat_getLast aw).symm⟩;have bg:atI (ms.map V.int) (-1)=some (.int mz):=by rw[cd,zza];exact QW _ _
   have bx:∀r∈tl,r.2.day<=mz:=λr hr=>by
    have h1:=(cm r.2.day).mpr (z3.mpr ⟨r,hr,rfl⟩);rw[cd]at h1 ca;rcases zzs.mp h1 with h1|h1
    ·have:=(yyf.mp ca).2.2 _ h1 mz (z9.mpr rfl)
     omega
    ·rw[z9.mp h1];exact zz3 _
   walk_at "n";refine⟨_,fj h5,.int m0,by rw[cg];exact qO (j:=0) rfl,m0,rfl,sz,λq1 cs=>?_⟩;generalize(if m0 - 1>0 then m0 - 1 else 0)=mx;have t1:=eZ (o:=.lst [V.int mx]) cs;have g1:(upd H5 q1 (.lst [V.int mx])) q1=some (.lst [V.int mx]):=eX;generalize upd H5 q1 (.lst [V.int mx])=c3 at t1 g1;refine⟨_,g1,_,t1 _ _ h5,by rw[z0,zzk];show 1+_<=_;omega,λq2 c7=>?_⟩;have t2:=eZ (o:=.lst ([V.int mx]++ms.map V.int)) c7;have g2:(upd c3 q2 (.lst ([V.int mx]++ms.map V.int))) q2=some (.lst ([V.int mx]++ms.map V.int)):=eX;generalize upd c3 q2 (.lst ([V.int mx]++ms.map V.int))=di at t2 g2;refine⟨_,fj ((t1.trans t2) _ _ h5),.int mz,bg,mz,rfl,sz,λq3 c2=>?_⟩;have t3:=eZ (o:=.lst [V.int (mz+1)]) c2;have g3:(upd di q3 (.lst [V.int (mz+1)])) q3=some (.lst [V.int (mz+1)]):=eX;generalize upd di q3 (.lst [V.int (mz+1)])=da at t3 g3;refine⟨_,t3 _ _ g2,_,g3,by rw[zzt,z0,zzk];show 1+_+1<=_;omega,λq4 c8=>?_⟩;have t4:=eZ (o:=.lst (([V.int mx]++ms.map V.int)++[V.int (mz+1)])) c8;have g4:(upd da q4 (.lst (([V.int mx]++ms.map V.int)++[V.int (mz+1)]))) q4=some (.lst (([V.int mx]++ms.map V.int)++[V.int (mz+1)])):=eX;generalize upd da q4 (.lst (([V.int mx]++ms.map V.int)++[V.int (mz+1)]))=H6 at t4 g4;have s6:=s5.trans (t1.trans (t2.trans (t3.trans t4)));obtain⟨ds,ch,c5,dj,eh⟩:∃ds:List Int,H6 q4=some (.lst (ds.map V.int))/\ds.length<=100/\∃dj,ds=dj++[mz+1]:=⟨[mx]++ms++[mz+1],by rw[g4,zza,zza];rfl,by rw[zzt,zzt];show 1+_+1<=_;omega,_,rfl⟩;clear g1 g2 g3 g4 t1 t2 t3 t4 cs c7 c2 c8 s5 h5 bg cd cg cm ca aw dd;walk_at "n";refine⟨rl,a,ns,false,x,tl,rfl,s6 _ _ ac,λr hr=>s6 _ _ (au r hr),(S3.trans s6).seq hS,hH,b9,λpe es hs H7 s7 eq h7 hE bo ar hb=>?_⟩;have e9:es.length=hs.length:=by have:=bo.length_eq;rwa [z0]at this
   have e3:=ar.l;have bs:∀r∈es,r.2.lots=none:=λr hr=>YL ar _ (bo.mem_iff.mp (z3.mpr ⟨r,hr,rfl⟩));walk_at "n";refine⟨⟨_,fj h7⟩,Nj (f:=λr:Addr×Ent=>V.ref r.1) (λσ=>∃v,σ=[v]) (λ_ r v H'=>acr H' r.2 v) (fj h7) ⟨_,rfl⟩ (by omega) ?_ ?_⟩
   ·rintro Da r ab σ H5 R ⟨_,rfl⟩ sm hD hA kk
    obtain⟨dx,nv,hx,hn⟩:=(hE r ab).same sm;have as:=bs r ab;obtain⟨x,e⟩:=r;have bm:∀t,H5 t=none->R [some (.ref x)] (.ref t) (upd H5 t (.tup (.str e.word::e.args .non))):=λt ht=>kk _ _ _ ⟨_,rfl⟩ (eZ ht) λH' hb=>⟨t,rfl,hb _ _ (λc=>by obtain⟨acc,hA⟩:=hA;rw[c,hA]at ht;cases ht) eX⟩
    cases e with
    |buy d n w p r f=>
     walk_at "i";exact md hx zze (by rfl) ⟨x,.buy d n w p r f,rfl,rfl,⟨dx,nv,hx,hn⟩,as,bm⟩
    |sell d n w p r f o=>
     walk_at "i";exact md hx (zzh _ zze) (by rfl) ⟨x,.sell d n w p r f o,rfl,rfl,⟨dx,nv,hx,hn⟩,as,bm⟩
   intro pt H8 eo er s8 h8 d2;walk_at "n";refine⟨"dearest",true,A.vM,rfl,.d,λwx dx H9 s9 _ h9=>⟨[],wx,pe,W2 x,true,false,es,hs,rfl,⟨_,dx,h9,.d⟩,λm h=>(zzd h).elim,(s8.trans s9) _ _ h7,hE.same' (Wi (s8.trans s9) λm h=>(zzd h).elim),ar,bo,λ_=>rfl,λb0 k0 e8 cz dt _ bd _=>?_⟩⟩;have ej:=bd.sl;refine⟨b0,q4,k0,ds,rfl,dt,by omega,(s7.trans (s8.trans (s9.trans cz))) _ _ ch,c5,λbr fe ec _ b6=>?_⟩;have ay:=s9.trans (cz.trans ec);have af:=s6.trans (s7.trans (s8.trans ay))
   iterate 2 walk_at "n"
   refine⟨⟨_,fj (af _ _ ac)⟩,aaq (f:=λr:Addr×Ent=>V.ref r.1) (λσ=>∃v,σ=[v]) (λr=>decide (r.2.word=Str.ofString "buy")) (λ_ r v _=>v=.int (pcE r.2*prE r.2)) (fj (af _ _ ac)) ⟨_,rfl⟩ (by omega) ?_ ?_⟩
   ·rintro Da r ab σ H5 R1 R2 ⟨_,rfl⟩ sm hD hA k1 k2
    have ad:=(af.trans sm) _ _ (au r ab);rw[JW]at ad;have hg:=(hH.g r.2 (z3.mpr ⟨r,ab,rfl⟩)).1;walk_at "i";refine⟨_,gM ad,_,rfl,rfl,?_⟩;by_cases e:r.2.word=Str.ofString "buy"
    ·rw[z8 (by rw[e])]
     exact⟨_,gM ad,_,rfl,_,gM ad,_,rfl,_,rfl,_,rfl,abq hg,k1 (zzx e) _ _ _ ⟨_,rfl⟩ (same_refl _) λ_ _=>rfl⟩
    ·rw[z4 (by simpa using e)]
     exact k2 (zzH e) _ _ ⟨_,rfl⟩ (same_refl _)
   intro ep fb d6 _ bk ck bw;rw[oW.ints bw]at ck;rw[ap_rSum];refine⟨_,fj ck,?_⟩;rw[Oc λr hr=>(hH.g r.2 (z3.mpr ⟨r,hr,rfl⟩)).2.2];walk_at "n";refine⟨⟨_,fj ((af.trans bk) _ _ ac)⟩,aaq (f:=λr:Addr×Ent=>V.ref r.1) (λσ=>∃v,σ=[v]) (λr=>decide (r.2.word=Str.ofString "sell")) (λ_ r v _=>v=.int (pcE r.2*prE r.2)) (fj ((af.trans bk) _ _ ac)) ⟨_,rfl⟩ (by omega) ?_ ?_⟩
   ·rintro Da r ab σ H5 R1 R2 ⟨_,rfl⟩ sm hD hA k1 k2
    have ad:=(af.trans (bk.trans sm)) _ _ (au r ab);rw[JW]at ad;have hg:=(hH.g r.2 (z3.mpr ⟨r,ab,rfl⟩)).1;walk_at "i";refine⟨_,gM ad,_,rfl,rfl,?_⟩;by_cases e:r.2.word=Str.ofString "sell"
    ·rw[z8 (by rw[e])]
     exact⟨_,gM ad,_,rfl,_,gM ad,_,rfl,_,rfl,_,rfl,abq hg,k1 (zzx e) _ _ _ ⟨_,rfl⟩ (same_refl _) λ_ _=>rfl⟩
    ·rw[z4 (by simpa using e)]
     exact k2 (zzH e) _ _ ⟨_,rfl⟩ (same_refl _)
   intro e4 d3 ee _ dg ci b3;rw[oW.ints b3]at ci;rw[ap_rSum];refine⟨_,fj ci,?_⟩;rw[Vg λr hr=>(hH.g r.2 (z3.mpr ⟨r,hr,rfl⟩)).2.2];have ai:=bk.trans dg;clear bk dg ck ci bw b3
   have dc:(∀z∈W2 x,runC (tl.map (·.2)) z=0)->Cv (mz+1) (k0.sl.map λt=>t.2.dat)=(((tl.map (·.2)).filterMap pC).map λc=>c.2.2).sum - ((tl.map (·.2)).map GR).sum:=λh=>by
    rw[RX (d:=mz+1) bd (λz hz=>by rw[qe hb];exact h z hz) (abj hb λe he=>?_),Ar hb,Kq hb];obtain⟨r,hr,rfl⟩:=z3.mp he;have:=bx r hr;omega
   have ba:∀f:Int->Int,atI ((ds.map f).map V.int) (-1)=some (.int (f (mz+1))):=λf=>by rw[eh,zza,zza];exact QW _ _
   (try dsimp only)
   refine lX (λσ' H'=>σ'=[some (.ref a),some (.ref rl),some (.ref hd),some (.ref du),v4,some (.ref q4),some (.ref pe),some (.ref pt),some (.ref br),some (.int ((tl.map (·.2)).map GR).sum),some (.int (((tl.map (·.2)).filterMap pC).map λc=>c.2.2).sum),none,none,none]/\Same d3 H') ?_ ?_
   ·rintro σ dm ⟨rfl,cx⟩
    have c4:=s8.trans (ay.trans (ai.trans cx));walk_at "n";refine⟨by rw[zzk];decide,λpl dv=>⟨⟨_,fj eX⟩,?_⟩⟩;have sl:=eZ (o:=.lst [V.str (Str.ofString "eldest"),V.str (Str.ofString "newest"),V.str (Str.ofString "mean")]) dv;have b1:(upd dm pl (.lst [V.str (Str.ofString "eldest"),V.str (Str.ofString "newest"),V.str (Str.ofString "mean")])) pl=some (.lst [V.str (Str.ofString "eldest"),V.str (Str.ofString "newest"),V.str (Str.ofString "mean")]):=eX;generalize upd dm pl (.lst [V.str (Str.ofString "eldest"),V.str (Str.ofString "newest"),V.str (Str.ofString "mean")])=d0 at sl b1⊢;have ag:=c4.trans sl;refine Nj (f:=V.str) (ys:=[Str.ofString "eldest",Str.ofString "newest",Str.ofString "mean"]) (λσ=>∃v,σ=[v,some (.ref pe)]) (λD _ v H'=>BkV A x (tl.map (·.2)) H' D v) (fj b1) ⟨_,rfl⟩ (by decide) ?_ ?_
    ·rintro Da z am σ H5 R ⟨_,rfl⟩ sm hD ⟨acc,hA⟩ kk
     obtain ⟨C,hC⟩:∃C,Od A z false C:=by
      rcases zzb.mp am with rfl|am
      ·exact⟨_,.e⟩
      rcases zzb.mp am with rfl|am
      ·exact⟨_,.n⟩
      ·rw[z9.mp am];exact⟨_,.m⟩
     walk_at "i";refine⟨z,false,C,rfl,hC,λwx dx H6 s6 _ h6=>⟨[Da],wx,pe,W2 x,false,false,es,hs,rfl,⟨_,dx,h6,hC.way⟩,λm hm=>⟨acc,by rw[z9.mp hm];exact s6 _ _ hA⟩,(ag.trans (sm.trans s6)) _ _ h7,(hE.same' ag).same' (Wi (sm.trans s6) λm hm=>by rw[z9.mp hm];exact hD),ar,bo,λe=>(by cases e),λb k' H8 ed hB hM al d1=>?_⟩⟩;have bi:Da∉(k'.M b).take 3:=λc=>by have:=hM Da c;rw[s6 _ _ hA]at this;cases this
     exact kk _ _ _ ⟨_,rfl⟩ (s6.trans ed) λH' d8=>⟨b,k',rfl,bi,λxs=>hB.but (d1▸z9.mpr rfl) bi ⟨xs,eX⟩ (λb' o n e=>(fC n).trans (d8 _ _ n e)),false,hs,ar,hb,al⟩
    intro pb e7 aa d9 cr aq ao;have de:=ag.trans cr;have bf:=s6.trans (s7.trans de);have av:=Rr ao;have cj:aa≠[]:=λe=>by have:=oW.len ao;rw[e]at this;cases this
    walk_at "n";refine⟨tyL (fj aq), "newest",false,A.vL,rfl,.n,λwx dx e0 ah _ dy=>⟨rl,a,ns,true,x,tl,rfl,(bf.trans ah) _ _ ac,λr hr=>(bf.trans ah) _ _ (au r hr),(S3.trans (bf.trans ah)).seq hS,hH,b9,λeg d4 dq e5 aj em cq c6 bu be cn=>⟨[pb],wx,eg,W2 x,false,true,d4,dq,rfl,⟨_,dx,aj _ _ dy,.n⟩,λm hm=>⟨aa,by rw[z9.mp hm];exact(ah.trans aj) _ _ aq⟩,cq,?_,be,bu,λe=>(by cases e),λb4 k4 bc cl dh cy b2 bz=>?_⟩⟩⟩
    ·obtain⟨v,vs,rfl⟩:=ZQ cj
     obtain⟨b,k',rfl,bi,hB,_⟩:=av v (.head _);obtain⟨db,bp⟩:=(hB []).i;rw[fC (λe:b=pb=>bi (e▸BkD.mb))]at bp;exact acF c6 ((ah.trans aj) _ _ aq) ((ah.trans aj) _ _ bp)
    have h16':=(ah.trans (aj.trans cl)) _ _ aq;have c9:pb∉(k4.M b4).take 3:=λc=>by have:=cy pb c;rw[(ah.trans aj) _ _ aq]at this;cases this
    have hB4':=dh.but (H':=upd bc pb (.lst (aa++[V.ref b4]))) (bz▸z9.mpr rfl) c9 ⟨_,eX⟩ (λb' o n e=>(fC n).trans e)
    have bt:∀v∈aa++[V.ref b4],∃b k',v=.ref b/\fV A (upd bc pb (.lst (aa++[V.ref b4]))) b k'/\∃nm fs,His (W2 x) nm fs/\fs.map bare=(tl.map (·.2)).map bare/\StB (W2 x) (fs.map Ent.num) false nm fs k':=λv hv=>by
     rcases zzs.mp hv with hv|hv
     ·obtain⟨b,k',rfl,bi,hB,cc⟩:=av v hv
      exact⟨b,k',rfl,(hB _).same (aat (ah.trans (aj.trans cl))),cc⟩
     ·rw[z9.mp hv]
      exact⟨b4,k4,rfl,hB4',true,dq,be,cn,b2⟩
    have ae:Same d0 (upd bc pb (.lst (aa++[V.ref b4]))):=(cr.trans (ah.trans (aj.trans cl))).upd d9;have cf:(upd bc pb (.lst (aa++[V.ref b4]))) pb=some (.lst (aa++[V.ref b4])):=eX;refine⟨aa,h16',by have:=oW.len ao;rw[this,zzk];decide,?_⟩;generalize upd bc pb (.lst (aa++[V.ref b4]))=Hf at bt ae cf⊢;have an:=ai.trans (cx.trans sl);clear hB4' dh cy b2 bz c9 h16' c6 be cn bu cq av ao aq
    (try dsimp only)
    refine gA λu hu=>?_;rw[ap_seq];refine qx λtb ce=>?_;rw[ap_for];walk_at "i";refine⟨⟨_,fj cf⟩,CN.listN (K:=K) (a:=pb) (xs:=aa++[V.ref b4]) (λj σ Hy=>∃(b7 b8:Option V),σ=[some (.ref a),some (.ref rl),some (.ref hd),some (.ref du),v4,some (.ref q4),some (.ref pe),some (.ref pt),some (.ref br),some (.int ((tl.map (·.2)).map GR).sum),some (.int (((tl.map (·.2)).filterMap pC).map λc=>c.2.2).sum),some (.ref pb),b7,b8]/\Same Hf Hy) ⟨_,_,rfl,same_refl _⟩ (λj σ Hy _ ⟨_,_,_,h⟩=>fj (h _ _ cf)) ?_ ?_⟩
    ·rintro j y σ Hy hj ⟨b7,b8,rfl,sy⟩ N hN
     obtain⟨b,k',rfl,hB,eu,fs,c0,ap,al⟩:=bt y (zzp hj);have ek:=al.sl;have ew:=c0.l;subst ce;rw[ap_name];walk_at "n";refine⟨b,q4,k',ds,rfl,hB.same sy,by omega,(s7.trans (ag.trans (ae.trans sy))) _ _ ch,c5,λpg Hz bh _ hg=>?_⟩;refine lX (λσ' H'=>σ'=[some (.ref a),some (.ref rl),some (.ref hd),some (.ref du),v4,some (.ref q4),some (.ref pe),some (.ref pt),some (.ref br),some (.int ((tl.map (·.2)).map GR).sum),some (.int (((tl.map (·.2)).filterMap pC).map λc=>c.2.2).sum),some (.ref pb),some (.ref b),some (.ref pg)]/\Same Hz H') ?_ ?_
     ·rintro σ Hw ⟨rfl,bq⟩
      have ei:=bq _ _ hg;have dw:=(an.trans (ae.trans (sy.trans (bh.trans bq)))) _ _ b6;walk_at "i";refine⟨_,.inl (fj ((s7.trans (ag.trans (ae.trans (sy.trans (bh.trans bq))))) _ _ ch)),by omega,by rw[z0];omega,?_⟩;rw[z0,yyA];refine iK.range (λσ=>∃v,σ=[v,some (.ref pg),some (.ref br)]) (λ_=>false) (λv=>v) ⟨_,rfl⟩ (by rw[zzk];omega) ?_ ?_
      ·rintro i hi σ H5 R1 R2 ⟨_,rfl⟩ sm k1 k2
       have bg:∀f:Int->Int,atI ((ds.map f).map V.int) (i:Int)=some (.int (f ds[i])):=λf=>qO (by rw[zzl,zzl,zzg hi];rfl);have ez:=acP bd ar al c0 (ap.trans hb.symm) ds[i];rw[yy0];walk_at "i";refine⟨_,fj (sm _ _ ei),_,bg _,_,fj (sm _ _ dw),_,bg _,_,rfl,_,rfl,?_⟩;rw[z4 (by omega)];exact k2 rfl _ _ ⟨_,rfl⟩ (same_refl _)
      ·intro D H' _ s' eb
       have d7:H' D=some (.lst []):=by rw[eb,List.filter_eq_nil_iff.mpr (λ_ _ c=>by cases c)];rfl
       refine⟨zzB _,λp hp=>⟨.lst [],.lst [],.lst (fj ((eZ hp) _ _ d7)) .nil,.lst (fj eX) .nil,by decide,by decide,?_⟩⟩;rw[Ez];refine⟨false,rfl,?_⟩;rw[z4 (by decide)];exact hN _ _ ⟨_,_,rfl,sy.trans (bh.trans (bq.trans (s'.trans (eZ hp))))⟩
     ·intro N2 bj
      have dp:=hB.same (sy.trans bh);obtain⟨db,bp⟩:=dp.i;have bv:=ae.trans (sy.trans bh);have dk:=(s6.trans (s7.trans (ag.trans bv))) _ _ ak;walk_at "i";refine⟨_,db,_,bp,_,zze,by rfl,b,k',fs.map Ent.num,W2 x,rfl,dp,al.r,hH.u.2,by rw[z0];omega,λp kv H' s' hp h' cb fa hI=>?_⟩;dsimp only;rw[ap_neM];refine⟨_,_,.inl h',.inl (s' _ _ dk),SQ cb (Wv _ hH.u.1) (λz=>by rw[hI,al.c,qe ap,aej hH hz]),false,rfl,?_⟩;rw[z4 (by decide)];intro pz b5;have ax:=eZ (o:=.dK []) b5;rw[aaU];refine⟨_,.inl ((s'.trans ax) _ _ dk),.inl eX,_,rfl,?_⟩;by_cases c:(Jm (runC (tl.map (·.2))) (W2 x)).length=0
      ·rw[z8 (zzx c)]
       refine⟨_,fj ((s'.trans ax) _ _ hg),_,ba _,_,fj ((an.trans (bv.trans (s'.trans ax))) _ _ b6),_,ba _,rfl,?_⟩;have e1:=dc (PN c hz)
       have e2:Cv (mz+1) (k'.sl.map λt=>t.2.dat)=(((tl.map (·.2)).filterMap pC).map λc=>c.2.2).sum - ((tl.map (·.2)).map GR).sum:=by
        rw[RX (d:=mz+1) al (λz am=>by rw[qe ap];exact PN c hz z am) (abj ap λe he=>?_),Ar ap,Kq ap];obtain⟨r,hr,rfl⟩:=z3.mp he;have:=bx r hr;omega
       rw[z4 (by rw[e1,e2];exact λh=>h rfl)];exact bj _ _ ⟨rfl,s'.trans ax⟩
      ·rw[z4 (by rw[decide_eq_true_eq];exact c)]
       exact bj _ _ ⟨rfl,s'.trans ax⟩
    ·rintro σ Hy ⟨b7,b8,rfl,sy⟩
     subst hu;have cu:=ag.trans (ae.trans sy);have co:=cu _ _ h7;have d5:=hE.same' cu;walk_at "a";refine⟨⟨_,fj co⟩,Nj (f:=λr:Addr×Ent=>V.ref r.1) (λσ=>∃v,σ=[v]) (λ_ r v H'=>acr H' r.2 v) (fj co) ⟨_,rfl⟩ (by omega) ?_ ?_⟩
     ·rintro Da r ab σ H5 R ⟨_,rfl⟩ sm hD hA kk
      obtain⟨dx,nv,hx,hn⟩:=(d5 r ab).same sm;have as:=bs r ab;obtain⟨x,e⟩:=r;have bm:∀t,H5 t=none->R [some (.ref x)] (.ref t) (upd H5 t (.tup (.str e.word::e.args .non))):=λt ht=>kk _ _ _ ⟨_,rfl⟩ (eZ ht) λH' hb=>⟨t,rfl,hb _ _ (λc=>by obtain⟨acc,hA⟩:=hA;rw[c,hA]at ht;cases ht) eX⟩
      cases e with
      |buy d n w p r f=>
       walk_at "i";exact md hx zze (by rfl) ⟨x,.buy d n w p r f,rfl,rfl,⟨dx,nv,hx,hn⟩,as,bm⟩
      |sell d n w p r f o=>
       walk_at "i";exact md hx (zzh _ zze) (by rfl) ⟨x,.sell d n w p r f o,rfl,rfl,⟨dx,nv,hx,hn⟩,as,bm⟩
     intro pw Hv en _ sv hv ea;have cp:=ay.trans (an.trans (ae.trans (sy.trans sv)));refine⟨_,_,.lst (fj hv) (Jl ea),.lst (fj (cp _ _ h8)) (Jl (oW.imp d2 λr v h=>acr.same h cp)),Nat.le_add_left _ _,?_,?_⟩
     ·have:=Vh es
      show mK _+1<=20;omega
     ·rw[Ez]
      exact k _
   ·intro N2 bj
    walk_at "i";intro pz b5;have sz:=eZ (o:=.dK []) b5;rw[aaU];refine⟨_,.inl ((af.trans (ai.trans sz)) _ _ ak),.inl eX,_,rfl,?_⟩;by_cases c:(Jm (runC (tl.map (·.2))) (W2 x)).length=0
    ·rw[z8 (zzx c)]
     refine⟨_,fj ((ai.trans sz) _ _ b6),_,ba _,rfl,?_⟩;rw[z4 (by rw[dc (PN c hz)];exact λh=>h rfl)];exact bj _ _ ⟨rfl,sz⟩
    ·rw[z4 (by rw[decide_eq_true_eq];exact c)]
     exact bj _ _ ⟨rfl,sz⟩
end
end My
namespace My
open PySem L2 PyProof.Rows
open PySem.W (codeIn findCls findIn fnOf hasDictIn isFn keepIn kitOne makesIn mg_none_of mg_of mroIn nsIn plainGet plainOver readsIn specialIn takesIn)
abbrev Dm_(K:Fg_)(c:Addr)(x q:Str)(st:Stmt)(f:Addr)(oc:Value)(od:Option Addr)(kV dc pm:Value)(an:Option Addr)(cd ct:Value)(sl:Array (Option Value)):Prop:=findIn K (.ref c) x=some (some (.ref f))/\K.lookup f=some ⟨oc,od,.func (fnOf x q (jC st) (iW st) (fc st) .none kV dc pm an cd ct),sl⟩/\codeIn K cd q=true/\keepIn K (.ref f)=true
abbrev Df_(K:Fg_)(x:Str)(st:Stmt)(f:Addr)(oc:Value)(od:Option Addr)(kV dc pm:Value)(an:Option Addr)(cd ct:Value)(sl:Array (Option Value)):Prop:=nsIn K mainGlobals x=some (some (.ref f))/\K.lookup f=some ⟨oc,od,.func (fnOf x x (jC st) (iW st) (fc st) .none kV dc pm an cd ct),sl⟩/\codeIn K cd x=true/\keepIn K (.ref f)=true
inductive Ef_(K:Fg_)(x:Str)(st:Stmt)(f:Addr)(fd:FuncData):Prop
  |mk {oc:Value} {od:Option Addr} {kV dc pm:Value} {an:Option Addr} {cd ct:Value} {sl:Array (Option Value)} (e:fd=fnOf x x (jC st) (iW st) (fc st) .none kV dc pm an cd ct) (h:Df_ K x st f oc od kV dc pm an cd ct sl):Ef_ K x st f fd
inductive Em_(K:Fg_)(c:Addr)(x q:Str)(st:Stmt)(f:Addr)(fd:FuncData):Prop
  |mk {oc:Value} {od:Option Addr} {kV dc pm:Value} {an:Option Addr} {cd ct:Value} {sl:Array (Option Value)} (e:fd=fnOf x q (jC st) (iW st) (fc st) .none kV dc pm an cd ct) (h:Dm_ K c x q st f oc od kV dc pm an cd ct sl):Em_ K c x q st f fd
def Ef_.n{K:Fg_}{x:Str}{st:Stmt}{f:Addr}{fd:FuncData}(a:Ef_ K x st f fd):nsIn K mainGlobals x=some (some (.ref f)):=by cases a with|mk e h=>exact h.1
def Ef_.k{K:Fg_}{x:Str}{st:Stmt}{f:Addr}{fd:FuncData}(a:Ef_ K x st f fd):keepIn K (.ref f)=true:=by cases a with|mk e h=>exact h.2.2.2
def Ef_.F{K:Fg_}{x:Str}{st:Stmt}{f:Addr}{fd:FuncData}(a:Ef_ K x st f fd):Fun K x x st f fd:=by cases a with|mk e h=>exact e▸Xc h.2.1 h.2.2.1 h.2.2.2
def Ef_.g{K:Fg_}{x:Str}{st:Stmt}{f:Addr}{fd:FuncData}{h:Heap}{mg:Str->Option Value}(a:Ef_ K x st f fd)(X:K.In h)(G:h.Ns mainGlobals mg):FG K mg x st f fd:=⟨mg_of X G a.n,a.k,a.F⟩
def Em_.n{K:Fg_}{c:Addr}{x q:Str}{st:Stmt}{f:Addr}{fd:FuncData}(a:Em_ K c x q st f fd):findIn K (.ref c) x=some (some (.ref f)):=by cases a with|mk e h=>exact h.1
def Em_.k{K:Fg_}{c:Addr}{x q:Str}{st:Stmt}{f:Addr}{fd:FuncData}(a:Em_ K c x q st f fd):keepIn K (.ref f)=true:=by cases a with|mk e h=>exact h.2.2.2
def Em_.F{K:Fg_}{c:Addr}{x q:Str}{st:Stmt}{f:Addr}{fd:FuncData}(a:Em_ K c x q st f fd):Fun K x q st f fd:=by cases a with|mk e h=>exact e▸Xc h.2.1 h.2.2.1 h.2.2.2
def all_mk{l:PySem.W.OpenLaw}{w:World}{K:Fg_}{h:Heap}{mg:Str->Option Value}{fa:Addr}(X:K.In h)(G:h.Ns mainGlobals mg)(lb:mg "law" =some (.ref fa))
  {f0 f1 f2 f3 f4 f5 f6 f7 f8 gl gr gg gv h8 dv dz ev hx dl fq it hh d3 ez iv b1 dt i2 ib g0 br da ft d2 e0 i1 dp dy ew go g4 hq g8 an hg ch em g7 is as dw dc im cm e8 en d1 ct hr hu cd gp bt io dj ed i8 eb gf du b4 dn dr ij k6:Addr}
  {nK fm:Option Addr}
  {km:Array (Option Value)}
  {oF fk qT jH rg fu:Value}
  {c0 c1 c2 c3 q c5 c6 c7 c8 c9 z hc d0 hp h0 jp:Addr}
  {bE cO bZ b5 b7 cR:Tok}
  (dF:nsIn K mainGlobals "Entry" =some (some (.ref c0)))
  (d6:nsIn K mainGlobals "Buy" =some (some (.ref c1)))
  (dP:nsIn K mainGlobals "Sell" =some (some (.ref c2)))
  (dM:nsIn K mainGlobals "Sale" =some (some (.ref c3)))
  (dO:nsIn K mainGlobals "Book" =some (some (.ref q)))
  (d8:nsIn K mainGlobals "Lot" =some (some (.ref c5)))
  (eI:nsIn K mainGlobals "Way" =some (some (.ref c6)))
  (dQ:nsIn K mainGlobals "Mean" =some (some (.ref c7)))
  (cy:nsIn K mainGlobals "Eldest" =some (some (.ref c8)))
  (cE:nsIn K mainGlobals "Newest" =some (some (.ref c9)))
  (b9:nsIn K mainGlobals "Dearest" =some (some (.ref z)))
  (d5:nsIn K mainGlobals "NoLot" =some (some (.ref hc)))
  (dU:nsIn K mainGlobals "Gift" =some (some (.ref d0)))
  (dS:nsIn K mainGlobals "Give" =some (some (.ref hp)))
  (dA:nsIn K mainGlobals "Split" =some (some (.ref h0)))
  (ci:nsIn K mainGlobals "Parting" =some (some (.ref jp)))
  {j6 kg j0 kv lj j2 kk le j9 kd hd gh i4 ja ho ha ga h5 ii gd gu ik g5 g9 hk fl hl iq gi he hm fx hj h4 h6 fw hb g1 g2 ie hw h7 i5 hn fi fb h3 fe hf i3 hv gy gz hz ix fy ia ic g6 ih i9 hs gc i7 ht ff i0 fg fo il h9 gt fr e9:FuncData}
  (a0:Ef_ K "_law_name" rG f0 j6)
  (a1:Ef_ K "_law_cell" rn f1 kg)
  (a2:Ef_ K "_law_history" mQ f2 j0)
  (a3:Ef_ K "is_whole_number" jL f3 kv)
  (a4:Ef_ K "check_number" mj f4 lj)
  (a5:Ef_ K "is_name" Er f5 j2)
  (a6:Ef_ K "check_name" pQ f6 kk)
  (a7:Em_ K c0 "__init__" "Entry.__init__" jW f7 le)
  (a8:Ef_ K "check_trade" oJ f8 j9)
  {f9:Addr} {kp lh:Option Addr} {lc:Array (Option Value)} {kt j1 k7 ke hy ky:Value}
  (a9:findIn K (.ref c1) "__init__" =some (some (.ref f9)))
  {ip:Addr} {gx:Option Addr} {nq:Value} {i6:Array (Option Value)} {js:Nat} {eG:Tok}
  (l9:K.lookup f9=some ⟨kt,kp,.func (fnOf "__init__" "Buy.__init__" (jC iU) (iW iU) (fc iU) (.ref ip) j1 k7 ke lh hy ky),lc⟩)
  (d9:codeIn K hy "Buy.__init__" =true)
  (k9:keepIn K (.ref f9)=true)
  (kc:K.lookup ip=some ⟨nq,gx,.seq #[.int 0 eG] js,i6⟩)
  (a10:Ef_ K "_law_named" pF gl kd)
  (a11:Ef_ K "check_named" oA gr hd)
  (a12:Ef_ K "named_copy" pR gg gh)
  {ap:Addr} {fS qo:Option Addr} {pN:Array (Option Value)} {jS lx jk ge eJ jO:Value}
  (a13:findIn K (.ref c2) "__init__" =some (some (.ref ap)))
  {eK:Addr} {eM:Option Addr} {eN:Value} {eO:Array (Option Value)} {gk:Nat} {eE:Tok}
  (k3:K.lookup ap=some ⟨jS,fS,.func (fnOf "__init__" "Sell.__init__" (jC iD) (iW iD) (fc iD) (.ref eK) lx jk ge qo eJ jO),pN⟩)
  (j7:codeIn K eJ "Sell.__init__" =true)
  (kw:keepIn K (.ref ap)=true)
  (eF:K.lookup eK=some ⟨eN,eM,.seq #[.int 0 eE,.none] gk,eO⟩)
  (a14:Ef_ K "_law_entries" mH gv i4)
  (k4:Ef_ K "cost_of_parts" lO h8 ja)
  (cb:Em_ K c3 "gain" "Sale.gain" qZ dv ho)
  (ea:Em_ K c3 "counted" "Sale.counted" mF dz ha)
  (g3:Em_ K c3 "__init__" "Sale.__init__" lN ev ga)
  (ki:Ef_ K "copy_of_sale" mU hx h5)
  (er:Em_ K q "sales" "Book.sales" pZ dl ii)
  (ko:Ef_ K "gain_till" qR fq gd)
  (k5:Ef_ K "_law_whole" pY it gu)
  (j5:Ef_ K "_law_gains" pW hh ik)
  (cs:Em_ K c1 "word" "Buy.word" tX d3 g5)
  (ey:Em_ K c1 "told" "Buy.told" tR ez g9)
  (kb:Ef_ K "named_told" pD iv hk)
  (dd:Em_ K c2 "word" "Sell.word" rm b1 fl)
  (bs:Em_ K c2 "told" "Sell.told" qQ dt hl)
  (j3:Ef_ K "refuse_twice" mJ i2 iq)
  (ku:Ef_ K "place_of" Al ib gi)
  (ld:Ef_ K "in_order" Af g0 he)
  (e4:Em_ K q "row_of" "Book.row_of" oM br hm)
  (ej:Em_ K q "keep_row" "Book.keep_row" lA da fx)
  (la:Ef_ K "place_in_row" mD ft hj)
  (fz:Em_ K c5 "__init__" "Lot.__init__" mO d2 h4)
  (ca:Em_ K c5 "with_more" "Lot.with_more" lG e0 h6)
  (lf:Ef_ K "row_with" Ah i1 fw)
  (eq:Em_ K q "put" "Book.put" Aa dp hb)
  (cp:Em_ K q "lay_on" "Book.lay_on" nY dy g1)
  (e3:Em_ K q "do_buy" "Book.do_buy" ou ew g2)
  (k1:Ef_ K "sum_of_weights" jX go ie)
  (k8:Ef_ K "part_of" Ef g4 hw)
  (kq:Ef_ K "dealt" Ow hq h7)
  (li:Ef_ K "sale_of" Fy g8 i5)
  (bk:Em_ K c6 "levelled" "Way.levelled" mG an hn)
  (kl:Ef_ K "cost_in" Fq hg fi)
  (co:Em_ K c7 "levelled" "Mean.levelled" lK ch fb)
  (e1:Em_ K c5 "taken" "Lot.taken" rM em h3)
  (kx:Ef_ K "row_without" oE g7 fe)
  (k2:Ef_ K "picks_in_turn" lD is hf)
  (bl:Em_ K c8 "picks" "Eldest.picks" lZ as i3)
  (db:Em_ K c9 "picks" "Newest.picks" mR dw hv)
  (e5:Em_ K c5 "is_dearer" "Lot.is_dearer" lH dc gy)
  (lk:Ef_ K "dearest_first" kW im gz)
  (ei:Em_ K z "picks" "Dearest.picks" lw cm hz)
  (kf:Ef_ K "gone_from" qP e8 ix)
  (bm:Em_ K q "taken_for" "Book.taken_for" jY en fy)
  (el:Em_ K q "do_sell" "Book.do_sell" mL d1 ia)
  (ec:Em_ K q "do_by_kind" "Book.do_by_kind" jJ ct ic)
  (j8:Ef_ K "held_with" rH hr g6)
  (kr:Ef_ K "held_with_more" jZ hu ih)
  (e2:Em_ K c1 "held_behind" "Buy.held_behind" jM cd i9)
  (ll:Ef_ K "held_with_fewer" jK gp hs)
  (e7:Em_ K c2 "held_behind" "Sell.held_behind" jD bt gc)
  (j4:Ef_ K "pieces_in" qY io i7)
  (cl:Em_ K q "held" "Book.held" rD dj ht)
  (ek:Em_ K q "do" "Book.do" Dp ed ff)
  (kn:Ef_ K "with_all_done" lF i8 i0)
  (fh:Em_ K q "__init__" "Book.__init__" lB eb fg)
  (jv:Ef_ K "book_of" FW gf fo)
  (b3:Em_ K c8 "word" "Eldest.word" oN du il)
  (ep:Em_ K c9 "word" "Newest.word" oR b4 h9)
  (b2:Em_ K z "word" "Dearest.word" mV dn gt)
  (b0:Em_ K c7 "word" "Mean.word" rN dr fr)
  (ka:Ef_ K "way_by" JR ij e9)
  (ab:Df_ K "law" aaA k6 oF nK fk qT jH fm rg fu km)
  (df:nsIn K mainGlobals "range" =some none)
  (eg:nsIn K mainGlobals "len" =some none)
  (dJ:nsIn K mainGlobals "list" =some none)
  (eD:nsIn K mainGlobals "min" =some none)
  (bc:nsIn K mainGlobals "isinstance" =some none)
  (ef:nsIn K mainGlobals "int" =some none)
  (dN:nsIn K mainGlobals "bool" =some none)
  (eu:nsIn K mainGlobals "all" =some none)
  (et:nsIn K mainGlobals "str" =some none)
  (eC:nsIn K mainGlobals "sum" =some none)
  (cW:nsIn K mainGlobals "tuple" =some none)
  (cF:nsIn K mainGlobals "sorted" =some none)
  (eo:nsIn K mainGlobals "zip" =some none)
  (eh:nsIn K mainGlobals "any" =some none)
  (d4:nsIn K mainGlobals "dict" =some none)
  (bG:nsIn K mainGlobals "reversed" =some none)
  (bv:nsIn K mainGlobals "enumerate" =some none)
  (eB:nsIn K mainGlobals "set" =some none)
  (d7:nsIn K mainGlobals "max" =some none)
  (aN:nsIn K mainGlobals "MOST_LETTERS" =some (some (.int 8 bE)))
  (bH:nsIn K mainGlobals "MOST_DAY" =some (some (.int 1000000 cO)))
  (aU:nsIn K mainGlobals "MOST_NUMBER" =some (some (.int 1000000 bZ)))
  (aQ:nsIn K mainGlobals "MOST_PIECES" =some (some (.int 1000000000 b5)))
  (bn:nsIn K mainGlobals "MOST_PRICE" =some (some (.int 1000000000 b7)))
  (bX:nsIn K mainGlobals "MOST_FEE" =some (some (.int 1000000000 cR)))
  (ee:specialIn K (.builtin "object.__class__") "__get__" =some (some (.builtin "getset_descriptor.__get__")))
  (eA:takesIn K (.builtin "object.__class__")=some true)
  (cS:plainGet K c1 Str.empty=true)
  (cP:hasDictIn K c1=true)
  (cN:plainOver K c1=true)
  (cQ:findIn K (.ref c1) "__setattr__" =some (some (.builtin "object.__setattr__")))
  (dZ:findIn K (.ref c1) "__class__" =some (some (.builtin "object.__class__")))
  (dX:mroIn K c1 (.type "object")=some true)
  (cg:findIn K (.ref c1) "day" =some none)
  (be:findIn K (.ref c1) "number" =some none)
  (bO:findIn K (.ref c1) "ware" =some none)
  (bj:findIn K (.ref c1) "pieces" =some none)
  (bw:findIn K (.ref c1) "price" =some none)
  (ce:findIn K (.ref c1) "fee" =some none)
  (bY:findIn K (.ref c1) "cost" =some none)
  (cv:plainGet K c2 Str.empty=true)
  (cu:hasDictIn K c2=true)
  (cw:plainOver K c2=true)
  (cx:findIn K (.ref c2) "__setattr__" =some (some (.builtin "object.__setattr__")))
  (de:findIn K (.ref c2) "__class__" =some (some (.builtin "object.__class__")))
  (dD:mroIn K c2 (.type "object")=some true)
  (bW:findIn K (.ref c2) "day" =some none)
  (aW:findIn K (.ref c2) "number" =some none)
  (bB:findIn K (.ref c2) "ware" =some none)
  (aY:findIn K (.ref c2) "pieces" =some none)
  (bb:findIn K (.ref c2) "price" =some none)
  (bT:findIn K (.ref c2) "fee" =some none)
  (bf:findIn K (.ref c2) "named" =some none)
  (aE:findIn K (.ref c2) "proceeds" =some none)
  (dE:plainGet K c3 Str.empty=true)
  (dq:hasDictIn K c3=true)
  (cU:plainOver K c3=true)
  (cX:findIn K (.ref c3) "__setattr__" =some (some (.builtin "object.__setattr__")))
  (aT:findIn K (.ref c3) "number" =some none)
  (bS:findIn K (.ref c3) "day" =some none)
  (bp:findIn K (.ref c3) "ware" =some none)
  (aI:findIn K (.ref c3) "proceeds" =some none)
  (bi:findIn K (.ref c3) "parts" =some none)
  (aM:findIn K (.ref c3) "laid_on" =some none)
  (di:plainGet K q Str.empty=true)
  (cT:hasDictIn K q=true)
  (cV:plainOver K q=true)
  (cY:findIn K (.ref q) "__setattr__" =some (some (.builtin "object.__setattr__")))
  (bP:findIn K (.ref q) "way" =some none)
  (bA:findIn K (.ref q) "rows" =some none)
  (av:findIn K (.ref q) "last_place" =some none)
  (bq:findIn K (.ref q) "paid" =some none)
  (aK:findIn K (.ref q) "brought" =some none)
  (aw:findIn K (.ref q) "sales_done" =some none)
  (aj:findIn K (.ref q) "givings_done" =some none)
  (dW:plainGet K c5 Str.empty=true)
  (dY:hasDictIn K c5=true)
  (dR:plainOver K c5=true)
  (dL:findIn K (.ref c5) "__setattr__" =some (some (.builtin "object.__setattr__")))
  (bh:findIn K (.ref c5) "number" =some none)
  (bz:findIn K (.ref c5) "since" =some none)
  (ba:findIn K (.ref c5) "pieces" =some none)
  (bM:findIn K (.ref c5) "cost" =some none)
  (dB:plainGet K c7 Str.empty=true)
  (dg:hasDictIn K c7=true)
  (dm:plainOver K c7=true)
  (dh:findIn K (.ref c7) "__setattr__" =some (some (.builtin "object.__setattr__")))
  (b8:plainGet K c8 Str.empty=true)
  (cr:hasDictIn K c8=true)
  (cj:plainOver K c8=true)
  (cf:findIn K (.ref c8) "__setattr__" =some (some (.builtin "object.__setattr__")))
  (ck:plainGet K c9 Str.empty=true)
  (b6:hasDictIn K c9=true)
  (cq:plainOver K c9=true)
  (cn:findIn K (.ref c9) "__setattr__" =some (some (.builtin "object.__setattr__")))
  (bU:plainGet K z Str.empty=true)
  (bI:hasDictIn K z=true)
  (bQ:plainOver K z=true)
  (bR:findIn K (.ref z) "__setattr__" =some (some (.builtin "object.__setattr__")))
  (dI:makesIn K c1=true)
  (dk:isFn K (.ref f9)=true)
  (dG:keepIn K (.ref c1)=true)
  (cG:makesIn K c2=true)
  (cJ:isFn K (.ref ap)=true)
  (cL:keepIn K (.ref c2)=true)
  (cI:makesIn K c3=true)
  (cK:isFn K (.ref ev)=true)
  (cB:keepIn K (.ref c3)=true)
  (dH:makesIn K c5=true)
  (dC:isFn K (.ref d2)=true)
  (cZ:keepIn K (.ref c5)=true)
  (cz:makesIn K q=true)
  (cM:isFn K (.ref eb)=true)
  (cA:keepIn K (.ref q)=true)
  (bV:makesIn K c8=true)
  (bK:findIn K (.ref c8) "__init__" =some (some (.builtin "object.__init__")))
  (bL:keepIn K (.ref c8)=true)
  (bJ:makesIn K c9=true)
  (bN:findIn K (.ref c9) "__init__" =some (some (.builtin "object.__init__")))
  (bF:keepIn K (.ref c9)=true)
  (bx:makesIn K z=true)
  (bD:findIn K (.ref z) "__init__" =some (some (.builtin "object.__init__")))
  (bC:keepIn K (.ref z)=true)
  (cH:makesIn K c7=true)
  (cC:findIn K (.ref c7) "__init__" =some (some (.builtin "object.__init__")))
  (cD:keepIn K (.ref c7)=true)
  (aV:isFn K (.ref dv)=true)
  (aC:isFn K (.ref dz)=true)
  (aL:isFn K (.ref dl)=true)
  (bo:isFn K (.ref d3)=true)
  (aS:isFn K (.ref b1)=true)
  (ay:isFn K (.ref e0)=true)
  (aG:isFn K (.ref br)=true)
  (ar:isFn K (.ref da)=true)
  (bg:isFn K (.ref dp)=true)
  (aJ:isFn K (.ref dy)=true)
  (aZ:isFn K (.ref em)=true)
  (au:isFn K (.ref dc)=true)
  (ag:findIn K (.ref c8) "levelled" =some (some (.ref an)))
  (aa:isFn K (.ref an)=true)
  (ai:findIn K (.ref c9) "levelled" =some (some (.ref an)))
  (ac:findIn K (.ref z) "levelled" =some (some (.ref an)))
  (aq:isFn K (.ref ch)=true)
  (ae:isFn K (.ref as)=true)
  (az:isFn K (.ref dw)=true)
  (ax:isFn K (.ref cm)=true)
  (aO:findIn K (.ref c7) "picks" =some (some (.ref as)))
  (am:isFn K (.ref en)=true)
  (aD:isFn K (.ref ew)=true)
  (aB:isFn K (.ref d1)=true)
  (ah:isFn K (.ref ct)=true)
  (af:isFn K (.ref cd)=true)
  (ad:isFn K (.ref bt)=true)
  (aX:isFn K (.ref dj)=true)
  (bu:isFn K (.ref ed)=true)
  (aH:isFn K (.ref du)=true)
  (aF:isFn K (.ref b4)=true)
  (aA:isFn K (.ref dn)=true)
  (aP:isFn K (.ref dr)=true)
  (bd:isFn K (.ref ez)=true)
  (aR:isFn K (.ref dt)=true)
  (ak:specialIn K (.ref c0) "__getattribute__" =some (some (.builtin "type.__getattribute__")))
  (ao:readsIn K c0 (.type "type")=true)
  (al:findCls K (.ref c0) (.type "type") "__init__" =some (.val (.ref f7)))
  (cc:kitOne K (.ref c2) (.ref c1)=some false/\kitOne K (.ref c2) (.ref d0)=some false)
  :∃fd:FuncData,(∀(s:Shared)(v:Value),BindsTo s fd ⟨[v],[]⟩ [("_law_script",v)])/\∀base:Heap,K.In base->base.Ns mainGlobals mg->gJ l.prog w K mg base CX0 12 fa fd ["_law_script"] (Rh K):=by
 have e:=lb.symm.trans (mg_of X G ab.1);cases e;have T:Txt K mg ⟨f0,f1,f2,f3,f4,f5,f6,f7,f8,f9,gl,gr,gg,ap,gv,h8,dv,dz,ev,hx,dl,fq,it,hh,d3,ez,iv,b1,dt,i2,ib,g0,br,da,ft,d2,e0,i1,dp,dy,ew,go,g4,hq,g8,an,hg,ch,em,g7,is,as,dw,dc,im,cm,e8,en,d1,ct,hr,hu,cd,gp,bt,io,dj,ed,i8,eb,gf,du,b4,dn,dr,ij,fa,c0,c1,c2,c3,q,c5,c6,c7,c8,c9,z,hc,d0,hp,h0,jp,bE,cO,bZ,b5,b7,cR⟩ ⟨_,_,_,_,_,_,_,_,_,_,_,_,_,_,_,_,_,_,_,_,_,_,_,_,_,_,_,_,_,_,_,_,_,_,_,_,_,_,_,_,_,_,_,_,_,_,_,_,_,_,_,_,_,_,_,_,_,_,_,_,_,_,_,_,_,_,_,_,_,_,_,_,_,_,_,_,_⟩:=⟨a0.g X G,a1.g X G,a2.g X G,a3.g X G,a4.g X G,a5.g X G,a6.g X G,a7.F,a8.g X G,Xr (st:=iU) (its:=[.int 0 eG]) l9 d9 k9 kc rfl (.cons ⟨_,rfl⟩ .nil),a10.g X G,a11.g X G,a12.g X G,Xr (st:=iD) (its:=[.int 0 eE,.none]) k3 j7 kw eF rfl (.cons ⟨_,rfl⟩ (.cons rfl .nil)),a14.g X G,k4.g X G,cb.F,ea.F,g3.F,ki.g X G,er.F,ko.g X G,k5.g X G,j5.g X G,cs.F,ey.F,kb.g X G,dd.F,bs.F,j3.g X G,ku.g X G,ld.g X G,e4.F,ej.F,la.g X G,fz.F,ca.F,lf.g X G,eq.F,cp.F,e3.F,k1.g X G,k8.g X G,kq.g X G,li.g X G,bk.F,kl.g X G,co.F,e1.F,kx.g X G,k2.g X G,bl.F,db.F,e5.F,lk.g X G,ei.F,kf.g X G,bm.F,el.F,ec.F,j8.g X G,kr.g X G,e2.F,ll.g X G,e7.F,j4.g X G,cl.F,ek.F,kn.g X G,fh.F,jv.g X G,b3.F,ep.F,b2.F,b0.F,ka.g X G,⟨mg_of X G ab.1,ab.2.2.2,Xc (st:=aaA) ab.2.1 ab.2.2.1 ab.2.2.2⟩,mg_none_of X G df,mg_none_of X G eg,mg_none_of X G dJ,mg_none_of X G eD,mg_none_of X G bc,mg_none_of X G ef,mg_none_of X G dN,mg_none_of X G eu,mg_none_of X G et,mg_none_of X G eC,mg_none_of X G cW,mg_none_of X G cF,mg_none_of X G eo,mg_none_of X G eh,mg_none_of X G d4,mg_none_of X G bG,mg_none_of X G bv,mg_none_of X G eB,mg_none_of X G d7,mg_of X G dF,mg_of X G d6,mg_of X G dP,mg_of X G dM,mg_of X G dO,mg_of X G d8,mg_of X G dQ,mg_of X G cy,mg_of X G cE,mg_of X G b9,mg_of X G dU,mg_of X G dS,mg_of X G dA,mg_of X G ci,mg_of X G aN,mg_of X G bH,mg_of X G aU,mg_of X G aQ,mg_of X G bn,mg_of X G bX,⟨cS,cP,cN,cQ⟩,⟨⟨cS,cP,cN,cQ⟩,dZ,ee,eA,dX⟩,cg,be,bO,bj,bw,ce,bY,⟨cv,cu,cw,cx⟩,⟨⟨cv,cu,cw,cx⟩,de,ee,eA,dD⟩,bW,aW,bB,aY,bb,bT,bf,aE,⟨dE,dq,cU,cX⟩,aT,bS,bp,aI,bi,aM,⟨di,cT,cV,cY⟩,bP,bA,av,bq,aK,aw,aj,⟨dW,dY,dR,dL⟩,bh,bz,ba,bM,⟨dB,dg,dm,dh⟩,⟨b8,cr,cj,cf⟩,⟨ck,b6,cq,cn⟩,⟨bU,bI,bQ,bR⟩,⟨dI,a9,dk,dG⟩,⟨cG,a13,cJ,cL⟩,⟨cI,g3.n,cK,cB⟩,⟨dH,fz.n,dC,cZ⟩,⟨cz,fh.n,cM,cA⟩,⟨bV,bK,bL⟩,⟨bJ,bN,bF⟩,⟨bx,bD,bC⟩,⟨cH,cC,cD⟩,⟨cb.n,aV,cb.k⟩,⟨ea.n,aC,ea.k⟩,⟨er.n,aL,er.k⟩,⟨cs.n,bo,cs.k⟩,⟨dd.n,aS,dd.k⟩,⟨ca.n,ay,ca.k⟩,⟨e4.n,aG,e4.k⟩,⟨ej.n,ar,ej.k⟩,⟨eq.n,bg,eq.k⟩,⟨cp.n,aJ,cp.k⟩,⟨e1.n,aZ,e1.k⟩,⟨e5.n,au,e5.k⟩,⟨ag,aa,bk.k⟩,⟨ai,aa,bk.k⟩,⟨ac,aa,bk.k⟩,⟨co.n,aq,co.k⟩,⟨bl.n,ae,bl.k⟩,⟨db.n,az,db.k⟩,⟨ei.n,ax,ei.k⟩,⟨aO,ae,bl.k⟩,⟨bm.n,am,bm.k⟩,⟨e3.n,aD,e3.k⟩,⟨el.n,aB,el.k⟩,⟨ec.n,ah,ec.k⟩,⟨e2.n,af,e2.k⟩,⟨e7.n,ad,e7.k⟩,⟨cl.n,aX,cl.k⟩,⟨ek.n,bu,ek.k⟩,⟨b3.n,aH,b3.k⟩,⟨ep.n,aF,ep.k⟩,⟨b2.n,aA,b2.k⟩,⟨b0.n,aP,b0.k⟩,⟨ey.n,bd,ey.k⟩,⟨bs.n,aR,bs.k⟩,⟨ak,ao,al⟩,cc⟩
 exact⟨_,λs v=> .of_eq rfl,λbase _ _=>afc T⟩
def walk{l:PySem.W.OpenLaw}{q:Program}{aa:List Str}{XP:(Str->Option Value)->Heap->Prop}{YP:World->Heap->Prop}{d:DefRec}{K:Params->Fg_}(hn:l.most=some 63)(ab:d.params.defaults=[])
  (hY:∀(w:World)(h:Heap),YP w h->(K w.params).In h)
  (F:∀(w:World)(mg:Str->Option Value)(fa:Addr)(h:Heap),(K w.params).In h->h.Ns mainGlobals mg->mg d.name=some (.ref fa)->
   ∃fd:FuncData,(∀(s:Shared)(u:Value),BindsTo s fd ⟨[u],[]⟩ [("_law_script",u)])/\∀base:Heap,(K w.params).In base->base.Ns mainGlobals mg->gJ l.prog w (K w.params) mg base CX0 12 fa fd ["_law_script"] (Rh (K w.params))):
  PySem.W.WalkO q aa XP YP l.row.toRowW d [] (λf vs=>PySem.call f vs):=
 L2.walk_of (n:=63) (k:=12) (x:= "_law_script") (CX:=λ_=>CX0) (sp:=λw=>Rh (K w.params)) hn (by decide) ab ⟨rfl,by decide,by decide⟩ hY F (λ_ _ a ns hl _ hS=>⟨a,ns,rfl,hS,hl,λ_=>rfl⟩) λ_ _ _ _ _ z=>z
end My
structure PySem.W.Fast:Prop where(tw3799578800367273453 tw17439972493918342092 tw1061724266181217728 tw12415371055229679583 tw14337206531745726196 tw15486040043461774136 tw6844703312783072877 tw12886902221424297290 tw3847164921565333897 tw17310867699577846750 tw1676839808351806154 tw7817189294371584412 tw16482802492235700883 tw8535397010908007245 tw13331789920892216810 tw17879353277157585379 tw16105225624902255680 tw1982947844506393641 tw8901235850106453048 tw15162104044775623370 tw6561437485793113671 tw3998641690695598836 tw2233022929966676132 tw6269617276476913214 tw1771107073043226414 tw2138578859215812474 tw2491678241265432465 tw12241055229427716436 tw12348045926056704189 tw2612221378957196862 tw8151912092795021885 tw4515717730694304598 tw7529201298902957445 tw15426169297129164789 tw1673466714548634908 tw4846314689887284207 tw7143507953591819974 tw12851339643305447915 tw14208677439086045266 tw14635236414952658881 tw15723559917292829140 tw276534952807337577 tw783798322743239103 tw6178355506834533664 tw14310905897885211260 tw7710811327717400822 tw6751935483942391615 tw7185041888331683395 tw13051769502304791842 tw6409246090970630123 tw12465899314672580859 tw11529040387525679156 tw18194665682914541069 tw13146656206814856887 tw11731253992253935611 tw8363151222959202223 tw16779930276945999576 tw17347975824275424941 tw9258668219886560880 tw1961391342515803697 tw520782079415188675 tw8505635207281292440 tw5882560542283846590 tw11848561057097842666 tw8767723555831418403 tw86635640176483752 tw2199155799071811874 tw2284013414962018063 tw14678839313189040961 tw14571475861533528518 tw305971395174747776 tw16297522080324008193 tw13733126894022521740 tw2668505635189502400 tw2521429041008031173 tw16509563728133908464 tw16317566505579504099 tw14732862736753404881 tw14955126696833804042 tw5683040630951987078 tw14943372799302327305 tw7425461533618618306 tw1424608238128474853 tw10842781968878379335 tw10629215257686677025 tw5481443575545498993 tw17632175514653455531 tw12803024835313252125 tw612689551666666006 tw1595717340872007022 tw7179938875871160463 tw7686793149983018054 tw3306426981459422103 tw29698125810551826 tw8222571782157363842 tw16753692583358445974 tw13847376202966393769 tw11608486027691314194 tw6921335659458373327 tw5475567325721720229 tw6205155515880565634 tw4901407122993609538 tw2914711280839610874 tw16049559137938077364 tw14969035598611523121 tw6242435053928938485 tw1036337879984361651 tw11049822811737626898 tw609774572914446229 tw13402013801978025058 tw15380193102143369225 tw1300219491590248899 tw1141099469953190540 tw3094214552675719825 tw2526462267413266543 tw8196677747537826705 tw8727867989666021954 tw3242093776527100365 tw11344042684071167842 tw1831207819601838519 tw14070750120647634292 tw10189563714073576870 tw1957990176432122756 tw2724885669271769742 tw10395408189771568778 tw12214612961118241143 tw12400838368098284681 tw3317480150319421168 tw4350874696378539011 tw16416539449196881696 tw16495864310616360490 tw8561709337936858276 tw18261724070400196260 tw9512881290060113385 tw7245879174151420129 tw13409858474193242854 tw5040347686073850753 tw9224346530553191923 tw2804777508474724096 tw9627487418795184607 tw14140957892721534321 tw15778706023115942840 tw7473133373872279762 tw18169805477656722591 tw10454898900331169021 tw1641907476605816600 tw5639081716096604334 tw1808057845312851923 tw17446514108600748880 tw9466112721239762363 tw5820508953288266509 tw2618499904772560255 tw2244291631233231137 tw8329931490400918695 tw13499329571094916486 tw13292945069728726139 tw9315380595960907734 tw14046688300501221997 tw124376462081374456 tw1203239820209418315 tw17849613282071356396 tw7885988180107777026 tw5676923396565435624 tw15740972790964674967 tw2035303462448839259 tw14788064605360564370 tw18269085701619182150 tw7689373499188708324 tw4902033164582884396 tw1307665537378180110 tw11719540494866479197 tw3835554629343514423 tw16472891748788555901 tw1213205885448708116 tw14680949961622584161 tw11282436563616000747 tw5168549565661770002 tw756224310859406931 tw12287972033843579865 tw11325789644965499298 tw7596630686349003130 tw7850103551688592388 tw1716666541744150567 tw8869442711973322455 tw15902104570820356609 tw16497647415064073977 tw12879704730325530940 tw6161083316548278483 tw9159157877866816818 tw6549378140562470525 tw13724326133800723902 tw8960479166194530654 tw12735623141660309532 tw6037332529324152890 tw18042266432855503650 tw10402609648194628117 tw11108145120423613264 tw8025346149962271666 tw10467301765193351409 tw7209718682273376460 tw11111854667768166222 tw15372789658152813116 tw3976725292357594426 tw2767253505346604206 tw7623706520537054698 tw14802686783663573973 tw4957747469359105882 tw14875223227378107991 tw9037787416287362006 tw15964350645961149012 tw14756713403532448747 tw2712966894524651135 tw16694361109916802500 tw4430485804615111446 tw8945843447954745251 tw6907684699338749759 tw9261415575441434062 tw2044826202907148704 tw74936088583611139 tw4065981282017935483 tw6737137233493584256 tw15330599722713405429 tw3829837165660684869 tw16679522157737047223 tw17595847690661950842 tw1941227193167682624 tw2239723363171841235 tw16295453091509950689 tw6314102075710942988 tw1886147151562769795 tw1663894268834135280 tw9061788876964227983 tw6367715692146523857 tw6714547214085783252 tw10650194002614426153 tw14831568063611379707 tw5657852226571835453 tw17365487669188116930 tw8821524124640002343 tw4223637341459908851 tw700174672863220052 tw1014838381280326634 tw14633029923107014747 tw843466417270156116 tw5234707114384856711 tw2930774792182166991 tw10130121529151713464 tw3353967117937722859 tw4494677665858409281 tw9938239933832265773 tw13447362627924988497 tw16274962867546761111 tw9307341475086634076 tw5682338988505590117 tw9827185464882104042 tw2559765167858056591 tw15925909910710813478 tw799510469425248493 tw4651961173696599030 tw3455170795378022321 tw3564108913165311842 tw4071859985604476736 tw2574525483960313272 tw15944143568057856459 tw13422623744851470781 tw10746669700228642794 tw271801727659513278 tw7137048915278378749 tw8464459520248246493 tw14746637887353184238 tw14103586442666289460 tw684080572791998949 tw7382712408007438885 tw18197842904927164689 tw142122400402022281 tw17998827865236831817 tw8071825967547828773 tw15088460943592441605 tw14322933013489715127 tw10281372045258550618 tw4911261273494908606 tw14271369352249627005 tw15190035104548538039 tw8345341147865318881 tw8648308556030983586 tw13430535043321387098 tw5282329969520118444 tw11269870805022902855 tw7061921244276248383 tw11874814655756309274 tw7871892031822896544 tw4288129590158978452 tw6455895294123917520 tw16602990148365652887 tw17460115035110320102 tw17733690807206029469 tw12825134365341813330 tw14650500651856665484 tw18211354105445489486 tw1057463594336819743 tw7347192324556999116 tw2199146382615691395 tw1184585843427187472 tw1133236439720756561 tw3209030004680510403 tw17529694056778174004 tw14933244788919991297 tw13482463856289020807 tw3168749844197788764 tw468760686760136847 tw8573017986082189792 tw14958612821619456109 tw7204136783104333568 tw6871720470209707373 tw13653784520403835357 tw2200040220045965626 tw16682041132728507314 tw10026951043670292023 tw16671264865483536539 tw16022136618596843644 tw15303411436748459596 tw62604561812854443 tw1235274357042286960 tw16760140637010351100 tw11969794918397596386 tw4736875040183672886 tw10551262182546618988 tw17708233762288182684 tw15333335666139149354 tw16615421381754253820 tw15163700521706671279 tw12073096049913212822 tw15062574271573273927 tw6126284382468599737 tw7348925112916050763 tw705423715799743859 tw3901615708405262829 tw15925501886076625758 tw8084854561070046761 tw17246219168772344404 tw6261768121248138610 tw18128076346372955052 tw12284302557771839009 tw9271882365177016386 tw8495216712070351073 tw13483054557667977019 tw1082589318965382801 tw14342563890719624863 tw13146525001473134787 tw14843787880560470744 tw16102114668980297387 tw16109491035243125368 tw18052841828847200911 tw17250360064546553112 tw1086526299218817936 tw12533282845723772673 tw4893372468618456869 tw5674643581395993456 tw18020040570697388721 tw16449429025144263656 tw1232688221506958776 tw18346097498099155919 tw4187719809108063314 tw13257592572561601242 tw3099030908468532144 tw15931748695344606150 tw15496350343909245662 tw12286866051111248318 tw8991161145890820389 tw10314775409988365516 tw4998513388810066824 tw7368316512599110500 tw7774909563210586585 tw14842910802460871748 tw6448507061299773582 tw14232036287753988536 tw12076232065595442884 tw9662449065185022178 tw6650502787139682983 tw3227149372917002024 tw7610879101356984486 tw6427405432257640211 tw10002977732619783054 tw4676700859528892166 tw3612375275846461590 tw6869118540874634247 tw2522247617940520451 tw11079246023427437368 tw11263976668588132476 tw202709137495512616 tw8074457374774442881 tw9320640209990136215 tw9152794226572826238 tw14626180666714081292 tw11739805940662125840 tw14840059427029297570 tw18356644758120604178 tw15572932738206777663 tw15332759403107840418 tw1310245308543684797 tw9740145574422252067 tw16974559770996638601 tw3842565432977647753 tw352333771640564633 tw12666982103189577464 tw13375324445073652859 tw2279580453111467467 tw15695329658291467546 tw7146404712443625130 tw14751187969271859000 tw13450211496813963770 tw13288663640387451594 tw8591301602451667522 tw9116641015537604372 tw7062789444520456726 tw3998313660024134497 tw13662863273593243635 tw11744649512495839961 tw10446602116085289878 tw3359017137362222607 tw7876060259184651924 tw15481578133333977886 tw9505339030059556484 tw1782223716837150585 tw8517222157295188947 tw536588313886113724 tw18355519636942481443 tw4200302419655673305 tw13150738917800525568 tw4364798763958326532 tw263193312970476621 tw8806134943562458001 tw8196417150524998696 tw6331008152311734237 tw17034304209383550154 tw18299327697307523530 tw7436283313715677396 tw10784492220450018473 tw7407405824409242043 tw14136934967665783868 tw7259114419442225 tw14408491388192994532 tw5063544831583346235 tw9642412155065290657 tw14310218710208161781 tw16400063343569689691 tw9286577461092928067 tw2276507895004456294 tw17452147831094792474 tw8703055900419719116 tw14841273019559662227 tw11852848239658839030 tw5842224000236167527 tw18099148648740458514 tw6308376936258454079 tw13315534123065960139 tw8307067406686325183 tw656537016090233567 tw7123866283121712410 tw11330859133479334121 tw11259186131742173401 tw15903186364400722532 tw7703575849179593378 tw3301803886832211569 tw2018097852687064614 tw8475092184802909004 tw15420489159215970082 tw10679396416214400397 tw11586500789171736396 tw1113766120926282404 tw7755073636102287710 tw10238563694000065353 tw10209668139446011573 tw16012605725090772971 tw2048443549430154378 tw16644054175573661077 tw11881204589529929946 tw17660544971953373459 tw15628773135738973429 tw4962541184584259834 tw6299357574529606498 tw1225223600291082685 tw3115521272650847197 tw1542494096333069147 tw11428715014401657626 tw10508416019239282078 tw10606679676967585872 tw17438294617544645043 tw12672815216100310813 tw15431777729120830002 tw5264666847847132343 tw13891748209910557029 tw17963472226935832731 tw7331652472431212671 tw14038927237349300291 tw8808785213047633926 tw8491580659878205010 tw16857809017123161139 tw434734216730874230 tw16245015248597579995 tw8618083380047658700 tw2341510810091356083 tw11268152954582414911 tw349139659759115067 tw7378088985771748892 tw13694713815761737991 tw7005273378307415697 tw12045452416179752780 tw8758864586872198063 tw1354607723188975642 tw8370926064278172789 tw12845242404079341110 tw2420679531089523969 tw10897688260711214897 tw6096361476666346494 tw15710591149829954808 tw17289804729140327864 tw10755782555053117796 tw11456071808747701141 tw14010072190465663421 tw8641432872809929629 tw10256645353383450738 tw11955480676690746806 tw12890239680072096229 tw14356708911358112359 tw19108972285438744 tw6551600844919149307 tw18134267836676059616 tw4210750185117779251 tw7987524396019829049 tw11380711013499086849 tw1487767746261923844 tw2289720627848518116 tw15645339800830020758 tw16910193229607348330 tw17180980026605501472 tw18152957115763780917 tw4566303055949856820 tw15024112122526918622 tw8643445407923784957 tw2105787132658672814 tw4171440991171157697 tw5961016927298168152 tw7135097107686126967 tw764201351718831599 tw17772237001013274398 tw17420581676239272454 tw15101489797434345787 tw7018987003756689710 tw9123783229047979517 tw10863860240980294988 tw14074542896488765591 tw17217960630888392340 tw14637582387812489757 tw831271682383743801 tw12444391620054039238 tw15315063507503585843 tw4203653797989452054 tw7362588044438929418 tw16097197154879924453 tw15336722351904494291 tw3151512891905390626 tw12269186481843604845 tw13350847090917558050 tw10504317142629523406 tw7571029111604766071 tw5526900037335349261 tw15157007535045055110 tw13689773743335247891 tw9979318086607173369 tw13661721529128807346 tw13714639752071526817 tw6450764967111422859 tw271369371593453996 tw14987742056871730455 tw14937154887175659490 tw12082084816208057588 tw16664071983181787325 tw14333870574429661604 tw6123226856058625228 tw10169200631436993019 tw6139030920036213951 tw2941057337882998930 tw10010954822583539679 tw4652422124305809603 tw17907757215312883503 tw16627519713217213835 tw15786757677547436876 tw8266038553075388685 tw18425732802960559704 tw3625160264838231341 tw4282258852868377087 tw11527545853701786116 tw4160596321640347397 tw6222555192412351734 tw6420900840114707400 tw10194191830799259012 tw682177889159758764 tw12076722512437242200 tw4727989773910767707 tw5250478328166635909 tw11990337163177139022 tw15207758594195963113 tw3833059448879223008 tw8075532584274768056 tw9047942348090940458 tw4045761213679565969 tw3648923531576770516 tw15566102943826340370 tw5427467267933926880 tw15840341284103165249 tw9492637740542619569 tw13696830688758677727 tw2573428968048539204 tw4954417504385871629 tw18037179740040679233 tw5567681162624397776 tw15884019422881302855 tw3406851019885035207 tw5948292767160090485 tw16953562820966524268 tw12875080600790308644 tw15540969054379018875 tw17458506325382602023 tw8393965486046686035 tw11943551520217399601 tw16080294580188649277 tw551535365629299245 tw8341376445929768691 tw7456932124358593464 tw13983499447055025966 tw12488388833076013948 tw8455678112432200774 tw15637190946647927837:True)
open PySem PySem.W PyProof.Rows
set_option maxRecDepth 100000 in
set_option maxHeartbeats 0 in
theorem PySem.Challenge.cw_lotledger_k91_whole_dearest_beside_other_holds : PySem.Challenge.rw_lotledger_k91_whole_dearest_beside_other.Holds := by
 w_on;o_law;k_head;(case hw=>w_witness2)
 k_fill
 refine My.walk (l:=PySem.Challenge.rw_lotledger_k91_whole_dearest_beside_other) rfl rfl (λw h Y=>PySem.W.kIn_of Y) ?F
 case F=>
  intro w mg fa h KX G hmg;refine' My.all_mk KX G hmg ?dF ?d6 ?dP ?dM ?dO ?d8 ?eI ?dQ ?cy ?cE ?b9 ?d5 ?dU ?dS ?dA ?ci ?a0 ?a1 ?a2 ?a3 ?a4 ?a5 ?a6 ?a7 ?a8 ?a9 ?l9 ?d9 ?k9 ?lt9 ?a10 ?a11 ?a12 ?a13 ?l13 ?d13 ?k13 ?eF ?a14 ?a15 ?a16 ?a17 ?a18 ?a19 ?a20 ?a21 ?a22 ?a23 ?a24 ?a25 ?a26 ?a27 ?a28 ?a29 ?a30 ?a31 ?a32 ?a33 ?a34 ?a35 ?a36 ?a37 ?a38 ?a39 ?a40 ?a41 ?a42 ?a43 ?a44 ?a45 ?a46 ?a47 ?a48 ?a49 ?a50 ?a51 ?a52 ?a53 ?a54 ?a55 ?a56 ?a57 ?a58 ?a59 ?a60 ?a61 ?a62 ?a63 ?a64 ?a65 ?a66 ?a67 ?a68 ?a69 ?a70 ?a71 ?a72 ?a73 ?a74 ?a75 ?a76 ?df ?eg ?dJ ?eD ?bc ?ef ?dN ?eu ?et ?eC ?cW ?cF ?eo ?eh ?d4 ?bG ?bv ?eB ?d7 ?aN ?bH ?aU ?aQ ?bn ?bX ?ee ?eA ?cS ?cP ?cN ?cQ ?dZ ?dX ?cg ?be ?bO ?bj ?bw ?ce ?bY ?cv ?cu ?cw ?cx ?de ?dD ?bW ?aW ?bB ?aY ?bb ?bT ?bf ?aE ?dE ?dq ?cU ?cX ?aT ?bS ?bp ?aI ?bi ?aM ?di ?cT ?cV ?cY ?bP ?bA ?av ?bq ?aK ?aw ?aj ?dW ?dY ?dR ?dL ?bh ?bz ?ba ?bM ?dB ?dg ?dm ?dh ?b8 ?cr ?cj ?cf ?ck ?b6 ?cq ?cn ?bU ?bI ?bQ ?bR ?dI ?dk ?dG ?cG ?cJ ?cL ?cI ?cK ?cB ?dH ?dC ?cZ ?cz ?cM ?cA ?bV ?bK ?bL ?bJ ?bN ?bF ?bx ?bD ?bC ?cH ?cC ?cD ?aV ?aC ?aL ?bo ?aS ?ay ?aG ?ar ?bg ?aJ ?aZ ?au ?ag ?aa ?ai ?ac ?aq ?ae ?az ?ax ?aO ?am ?aD ?aB ?ah ?af ?ad ?aX ?bu ?aH ?aF ?aA ?aP ?bd ?aR ?ak ?ao ?al ?cc
  (case dF|d6|dP|dM|dO|d8|eI|dQ|cy|cE|b9|d5|dU|dS|dA|ci=>k_is)
  (case a0|a1|a2|a3|a4|a5|a6|a7|a8=>constructor;rfl;refine⟨?_,?_,?_,?_⟩<;>k_is)
  (case a9|l9|d9|k9|lt9=>k_is)
  (case a10|a11|a12=>constructor;rfl;refine⟨?_,?_,?_,?_⟩<;>k_is)
  (case a13|l13|d13|k13|eF=>k_is)
  (case a14|a15|a16|a17|a18|a19|a20|a21|a22|a23|a24|a25|a26|a27|a28|a29|a30|a31|a32|a33|a34|a35|a36|a37|a38|a39|a40|a41|a42|a43|a44|a45|a46|a47|a48|a49|a50|a51|a52|a53|a54|a55|a56|a57|a58|a59|a60|a61|a62|a63|a64|a65|a66|a67|a68|a69|a70|a71|a72|a73|a74|a75=>constructor;rfl;refine⟨?_,?_,?_,?_⟩<;>k_is)
  (case a76=>refine⟨?_,?_,?_,?_⟩<;>k_is)
  (case df|eg|dJ|eD|bc|ef|dN|eu|et|eC|cW|cF|eo|eh|d4|bG|bv|eB|d7|aN|bH|aU|aQ|bn|bX|ee|eA|cS|cP|cN|cQ|dZ|dX|cg|be|bO|bj|bw|ce|bY|cv|cu|cw|cx|de|dD|bW|aW|bB|aY|bb|bT|bf|aE|dE|dq|cU|cX|aT|bS|bp|aI|bi|aM|di|cT|cV|cY|bP|bA|av|bq|aK|aw|aj|dW|dY|dR|dL|bh|bz|ba|bM|dB|dg|dm|dh|b8|cr|cj|cf|ck|b6|cq|cn|bU|bI|bQ|bR|dI|dk|dG|cG|cJ|cL|cI|cK|cB|dH|dC|cZ|cz|cM|cA|bV|bK|bL|bJ|bN|bF|bx|bD|bC|cH|cC|cD|aV|aC|aL|bo|aS|ay|aG|ar|bg|aJ|aZ|au|ag|aa|ai|ac|aq|ae|az|ax|aO|am|aD|aB|ah|af|ad|aX|bu|aH|aF|aA|aP|bd|aR|ak|ao|al=>k_is)
  (case cc=>(refine⟨?_,?_⟩<;>kit_is))
