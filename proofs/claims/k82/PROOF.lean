import PyProof.Rows.All
import Wide.FinOn
import OpenK.KSplit
import KE.KSortTup
import KE.KDictOf
import KE.RegKIsAll
import KE.KEqDict
import KE.KRevIter
import KE.KIntText
import PySem.Challenge.RW_lotledger_k82_no_text
set_option Elab.async false
set_option linter.all false
set_option compiler.extract_closed false
set_option maxRecDepth 100000
set_option maxHeartbeats 4000000
local macro_rules | `(tactic| walk_at "o") => `(tactic| first | exact Or.inl rfl | exact Or.inr (Or.inl rfl) | exact Or.inr (Or.inr rfl))
local macro_rules | `(tactic| walk_at "p") => `(tactic| first | exact .inl rfl | exact .inr rfl | assumption)
noncomputable section
abbrev Fg_:=PySem.W.Frag
def za:= @List.mem_of_getElem?
def zb:= @List.length_map
def zc:= @PySem.sizeLine_eq
def zd:= @PySem.Heap.get?_push_of_some
def ze:= @PySem.wpAny_bind
def zf:= @Option.some.inj
def zg:= @List.map_cons
def zh:= @List.length_append
def zi:= @List.mem_cons_self
def zj:= @Nat.le_refl
def zk:= @List.map_append
def zm:= @List.size_toArray
def zn:= @PySem.wpAny_pure
def zo:= @if_neg
def zp:= @List.mem_cons
def zq:= @PySem.Heap.lt_size
def zr:= @List.getElem?_eq_some_iff
def zt:= @List.mem_cons_of_mem
def zu:= @if_pos
def zv:= @List.length_take
def zw:= @List.not_mem_nil
def zx:= @List.mem_append
def zy:= @Int.emod_lt_of_pos
def zA:= @List.length_cons
def zB:= @List.getElem?_map
def zC:= @List.mem_singleton
def zD:= @PySem.wpAny_loadPart_at
def zE:= @Bool.false_ne_true
def zF:= @decide_eq_false
def zG:= @Bool.and_eq_true
def zH:= @PySem.F.plainAttrs_str
def zI:= @Int.emod_nonneg
def zJ:= @List.getElem?_eq_getElem
def zK:= @Nat.lt_of_lt_of_le
def zL:= @List.mem_append_right
def zM:= @List.length_singleton
def zN:= @Nat.ne_of_lt
def zO:= @List.mem_map
def zP:= @PySem.Heap.get?_push_size
def zQ:= @Nat.le_trans
def zR:= @PySem.wpAny_mono
def zS:= @List.mem_of_mem_take
def zT:= @List.getElem?_append_right
def zU:= @List.map_map
def zV:= @Nat.zero_le
def zW:= @List.getElem?_append_left
def zX:= @List.map_take
def zY:= @Array.toList_append
def zZ:= @PySem.W.looks_findIn
def z5:= @PySem.F.slot_str_join
def z6:= @PySem.F.type_str_join
def z7:= @Array.length_toList
def z8:= @PySem.W.kia_one
def z9:= @Nat.lt_of_le_of_lt
def ya:= @List.take_of_length_le
def yb:= @decide_eq_true
def yc:= @PySem.F.plainAttrs_list
def yd:= @List.mem_filterMap
def ye:= @PySem.wpAny_FormattedValue_plain
def yf:= @List.length_drop
def yg:= @List.map_nil
def yh:= @List.replicate_succ
def yi:= @PySem.Heap.get?_update_self
def yj:= @Nat.lt_irrefl
def yk:= @List.getElem?_take_of_lt
def ym:= @PySem.wpAny_Call_Name_kw
def yn:= @PySem.wpAny_holding
def yo:= @PySem.F.excBase_ValueError
def yq:= @PySem.wpAny_isSubtype_exc
def yr:= @List.append_nil
def yt:= @Bool.false_eq_true
def yu:= @List.contains_cons
def yv:= @PySem.F.slot_list_append
def yw:= @PySem.F.type_list_append
def yx:= @List.mem_append_left
def yy:= @PySem.Str.cps_append
def yz:= @List.mem_of_mem_drop
def yA:= @List.forall_mem_cons
def yB:= @List.foldl_cons
def yC:= @List.length_nil
def yD:= @PySem.Heap.get?_update_other
def yE:= @List.all_cons
def yF:= @PySem.wpAny_standAt
def yG:= @List.all_eq_true
def yH:= @PySem.W.callWith_K
def yI:= @List.nodup_cons
def yJ:= @PySem.Heap.get?_none_of_le
def yK:= @List.append_assoc
def yL:= @Array.size_append
def yM:= @PySem.wpAny_truthy_bool
def yN:= @PySem.wpAny_pyIter_list
def yO:= @Option.isSome_iff_exists
def yP:= @List.sum_cons
def yQ:= @PySem.mem_of_lookup
def yR:= @List.cons_append
def yS:= @Int.eq_ofNat_of_zero_le
def yT:= @PySem.Heap.get?_update_of_ne
def yU:= @PySem.F.slot_str_split
def yV:= @PySem.F.type_str_split
def yW:= @PySem.wpAny_Call_method_late
def yX:= @Bool.eq_iff_iff
def yY:= @List.find?_cons
def yZ:= @PySem.PassesOwn.never
def y0:= @PySem.W.KIN.signs_num
def y3:= @PySem.wpAny_formatField_int
def y4:= @List.take_add_one
def y6:= @List.nodup_append
def y8:= @PySem.wpAny_newObj_type
def y9:= @PySem.W.hideAll_none
def zza:= @List.length_dropLast
def zzb:= @Bool.and_false
def zzc:= @PySem.wpAny_field
def zzd:= @PySem.call_meets
def zze:= @PySem.wpAny_execs_cons
def zzf:= @List.mem_map_of_mem
def zzg:= @List.append_cancel_right
def zzh:= @List.mem_filter
def zzi:= @List.nil_append
def zzj:= @PySem.wpAny_execs_nil
def zzk:= @PySem.wpAny_passesOwn
def zzl:= @Array.append_assoc
def zzm:= @Array.empty_append
def zzn:= @Nat.le_succ
def zzo:= @List.getElem?_set_self
def zzp:= @PySem.Heap.size_push
def zzq:= @PySem.W.cellsFrom_some
def zzr:= @List.take_sublist
def zzs:= @List.flatten_cons
def zzt:= @List.drop_zero
def zzu:= @PySem.W.funFrames_hide
def zzv:= @Bool.or_true
def zzw:= @PySem.wpAny_pyIter_enum
def zzx:= @List.length_replicate
def zzy:= @List.getElem?_eq_none
def zzz:= @PySem.F.slot_dict_get
def zzA:= @PySem.W.methodCall_KW
def zzB:= @List.take_length
def zzC:= @Nat.le_add_right
def zzD:= @List.cons_ne_nil
def zzE:= @Array.eq_empty_of_size_eq_zero
def zzF:= @PySem.Paired.length
def zzG:= @List.any_cons
def zzH:= @Bool.and_true
def zzI:= @List.getElem?_set_ne
def zzJ:= @List.eq_nil_of_length_eq_zero
def zzK:= @List.dropLast_concat
def zzL:= @List.of_mem_zip
def zzM:= @Option.map_some
def zzN:= @List.dropLast_concat_getLast
def zzO:= @List.foldr_cons
def zzP:= @List.filterMap_cons
def zzQ:= @PySem.W.plainGet_of
def zzR:= @List.take_succ_cons
def zzS:= @List.map_congr_left
def zzT:= @Nat.mul_le_mul_left
def zzU:= @List.getElem_of_mem
def zzV:= @Nat.le_of_lt
def zzW:= @Nat.isDigit_of_mem_toDigits
def zzX:= @PySem.StrLaws.partition_sum
def zzY:= @Nat.sub_self
def zzZ:= @PySem.W.of_hideAll
def zz0:= @Array.getElem?_eq_some_iff
def zz1:= @Array.append_empty
def zz2:= @List.getD_eq_getElem?_getD
def zz3:= @List.getElem?_drop
def zz4:= @Nat.length_toDigits_le_iff
def zz5:= @PySem.wpAny_Name
def zz6:= @PySem.wpAny_call
def zz7:= @PySem.wpAny_newFunctionEnv_cells
def zz8:= @PySem.wpAny_letOwnedTupleGo_enum
def zz9:= @PySem.wpAny_excMatches_sub_self
def yya:= @PySem.Heap.get?_push_at
def yyb:= @List.cons.inj
def yyc:= @List.map_drop
def yyd:= @Bool.not_eq_true
def yye:= @Nat.ne_of_gt
def yyf:= @Nat.min_eq_left
def yyg:= @List.take_left'
def yyh:= @PySem.wpAny_JoinedStr
def yyi:= @Int.le_refl
namespace L2
open PySem PySem.Spec PyProof.Rows
abbrev Key:=Sum Int Str
noncomputable def Kl:Key->Value->Bool
 |.inl k,v=>Value.isInt k v
 |.inr x,v=>Value.isStrOf x v
noncomputable def Wq(w:World):Key->Int
 |.inl k=>hashInt k
 |.inr x=>hashStr w x
def ji:∀{k:Key}{v:Value},Kl k v=true->(∃i t,k=Sum.inl i/\v=Value.int i t)\/(∃x t,k=Sum.inr x/\v=Value.str x t)
 |.inl i,v,h=>by
  obtain⟨t,e⟩:=Value.isInt_shape (k:=i) (v:=v) h;exact .inl ⟨i,t,rfl,e⟩
 |.inr x,v,h=>by
  obtain⟨t,e⟩:=Value.isStrOf_shape (x:=x) (v:=v) h;exact .inr ⟨x,t,rfl,e⟩
def Rm(i:Int)(t:Tok):Kl (.inl i) (.int i t)=true:=by simp[Kl,Value.isInt]
def mq(x:Str)(t:Tok):Kl (.inr x) (.str x t)=true:=by simp[Kl,Value.isStrOf]
def Zx(a b:Int):decide ((Sum.inl a:Key)=Sum.inl b)=(a==b):=by
 by_cases e:a=b
 ·subst e;simp
 ·have h:¬(Sum.inl a:Key)=Sum.inl b:=λq=>e (Sum.inl.inj q)
  rw[zF h];exact(beq_eq_false_iff_ne.mpr e).symm
def aax(a b:Str):decide ((Sum.inr a:Key)=Sum.inr b)=decide (a=b):=by
 by_cases e:a=b
 ·subst e;simp
 ·have h:¬(Sum.inr a:Key)=Sum.inr b:=λq=>e (Sum.inr.inj q)
  rw[zF h,zF e]
def Zi(a:Int)(b:Str):decide ((Sum.inl a:Key)=Sum.inr b)=false:=zF (λq=>nomatch q)
def ZR(a:Str)(b:Int):decide ((Sum.inr a:Key)=Sum.inl b)=false:=zF (λq=>nomatch q)
noncomputable def jj(prog:Program)(w:World):PySem.KeyKind prog w Key where
 is:=Kl
 hash:=Wq w
 inj:=λv a b ha hb=>by
  rcases ji ha with⟨i,t,rfl,rfl⟩|⟨x,t,rfl,rfl⟩
  ·rcases ji hb with⟨j,u,rfl,e⟩|⟨y,u,rfl,e⟩
   ·injection e with e1 _;rw[e1]
   ·exact nomatch e
  ·rcases ji hb with⟨j,u,rfl,e⟩|⟨y,u,rfl,e⟩
   ·exact nomatch e
   ·injection e with e1 _;rw[e1]
 byValue:=λk v h=>by
  rcases ji h with⟨i,t,rfl,rfl⟩|⟨x,t,rfl,rfl⟩<;>rfl
 pyHash:=λhv h=>by
  rcases ji hv with⟨i,t,rfl,rfl⟩|⟨x,t,rfl,rfl⟩
  ·exact wpAny_pyHash_int h
  ·exact wpAny_pyHash_str h
 eqBool:=λhu hv h=>by
  rcases ji hu with⟨i,t,rfl,rfl⟩|⟨x,t,rfl,rfl⟩
  ·rcases ji hv with⟨j,u,rfl,rfl⟩|⟨y,u,rfl,rfl⟩
   ·rw[Zx]at h;exact wpAny_eqBool_int h
   ·rw[Zi]at h;exact SeqAt.EqAt.int_str i t y u _ _ _ _ h
  ·rcases ji hv with⟨j,u,rfl,rfl⟩|⟨y,u,rfl,rfl⟩
   ·rw[ZR]at h;exact SeqAt.EqAt.str_int x t j u _ _ _ _ h
   ·rw[aax]at h;exact wpAny_eqBool_str h
 «strs»:=λk x t v h=>by
  rcases ji h with⟨i,u,rfl,e⟩|⟨y,u,rfl,e⟩
  ·exact nomatch e
  ·injection e with e1 _
   subst e1;cases v<;>rfl
def JZ(prog:Program)(w:World)(i:Int)(t:Tok):(jj prog w).is (.inl i) (.int i t)=true:=Rm i t
def jA(prog:Program)(w:World)(x:Str)(t:Tok):(jj prog w).is (.inr x) (.str x t)=true:=mq x t
end L2
namespace L2
open PySem PySem.Spec PyProof.Rows
inductive V where
 |non|bl (b:Bool)|int (i:Int)|str (x:Str)|byt (b:Array UInt8)|flt (b:UInt64)|ref (a:Addr)|ty (n:String)
 deriving DecidableEq
noncomputable def RelV:V->Value->Prop
 |.non,u=>u=Value.none
 |.bl b,u=>u=Value.bool b
 |.int i,u=>∃t,u=Value.int i t
 |.str x,u=>∃t,u=Value.str x t
 |.byt b,u=>∃t,u=Value.bytes b t
 |.flt b,u=>∃t,u=Value.float b t
 |.ref a,u=>u=Value.ref a
 |.ty n,u=>u=Value.type n
abbrev Vals:List V->List Value->Prop:=Paired RelV
theorem Vals.length{xs:List V}{us:List Value}(r:Vals xs us):xs.length=us.length:=zzF r
theorem Vals.get:∀{xs:List V}{us:List Value}{i:Nat}{x:V},Vals xs us->xs[i]? =some x->∃u,us[i]? =some u/\RelV x u
 |_,_,_,_,.nil,e=>by simp at e
 |_,_,0,_,.cons r _,e=>by simp at e;subst e;exact⟨_,rfl,r⟩
 |_,_,i+1,x,.cons _ t,e=>by
  obtain⟨u,h1,h2⟩:=Vals.get (i:=i) (x:=x) t (by simpa using e);exact⟨u,by simpa using h1,h2⟩
theorem Vals.append:∀{xs ys:List V}{us ws:List Value},Vals xs us->Vals ys ws->Vals (xs++ys) (us++ws)
 |_,_,_,_,.nil,s=>s
 |_,_,_,_,.cons r t,s=> .cons r (Vals.append t s)
theorem Vals.take:∀{xs:List V}{us:List Value}(n:Nat),Vals xs us->Vals (xs.take n) (us.take n)
 |_,_,0,_=> .nil
 |_,_,_+1,.nil=> .nil
 |_,_,n+1,.cons r t=> .cons r (Vals.take n t)
theorem Vals.drop:∀{xs:List V}{us:List Value}(n:Nat),Vals xs us->Vals (xs.drop n) (us.drop n)
 |_,_,0,r=>r
 |_,_,_+1,.nil=> .nil
 |_,_,n+1,.cons _ t=>Vals.drop n t
noncomputable def Hg:Option V->Option Value->Prop
 |some v,some u=>RelV v u
 |none,none=>True
 |_,_=>False
noncomputable def KV{κ:Type}:List (κ×V)->List (κ×Value)->Prop:=Paired fun(p:κ×V)(q:κ×Value)=>p.1=q.1/\RelV p.2 q.2
noncomputable def kV:Key->V
 |.inl i=> .int i
 |.inr x=> .str x
inductive HO where
 |lst (xs:List V)
 |tup (xs:List V)
 |dK (kvs:List (Key×V))|dT (kvs:List (List Key×V))
 |set (S:Int->Bool) (n:Nat)
 |ins (C dx:Addr) (fs:List (Str×V))
 |own (x:Addr)
 |xd (fs:List (Str×V))
 |met (f x:Addr)
 |rng (lo hi:Int)
 |frz (o:Obj) (u:HO)
 |tbl (ps:Array Value)
 |ext (φ:Heap->Prop)
abbrev Hp:=Addr->Option HO
noncomputable def upd(H:Hp)(a:Addr)(o:HO):Hp:=λb=>if b=a then some o else H b
def fK{H:Hp}{a:Addr}{o:HO}:upd H a o a=some o:=by unfold upd;rw[zu rfl]
def fY{H:Hp}{a b:Addr}{o:HO}(h:b≠a):upd H a o b=H b:=by unfold upd;rw[zo h]
def Xu{H:Hp}{a:Addr}{o u:HO}:upd (upd H a o) a u=upd H a u:=by
 funext b;unfold upd;split<;>rfl
def abr{H:Hp}{a b:Addr}{o u:HO}(h:H a=some o)(h':H b=some u)(d:o≠u):a≠b:=by
 intro e;subst e;rw[h]at h';exact d (zf h')
def gH{H:Hp}{a b:Addr}{o:HO}(h:H a=some o)(h':H b=none):a≠b:=by
 intro e;subst e;rw[h]at h';cases h'
section
variable(P:Program)(w:World)
noncomputable def iH(H:Hp)(h:Heap)(a:Addr):HO->Prop
 |.lst xs=>xs.length<=sizeLine/\∃(its:List Value)(n:Nat),Vals xs its/\h.get? a=some {cls:=.type "list",data:=.seq its.toArray n}
 |.tup xs=>xs.length<=sizeLine/\∃its:List Value,Vals xs its/\IsTup h a its.toArray
 |.dK kvs=>kvs.length<=sizeLine/\(a==sysModules)=false/\∃vs,KV kvs vs/\h.DictOf (jj P w) a vs
 | .dT kvs=>kvs.length<=sizeLine/\(a==sysModules)=false/\∃xs:List (List Key×Addr×Value),
   Paired (fun(p:List Key×V)(q:List Key×Addr×Value)=>p.1=q.1/\H q.2.1=some (.tup (p.1.map kV))/\RelV p.2 q.2.2) kvs xs/\
   ∃o es ep,h.get? a=some o/\o.ExactDict/\o.data=.dict es ep/\es.toList=xs.map (entryOfKey (tupleKind (jj P w)))/\(xs.map (·.1)).Nodup
 |.set S n=>h.SetOf (intKind P w) a S n
 | .ins C dx fs=>H dx=some (.own a)/\fs.length<=1000/\dx≠a/\h.get? a=some (PySem.W.instObj C dx)/\
   ∃mA,h.Ns1 dx mA/\(∀f,Hg (fs.lookup f) (mA f))/\PySem.Within mA (fs.map (·.1))
 |.own _=>∃o,h.get? a=some o
 |.xd fs=>∃mA,h.Ns1 a mA/\∀f,Hg (fs.lookup f) (mA f)
 |.rng lo hi=>∃t u v,h.get? a=some {cls:=.type "range",data:=.fields #[.int lo t,.int hi u,.int 1 v]}
 |.frz o u=>h.get? a=some o/\iH H h a u
 |.tbl ps=>h.get? a=some {cls:=.none,data:=.fields ps}
 |.met f x=>h.get? a=some (PySem.W.methodObj (.ref f) (.ref x))
 |.ext φ=>φ h/\(∃o,h.get? a=some o)/\∀h1 h2:Heap,φ h1->(∀o,h1.get? a=some o->h2.get? a=some o)->φ h2
noncomputable def HOk(H:Hp)(h:Heap):Prop:=∀a o,H a=some o->iH P w H h a o
end
section
variable{P:Program}{w:World}{H H':Hp}{h h':Heap}{a:Addr}{o:HO}
theorem iH.lt(x:iH P w H h a o):a<h.objs.size:=by
 cases o with
 |lst xs=>obtain⟨_,_,_,_,e⟩:=x;exact zq e
 |tup xs=>obtain⟨_,_,_,p⟩:=x;exact p.lt
 |dK kvs=>obtain⟨_,_,_,_,o,_,_,e,_⟩:=x;exact zq e
 |dT kvs=>obtain⟨_,_,_,_,o,_,_,e,_⟩:=x;exact zq e
 |set S n=>obtain⟨o,_,_,_,e,_⟩:=x;exact zq e
 |ins C dx fs=>obtain⟨_,_,_,e,_⟩:=x;exact zq e
 |own y=>obtain⟨_,e⟩:=x;exact zq e
 |xd fs=>obtain⟨_,⟨_,_,_,e,_⟩,_⟩:=x;exact zq e
 |rng lo hi=>obtain⟨_,_,_,e⟩:=x;exact zq e
 |frz ob u=>obtain⟨e,_⟩:=x;exact zq e
 |tbl ps=>exact zq (show h.get? a=some _ from x)
 |met f y=>exact zq (show h.get? a=some _ from x)
 |ext φ=>obtain⟨_,⟨_,e⟩,_⟩:=x;exact zq e
theorem Paired.mapP{α β:Type}{F G:α->β->Prop}:∀{l₁:List α}{l₂:List β},Paired F l₁ l₂->(∀a b,F a b->G a b)->Paired G l₁ l₂
 |_,_,.nil,_=> .nil
 |_,_,.cons r t,f=> .cons (f _ _ r) (Paired.mapP t f)
def iH.stay(x:iH P w H h a o)(k:∀b u,(b=a\/H b=some (.own a))->h.get? b=some u->h'.get? b=some u)
  (ho:∀b,H b=some (.own a)->H' b=some (.own a)) (ht:∀b xs,H b=some (.tup xs)->H' b=some (.tup xs)):iH P w H' h' a o:=by
 induction o with
 |lst xs=>obtain⟨z,its,n,r,e⟩:=x;exact⟨z,its,n,r,k _ _ (.inl rfl) e⟩
 |tup xs=>obtain⟨z,its,r,ob,e,c⟩:=x;exact⟨z,its,r,ob,k _ _ (.inl rfl) e,c⟩
 |dK kvs=>obtain⟨z,y,vs,r,ob,es,ep,e,c⟩:=x;exact⟨z,y,vs,r,ob,es,ep,k _ _ (.inl rfl) e,c⟩
 |dT kvs=>
  obtain⟨z,y,xs,r,ob,es,ep,e,c⟩:=x;exact⟨z,y,xs,Paired.mapP r λp q z=>⟨z.1,ht _ _ z.2.1,z.2.2⟩,ob,es,ep,k _ _ (.inl rfl) e,c⟩
 |set S n=>obtain⟨ob,es,ep,t,e,c⟩:=x;exact⟨ob,es,ep,t,k _ _ (.inl rfl) e,c⟩
 |ins C dx fs=>
  obtain⟨d,z,ne,e,mA,⟨od,es,ep,e2,c⟩,r⟩:=x;exact⟨ho _ d,z,ne,k _ _ (.inl rfl) e,mA,⟨od,es,ep,k _ _ (.inr d) e2,c⟩,r⟩
 |own y=>obtain⟨ob,e⟩:=x;exact⟨ob,k _ _ (.inl rfl) e⟩
 |xd fs=>obtain⟨mA,⟨od,es,ep,e,c⟩,r⟩:=x;exact⟨mA,⟨od,es,ep,k _ _ (.inl rfl) e,c⟩,r⟩
 |rng lo hi=>obtain⟨t,u,v,e⟩:=x;exact⟨t,u,v,k _ _ (.inl rfl) e⟩
 |frz ob u ih=>obtain⟨e,q⟩:=x;exact⟨k _ _ (.inl rfl) e,ih q⟩
 |tbl ps=>
  have e:h.get? a=some {cls:=.none,data:=.fields ps}:=x;show h'.get? a=some {cls:=.none,data:=.fields ps};exact k a _ (.inl rfl) e
 |met f y=>
  have e:h.get? a=some (PySem.W.methodObj (.ref f) (.ref y)):=x;show h'.get? a=some (PySem.W.methodObj (.ref f) (.ref y));exact k a _ (.inl rfl) e
 |ext φ=>obtain⟨p,⟨o,e⟩,st⟩:=x;exact⟨st _ _ p λo q=>k _ _ (.inl rfl) q,⟨o,k _ _ (.inl rfl) e⟩,st⟩
theorem HOk.lt(x:HOk P w H h)(e:H a=some o):a<h.objs.size:=(x a o e).lt
def HOk.fresh(x:HOk P w H h)(e:h.objs.size<=a):H a=none:=by
 cases q:H a with
 |none=>rfl
 |some u=>exact absurd (zK (x.lt q) e) (yj _)
def HOk.kept(x:HOk P w H h)(k:∀b u,h.get? b=some u->h'.get? b=some u):HOk P w H h':=λa o e=>
 (x a o e).stay (λb u _ q=>k b u q) (λ_ q=>q) λ_ _ q=>q
def HOk.laid(x:HOk P w H h)(k:∀b u,h.get? b=some u->h'.get? b=some u)(hp:h.objs.size<=a)(z:iH P w (upd H a o) h' a o):HOk P w (upd H a o) h':=λb u e=>by
 have hn:=x.fresh hp;by_cases hb:b=a
 ·subst hb;rw[fK]at e;cases e;exact z
 ·rw[fY hb]at e
  exact(x b u e).stay (λc v _ q=>k c v q) (λc q=>by rw[fY (gH q hn)];exact q) λc xs q=>by rw[fY (gH q hn)];exact q
end
noncomputable def Rd(H:Hp)(a:Addr)(u:HO):Prop:=H a=some u\/∃o,H a=some (.frz o u)
def Rd.of{H:Hp}{a:Addr}{u:HO}(h:H a=some u):Rd H a u:=.inl h
def Rd.ok{P:Program}{w:World}{H:Hp}{h:Heap}{a:Addr}{u:HO}(r:Rd H a u)(x:HOk P w H h):iH P w H h a u:=by
 rcases r with r|⟨o,r⟩
 ·exact x a u r
 ·obtain⟨_,q⟩:=x a _ r
  exact q
noncomputable def Mut:Option HO->Prop
 |some (.lst _)=>True
 |some (.dK _)=>True
 |some (.dT _)=>True
 |some (.set _ _)=>True
 |some (.ins _ _ _)=>True
 |some (.ext _)=>True
 |_=>False
section
variable{P:Program}{w:World}{H:Hp}{h h':Heap}{x e:Addr}{o':HO}
def HOk.write(ok:HOk P w H h)(mu:Mut (H x))(he:e=x\/H e=some (.own x))(k:∀b u,b≠e->h.get? b=some u->h'.get? b=some u)(ad:∃u,h'.get? e=some u)
  (ae:iH P w (upd H x o') h' x o'):HOk P w (upd H x o') h':=λb u q=>by
 have ab:∀c y,H c=some (.own y)->c≠x:=λc y r z=>by subst z;rw[r]at mu;exact mu
 have ac:∀c xs,H c=some (.tup xs)->c≠x:=λc xs r z=>by subst z;rw[r]at mu;exact mu
 by_cases hb:b=x
 ·subst hb;rw[fK]at q;cases q;exact ae
 ·rw[fY hb]at q
  by_cases aa:b=e
  ·have q':H b=some (.own x):=by
    rcases he with z|z
    ·exact absurd (aa.trans z) hb
    ·rw[aa];exact z
   rw[q]at q';cases q';obtain⟨v,hv⟩:=ad;exact⟨v,by rw[aa];exact hv⟩
  ·refine(ok b u q).stay (λc v hc r=>k c v ?_ r) (λc r=>by rw[fY (ab c b r)];exact r) λc xs r=>by rw[fY (ac c xs r)];exact r
   rcases hc with rfl|hc
   ·exact aa
   ·rintro rfl
    rcases he with z|z
    ·exact ab c b hc z
    ·rw[hc]at z;cases z;exact hb rfl
end
structure Un(fs ex:List Addr)(H H':Hp)(h h':Heap):Prop where
 keep:∀b o,h.get? b=some o->H b=none->b∉fs->b∉ex->h'.get? b=some o
 slot:∀b o,h.get? b=some o->H b=none->b∈fs->b∉ex->∃sl,h'.get? b=some {o with slots:=sl}
 free:∀b o,h.get? b=some o->H b=none->b∉ex->H' b=none
 there:∀b o,h.get? b=some o->b∉ex->∃o',h'.get? b=some o'
 tups:∀b xs,H b=some (.tup xs)->H' b=some (.tup xs)
 frzs:∀b o u,H b=some (.frz o u)->H' b=some (.frz o u)
 tbls:∀b ps,H b=some (.tbl ps)->∃more,H' b=some (.tbl (ps++more))
section
variable{fs fs' ex ex':List Addr}{H H1 H2:Hp}{h h1 h2 h':Heap}{a x e:Addr}{o:HO}
def Un.any(u:Un fs ex H H1 h h1){b:Addr}{z:Obj}(q:h.get? b=some z)(n:H b=none)(hx:b∉ex):∃sl,h1.get? b=some {z with slots:=sl}:=by
 by_cases hb:b∈fs
 ·exact u.slot b z q n hb hx
 ·exact⟨z.slots,u.keep b z q n hb hx⟩
def Un.trans(a:Un fs ex H H1 h h1)(b:Un fs ex H1 H2 h1 h2):Un fs ex H H2 h h2 where
 keep:=λc ob q n hc z=>b.keep c ob (a.keep c ob q n hc z) (a.free c ob q n z) hc z
 slot:=λc ob q n hc z=>by
  obtain⟨sl,e1⟩:=a.slot c ob q n hc z;obtain⟨aa,e2⟩:=b.slot c _ e1 (a.free c ob q n z) hc z;exact⟨aa,e2⟩
 free:=λc ob q n z=>by
  obtain⟨o',e1⟩:=a.there c ob q z;exact b.free c o' e1 (a.free c ob q n z) z
 there:=λc ob q z=>by
  obtain⟨o',e1⟩:=a.there c ob q z;exact b.there c o' e1 z
 tups:=λc xs q=>b.tups c xs (a.tups c xs q)
 frzs:=λc ob xs q=>b.frzs c ob xs (a.frzs c ob xs q)
 tbls:=λc ps q=>by
  obtain⟨m1,e1⟩:=a.tbls c ps q;obtain⟨m2,e2⟩:=b.tbls c _ e1;exact⟨m1++m2,by rw[e2,zzl]⟩
def Un.kept(k:∀b u,h.get? b=some u->h'.get? b=some u):Un fs ex H H h h':=
 ⟨λb z q _ _ _=>k b z q,λb z q _ _ _=>⟨z.slots,k b z q⟩,λ_ _ _ n _=>n,λb z q _=>⟨z,k b z q⟩,λ_ _ q=>q,λ_ _ _ q=>q,λ_ ps q=>⟨#[],by rw[q];simp⟩⟩
def Un.refl:Un fs ex H H h h:=Un.kept λ_ _ q=>q
def Un.laid(k:∀b u,h.get? b=some u->h'.get? b=some u)(z:h.objs.size<=a)(hn:H a=none):Un fs ex H (upd H a o) h h' where
 keep:=λb u q _ _ _=>k b u q
 slot:=λb u q _ _ _=>⟨u.slots,k b u q⟩
 free:=λb u q n _=>by rw[fY (zN (zK (zq q) z))];exact n
 there:=λb u q _=>⟨u,k b u q⟩
 tups:=λb xs q=>by rw[fY (gH q hn)];exact q
 frzs:=λb u xs q=>by rw[fY (gH q hn)];exact q
 tbls:=λb ps q=>⟨#[],by rw[fY (gH q hn),q];simp⟩
def Un.write(mu:Mut (H x))(he:e=x\/H e=some (.own x))(k:∀b u,b≠e->h.get? b=some u->h'.get? b=some u)(ab:∃u,h'.get? e=some u):Un fs ex H (upd H x o) h h':=by
 have hx:∀b,H b=none->b≠x:=λb n z=>by subst z;rw[n]at mu;exact mu
 have hb:∀b,H b=none->b≠e:=λb n z=>by
  subst z;rcases he with r|r
  ·exact hx b n r
  ·rw[n]at r;cases r
 have hm:∀b u,H b=some u->¬Mut (some u)->b≠x:=λb u q nm z=>by subst z;rw[q]at mu;exact nm mu
 refine ⟨λb u q n _ _=>k b u (hb b n) q,λb u q n _ _=>⟨u.slots,k b u (hb b n) q⟩,λb u q n _=>by rw[fY (hx b n)];exact n,λb u q _=>?_,
  λb xs q=>by rw[fY (hm b _ q λz=>z)];exact q,λb u xs q=>by rw[fY (hm b _ q λz=>z)];exact q,λb ps q=>⟨#[],by rw[fY (hm b _ q λz=>z),q];simp⟩⟩
 by_cases aa:b=e
 ·subst aa;exact ab
 ·exact⟨u,k b u aa q⟩
end
noncomputable def trk(h:Heap)(H:Hp):List Addr:=(List.range h.objs.size).filter λa=>(H a).isSome
noncomputable def UT(h:Heap)(H:Hp):Heap:=PySem.W.hideAll h (trk h H)
def SN(h:Heap)(H:Hp):(UT h H).objs.size=h.objs.size:=PySem.W.hideAll_size _ _
def Vg{h:Heap}{H:Hp}{b:Addr}{o:Obj}(e:h.get? b=some o)(n:H b=none):(UT h H).get? b=some o:=
 PySem.W.hideAll_get _ e λhm=>by
  have q:(H b).isSome=true:=(zzh.mp hm).2;rw[n]at q;simp at q
def WM{h:Heap}{H:Hp}{b:Addr}{o:Obj}(e:(UT h H).get? b=some o):h.get? b=some o/\H b=none:=by
 have e':h.get? b=some o:=zzZ (trk h H) e;refine⟨e',?_⟩
 cases q:H b with
 |none=>rfl
 |some x=>
  have hm:b∈trk h H:=zzh.mpr ⟨List.mem_range.mpr (zq e'),by simp[q]⟩;have z:(UT h H).get? b=none:=y9 (trk h H) hm;rw[z]at e;cases e
noncomputable def Xq(g h:Heap)(L:Addr):List (Addr×Obj):=(List.range h.objs.size).filterMap λa=>if a=L\/(g.get? a).isSome=true then none else(h.get? a).map λo=>(a,o)
noncomputable def rest(g h:Heap)(L d:Addr):List (Addr×Obj):=(Xq g h L).filter λp=>decide (p.1≠d)
def Sg{g h:Heap}{L d:Addr}:∀p∈rest g h L d,p.1≠d:=λp q=>of_decide_eq_true (zzh.mp q).2
end L2
namespace L2
open PySem PySem.Spec PyProof.Rows
structure Mod(K:Fg_)(mg:Str->Option Value)(base:Heap):Prop where
 kin:K.In base
 glob:base.Ns mainGlobals mg
 blt:∃mb,base.Ns builtinsNs mb/\∀x:Str,x≠ "__name__" ->mb x=bootBuiltins x
 nolimit:base.NoLimit
structure Cx where
 prog:Program
 w:World
 K:Fg_
 mg:Str->Option Value
 base:Heap
 A:Around
 N:List Str
 s₀:Shared
 H₀:Hp
 env:Env
 outer:List Env
 stack:List Env
 ex:List Addr
 fn:Str->Bool
 calm:Bool
 pn:List (Addr×Obj)
 xe:Value->Shared->Prop
noncomputable def frs(l:List Env):List Addr:=l.filterMap (·.frame)
abbrev Cx.fs(X:Cx):List Addr:=frs X.outer
noncomputable def Vis(sc:Scope)(x:Str):Prop:=sc.names.lookup x=some .local\/sc.names.lookup x=some .cell\/sc.names.lookup x=some .free
noncomputable def Loc(sc:Scope)(x:Str):Prop:=sc.names.lookup x=some .local\/sc.names.lookup x=some .cell
noncomputable def Look(env:Env)(h:Heap)(m:Str->Option Value)(x:Str)(u:Value):Prop:=
 (env.kindOf x=some .local/\m x=some u)\/((env.kindOf x=some .cell\/env.kindOf x=some .free)/\∃c,env.cells.lookup x=some c/\h.IsCell c (some u))
structure Cx.Ok(X:Cx):Prop where
 mod:Mod X.K X.mg X.base
 kind:X.env.scope.kind=.function
 glob:X.env.globals=mainGlobals
 blt:X.env.builtins=builtinsNs
 above:X.s₀.heap.objs.size<=X.env.locals
 inj:∀x y c,X.env.cells.lookup x=some c->X.env.cells.lookup y=some c->x=y
 has:∀x,(X.env.kindOf x=some .cell\/X.env.kindOf x=some .free)->∃c,X.env.cells.lookup x=some c
 cab:∀x c,X.fn x=true->X.env.cells.lookup x=some c->X.s₀.heap.objs.size<=c
 hd:X.calm=true->X.A.handled=none
 frames:X.A.frames=some X.stack
 stk:X.stack=X.outer\/(X.stack=X.env::X.outer/\X.env.frame=some X.env.locals)
 exf:∀b∈X.ex,b≠X.env.locals/\∀x c,X.env.cells.lookup x=some c->c≠b
 bs:∀b o,X.base.get? b=some o->X.s₀.heap.get? b=some o/\X.H₀ b=none
 bsz:X.base.objs.size<=X.s₀.heap.objs.size
 noex:∀b o,X.base.get? b=some o->b∉X.ex
 exfs:∀b∈X.ex,b∉X.fs
 funs:X.s₀.heap.FunFrames X.base X.outer
 frf:∀b∈X.fs,X.H₀ b=none
structure Inv(X:Cx)(pins:List (Addr×Obj))(σ:List (Option V))(H:Hp)(s:Shared):Prop where
 ok:X.Ok
 os:s.os=X.s₀.os
 bare:AllBare s.gens
 base:Un X.fs X.ex X.H₀ H X.s₀.heap s.heap
 loc:∃m,s.heap.Ns X.env.locals m/\∀(i:Nat)(x:Str)(v:V),X.N[i]? =some x->σ[i]? =some (some v)->Vis X.env.scope x->∃u,RelV v u/\Look X.env s.heap m x u
 cell:∀x c,X.env.cells.lookup x=some c->∃v,s.heap.IsCell c v
 free:H X.env.locals=none
 freeC:∀x c,X.env.cells.lookup x=some c->H c=none
 pin:∀p∈X.pn++pins,s.heap.get? p.1=some p.2/\H p.1=none/\p.1≠X.env.locals/\p.1∉X.fs/\∀v,p.2.data≠.cell v
 hok:HOk X.prog X.w H s.heap
 len:σ.length=X.N.length
section
variable{X:Cx}{pins:List (Addr×Obj)}{σ:List (Option V)}{H H':Hp}{s:Shared}{h':Heap}
def Cx.Ok.nofr(ok:X.Ok){b:Addr}{o:Obj}(e:X.base.get? b=some o):b∉X.fs:=λq=>by
 have:=(ok.funs.mem q).1;rw[e]at this;cases this
theorem Inv.bs(I:Inv X pins σ H s):∀b o,X.base.get? b=some o->s.heap.get? b=some o/\H b=none:=λb o e=>
 ⟨I.base.keep b o (I.ok.bs b o e).1 (I.ok.bs b o e).2 (I.ok.nofr e) (I.ok.noex b o e),I.base.free b o (I.ok.bs b o e).1 (I.ok.bs b o e).2 (I.ok.noex b o e)⟩
def Inv.bk(I:Inv X pins σ H s):∀b o,X.base.get? b=some o->s.heap.get? b=some o:=λb o e=>(I.bs b o e).1
theorem Inv.mod(I:Inv X pins σ H s):Mod X.K X.mg X.base:=I.ok.mod
def Inv.kIn(I:Inv X pins σ H s):X.K.In s.heap:=I.ok.mod.kin.keeps I.bk
def Inv.fr(I:Inv X pins σ H s):∃m,Fr X.base X.env.locals s.heap m:=
 let⟨m,hn,_⟩:=I.loc
 ⟨m,hn,I.bk,zQ I.ok.bsz I.ok.above⟩
theorem Inv.lt(I:Inv X pins σ H s):X.env.locals<s.heap.objs.size:=let⟨_,hn,_⟩:=I.loc;hn.lt
def Inv.sz(I:Inv X pins σ H s):X.s₀.heap.objs.size<=s.heap.objs.size:=zQ I.ok.above (zzV I.lt)
def Inv.nofs(I:Inv X pins σ H s){a:Addr}(h:s.heap.objs.size<=a):a∉X.fs:=λz=>by
 obtain⟨_,o,q,_⟩:=I.ok.funs.mem z;exact absurd (zK (zq q) (zQ I.sz h)) (yj _)
def Inv.cne(I:Inv X pins σ H s):∀x c,X.env.cells.lookup x=some c->c≠X.env.locals:=λx c e z=>by
 obtain⟨v,o,ho,hd⟩:=I.cell x c e;obtain⟨m,⟨o',es,ep,q,aa,_⟩,_⟩:=I.loc;rw[z,q]at ho;cases ho;rw[aa]at hd;cases hd
theorem Inv.funs(I:Inv X pins σ H s):s.heap.FunFrames X.base X.outer:=by
 have q:∀(l:List Env),(∀b∈frs l,b∈X.fs)->X.s₀.heap.FunFrames X.base l->s.heap.FunFrames X.base l:=by
  intro l
  induction l with
  |nil=>intro _ _;trivial
  |cons env r ih=>
   intro hs hl;obtain⟨hk,⟨L,o,hf,hn,ho,hd⟩,hr⟩:=hl;have hL:L∈X.fs:=hs L (by unfold frs;rw[zzP,hf];exact zi);obtain⟨sl,e⟩:=I.base.slot L o ho (I.ok.frf L hL) hL λz=>I.ok.exfs L z hL;exact⟨hk,⟨L,_,hf,hn,e,hd⟩,ih (λb hb=>hs b (by unfold frs;rw[zzP,hf];exact zt _ hb)) hr⟩
 exact q X.outer (λ_ hb=>hb) I.ok.funs
theorem Inv.stack(I:Inv X pins σ H s):s.heap.FunFrames X.base X.stack:=by
 rcases I.ok.stk with e|⟨e,q⟩
 ·rw[e];exact I.funs
 ·rw[e]
  obtain⟨m,hn,_⟩:=I.loc;refine .cons (by rw[I.ok.kind];decide) q hn ?_ I.funs;exact yJ (zQ I.ok.bsz I.ok.above)
def Inv.stkSub(I:Inv X pins σ H s):∀b∈frs X.stack,b∈X.env.locals::X.fs:=λb q=>by
 rcases I.ok.stk with e|⟨e,z⟩
 ·rw[e]at q;exact zt _ q
 ·rw[e]at q
  unfold frs at q;rw[zzP,z]at q;exact q
def Inv.stkFree(I:Inv X pins σ H s):∀b∈frs X.stack,H b=none:=λb q=>by
 rcases zp.mp (I.stkSub b q)with e|q
 ·rw[e];exact I.free
 ·obtain⟨_,o,ho,_⟩:=I.ok.funs.mem q
  exact I.base.free b o ho (I.ok.frf b q) λz=>I.ok.exfs b z q
def Inv.step{g':Array GenState}{t':Nat}{d':Drawn}{ch:List Addr}(I:Inv X pins σ H s)
  (aa:∀b∈ch,(b∈X.ex\/X.s₀.heap.objs.size<=b)/\b≠X.env.locals/\(∀x c,X.env.cells.lookup x=some c->c≠b)/\∀p∈X.pn++pins,p.1≠b)
  (keep:∀b o,b≠X.env.locals->b∉X.fs->b∉ch->s.heap.get? b=some o->H b=none->h'.get? b=some o)
  (slot:∀b o,b≠X.env.locals->b∈X.fs->b∉ch->s.heap.get? b=some o->H b=none->∃sl,h'.get? b=some {o with slots:=sl}) (free:∀b o,b∉ch->s.heap.get? b=some o->H b=none->H' b=none)
  (there:∀b o,b∉ch->s.heap.get? b=some o->∃o',h'.get? b=some o')
  (tups:∀b xs,H b=some (.tup xs)->H' b=some (.tup xs)) (frzs:∀b o u,H b=some (.frz o u)->H' b=some (.frz o u)) (tbls:∀b ps,H b=some (.tbl ps)->∃af,H' b=some (.tbl (ps++af)))
  (ns:∀m,s.heap.Ns X.env.locals m->h'.Ns X.env.locals m) (hok:HOk X.prog X.w H' h') (hg:AllBare g'):
  Inv X pins σ H' {s with heap:=h',gens:=g',drawn:=d',toks:=t'}:=by
 have ae:∀b o,X.s₀.heap.get? b=some o->b≠X.env.locals:=λb o e=>zN (zK (zq e) I.ok.above)
 have ad:∀b o,X.s₀.heap.get? b=some o->b∉X.ex->b∉ch:=λb o e hx hb=>by
  rcases(aa b hb).1 with z|z
  ·exact hx z
  ·exact absurd (zK (zq e) z) (yj _)
 have ab:∀x c,X.env.cells.lookup x=some c->∀v,s.heap.IsCell c v->h'.IsCell c v:=λx c e v ⟨o,ho,hd⟩=>by
  have ac:c∉ch:=λz=>(aa c z).2.2.1 x c e rfl;by_cases hc:c∈X.fs
  ·obtain⟨sl,q⟩:=slot c o (I.cne x c e) hc ac ho (I.freeC x c e)
   exact⟨_,q,hd⟩
  ·exact⟨o,keep c o (I.cne x c e) hc ac ho (I.freeC x c e),hd⟩
 refine⟨I.ok,I.os,hg,⟨λb o e n hb hx=>?_,λb o e n hb hx=>?_,λb o e n hx=>?_,λb o e hx=>?_,λb xs e=>tups b xs (I.base.tups b xs e),λb o xs e=>frzs b o xs (I.base.frzs b o xs e),λb ps e=>?_⟩,?_,λx c e=>?_,?_,λx c e=>?_,λp hp=>?_,hok,I.len⟩
 ·exact keep b o (ae b o e) hb (ad b o e hx) (I.base.keep b o e n hb hx) (I.base.free b o e n hx)
 ·obtain⟨sl,e1⟩:=I.base.slot b o e n hb hx
  obtain⟨ag,e2⟩:=slot b _ (ae b o e) hb (ad b o e hx) e1 (I.base.free b o e n hx);exact⟨ag,e2⟩
 ·obtain⟨o',e1⟩:=I.base.there b o e hx
  exact free b o' (ad b o e hx) e1 (I.base.free b o e n hx)
 ·obtain⟨o',e1⟩:=I.base.there b o e hx
  exact there b o' (ad b o e hx) e1
 ·obtain⟨m1,e1⟩:=I.base.tbls b ps e
  obtain⟨m2,e2⟩:=tbls b _ e1;exact⟨m1++m2,by rw[e2,zzl]⟩
 ·obtain⟨m,hn,hl⟩:=I.loc
  refine⟨m,ns m hn,λi x v e1 e2 e3=>?_⟩;obtain⟨u,r,l⟩:=hl i x v e1 e2 e3;refine⟨u,r,?_⟩;rcases l with l|⟨k,c,e,z⟩
  ·exact .inl l
  ·exact .inr ⟨k,c,e,ab x c e _ z⟩
 ·obtain⟨v,z⟩:=I.cell x c e
  exact⟨v,ab x c e v z⟩
 ·obtain⟨m,⟨o,_,_,ho,_⟩,_⟩:=I.loc
  exact free _ o (λz=>(aa _ z).2.1 rfl) ho I.free
 ·obtain⟨v,o,ho,hd⟩:=I.cell x c e
  exact free c o (λz=>(aa c z).2.2.1 x c e rfl) ho (I.freeC x c e)
 ·obtain⟨e,n,ne,nf,d⟩:=I.pin p hp
  have ac:p.1∉ch:=λz=>(aa p.1 z).2.2.2 p hp rfl;exact⟨keep p.1 p.2 ne nf ac e n,free p.1 p.2 ac e n,ne,nf,d⟩
def Inv.un{t':Nat}(I:Inv X pins σ H s)(u:Un X.fs [] H H' s.heap h')(hok:HOk X.prog X.w H' h'):Inv X pins σ H' {s with heap:=h',toks:=t'}:=by
 obtain⟨m,⟨o,es,ep,ho,r⟩,_⟩:=id I.loc;obtain⟨sl,hL⟩:=u.any ho I.free (by simp)
 exact I.step (g':=s.gens) (d':=s.drawn) (ch:=[]) (λ_ z=>nomatch z) (λb o _ hb _ e n=>u.keep b o e n hb (by simp)) (λb o _ hb _ e n=>u.slot b o e n hb (by simp)) (λb o _ e n=>u.free b o e n (by simp)) (λb o _ e=>u.there b o e (by simp)) u.tups u.frzs u.tbls (λm' hm=>by
  obtain⟨o',aa,ab,q,r'⟩:=hm;rw[ho]at q;cases q;exact⟨_,aa,ab,hL,r'⟩) hok I.bare
def Inv.call{g':Array GenState}{t':Nat}{d':Drawn}{ch:List Addr}(I:Inv X pins σ H s)(u:Un (frs X.stack) ch H H' s.heap h')(hok:HOk X.prog X.w H' h')(hg:AllBare g')
  (ab:∀b∈ch,(b∈X.ex\/X.s₀.heap.objs.size<=b)/\b≠X.env.locals/\(∀x c,X.env.cells.lookup x=some c->c≠b)/\∀p∈X.pn++pins,p.1≠b):
  Inv X pins σ H' {s with heap:=h',gens:=g',drawn:=d',toks:=t'}:=by
 obtain⟨m,⟨o,es,ep,ho,r⟩,_⟩:=id I.loc;obtain⟨sl,hL⟩:=u.any ho I.free λz=>(ab _ z).2.1 rfl
 exact I.step (ch:=ch) ab (λb o hL hb q e n=>u.keep b o e n (λz=>(zp.mp (I.stkSub b z)).elim hL hb) q) (λb o _ _ q e n=>u.any e n q) (λb o q e n=>u.free b o e n q) (λb o q e=>u.there b o e q) u.tups u.frzs u.tbls (λm' hm=>by
  obtain⟨o',ac,ad,aa,r'⟩:=hm;rw[ho]at aa;cases aa;exact⟨_,ac,ad,hL,r'⟩) hok hg
def Inv.turned{t':Nat}{it:Addr}(I:Inv X pins σ H s)(k:∀b o,b≠it->s.heap.get? b=some o->h'.get? b=some o)(hn:H it=none)(hL:it≠X.env.locals)
  (h1:it∈X.ex\/X.s₀.heap.objs.size<=it) (h2:∀x c,X.env.cells.lookup x=some c->c≠it) (h3:∀p∈X.pn++pins,p.1≠it):Inv X pins σ H {s with heap:=h',toks:=t'}:=by
 have aa:∀b u,H b=some u->b≠it:=λb u e z=>by rw[z,hn]at e;cases e
 refine I.step (g':=s.gens) (d':=s.drawn) (ch:=[it]) (λb hb=>?_) (λb o _ _ hc e _=>k b o (λz=>hc (by simp[z])) e) (λb o _ _ hc e _=>⟨o.slots,k b o (λz=>hc (by simp[z])) e⟩) (λ_ _ _ _ n=>n)
  (λb o hc e=>⟨o,k b o (λz=>hc (by simp[z])) e⟩) (λ_ _ e=>e) (λ_ _ _ e=>e) (λb ps e=>⟨#[],by rw[e];simp⟩) (λm hm=>?_) (λb u e=>?_) I.bare
 ·have e:b=it:=by simpa using hb
  subst e;exact⟨h1,hL,h2,h3⟩
 ·obtain⟨o,es,ep,ho,r⟩:=hm
  exact⟨o,es,ep,k _ o (Ne.symm hL) ho,r⟩
 ·refine(I.hok b u e).stay (λc v hc q=>k c v ?_ q) (λ_ q=>q) λ_ _ q=>q
  rcases hc with z|z
  ·rw[z];exact aa b u e
  ·exact aa c _ z
def Inv.tok(I:Inv X pins σ H s)(t:Nat):Inv X pins σ H {s with toks:=t}:=I.un (h':=s.heap) (t':=t) Un.refl I.hok
theorem Inv.kept{t':Nat}(I:Inv X pins σ H s)(k:∀b u,s.heap.get? b=some u->h'.get? b=some u):Inv X pins σ H {s with heap:=h',toks:=t'}:=I.un (Un.kept k) (I.hok.kept k)
theorem Inv.laid{a:Addr}{o:HO}{t':Nat}(I:Inv X pins σ H s)(k:∀b u,s.heap.get? b=some u->h'.get? b=some u)(q:s.heap.objs.size<=a)(z:iH X.prog X.w (upd H a o) h' a o):
  Inv X pins σ (upd H a o) {s with heap:=h',toks:=t'}:=I.un (Un.laid k q (I.hok.fresh q)) (I.hok.laid k q z)
theorem Inv.write{x e:Addr}{o:HO}{t':Nat}(I:Inv X pins σ H s)(mu:Mut (H x))(he:e=x\/H e=some (.own x))(k:∀b u,b≠e->s.heap.get? b=some u->h'.get? b=some u)(q:∃u,h'.get? e=some u)
  (z:iH X.prog X.w (upd H x o) h' x o):Inv X pins σ (upd H x o) {s with heap:=h',toks:=t'}:=I.un (Un.write mu he k q) (I.hok.write mu he k q z)
def Inv.pins_of{q:List (Addr×Obj)}(I:Inv X pins σ H s)(h:∀p∈q,s.heap.get? p.1=some p.2/\H p.1=none/\p.1≠X.env.locals/\p.1∉X.fs/\∀v,p.2.data≠.cell v):Inv X q σ H s:=
 ⟨I.ok,I.os,I.bare,I.base,I.loc,I.cell,I.free,I.freeC,λp hp=>(zx.mp hp).elim (λz=>I.pin p (yx _ z)) (h p),I.hok,I.len⟩
def Gh{N:List Str}(z:N.Nodup){i j:Nat}{x:Str}(a:N[i]? =some x)(b:N[j]? =some x):i=j:=by
 obtain⟨h1,q⟩:=zr.mp a;obtain⟨h2,e2⟩:=zr.mp b;exact(List.getElem_inj z).mp (q.trans e2.symm)
def TJ{M:Model}{A:Around}{E:Value->Shared->Prop}{i:Nat}{x:Str}{v:V}{u:Value}{Q:Unit->Shared->Prop}(I:Inv X pins σ H s)(hN:X.N.Nodup)(hi:X.N[i]? =some x)(hx:Loc X.env.scope x)(r:RelV v u)
  (h:∀s',Inv X pins (σ.set i (some v)) H s'->(∃a,Heap.SameBut a s.heap s'.heap/\(a=X.env.locals\/X.env.cells.lookup x=some a))->Q () s') (hf:X.fn x=true\/X.env.scope.names.lookup x=some .local:=by walk_at "p"):wpAny M A (storeName X.env x u) Q E s:=by
 obtain⟨m,hn,hl⟩:=id I.loc;have ag:(X.env.scope.kind==.class||(X.env.scope.kind==.module && X.env.locals !=X.env.globals))=false:=by rw[I.ok.kind];rfl
 have ae:i<σ.length:=by rw[I.len];exact(zr.mp hi).1
 have ac:=I.cne
 have aa:∀{a:Addr}{h':Heap},(∃o,s.heap.get? a=some o/\H a=none)->Heap.SameBut a s.heap h'->HOk X.prog X.w H h':=fun{a h'} ha hs b ob e=>by
  obtain⟨_,_,ab⟩:=ha;refine(I.hok b ob e).stay (λc w' hc q=>(hs.2 c ?_).trans q) (λ_ q=>q) λ_ _ q=>q;rintro rfl;rcases hc with rfl|hc
  ·rw[ab]at e;cases e
  ·rw[ab]at hc;cases hc
 rcases hx with hk|hk
 ·refine wpAny_storeName_local hk hn (λh' al hs=>?_) ag
  obtain⟨oL,_,_,ak,_⟩:=id hn;refine h _ ⟨I.ok,I.os,I.bare,⟨λb o e n hb hx=>?_,λb o e n hb hx=>?_,I.base.free,λb o e hx=>?_,I.base.tups,I.base.frzs,I.base.tbls⟩,⟨_,al,λj y v' e1 e2 e3=>?_⟩,λy c e=>?_,I.free,I.freeC,λp hp=>?_,aa ⟨oL,ak,I.free⟩ hs,by simpa using I.len⟩ ⟨_,hs,.inl rfl⟩
  ·exact(hs.2 b (zN (zK (zq e) I.ok.above))).trans (I.base.keep b o e n hb hx)
  ·obtain⟨sl,e1⟩:=I.base.slot b o e n hb hx
   exact⟨sl,(hs.2 b (zN (zK (zq e) I.ok.above))).trans e1⟩
  ·obtain⟨o',e1⟩:=I.base.there b o e hx
   exact⟨o',(hs.2 b (zN (zK (zq e) I.ok.above))).trans e1⟩
  ·by_cases hj:j=i
   ·subst hj
    rw[hi]at e1;cases e1;rw[zzo ae]at e2;cases e2;exact⟨u,r,.inl ⟨hk,by simp⟩⟩
   ·rw[zzI (Ne.symm hj)]at e2
    obtain⟨u',r',q⟩:=hl j y v' e1 e2 e3;refine⟨u',r',?_⟩;rcases q with⟨k,e⟩|⟨k,c,e,z⟩
    ·refine .inl ⟨k,?_⟩
     have:y≠x:=λe=>hj (Gh hN e1 (e▸hi));simp[this,e]
    ·exact .inr ⟨k,c,e,z.sameBut hs (ac y c e)⟩
  ·obtain⟨w',z⟩:=I.cell y c e
   exact⟨w',z.sameBut hs (ac y c e)⟩
  ·obtain⟨e,n,ne,nf,d⟩:=I.pin p hp
   exact⟨(hs.2 p.1 ne).trans e,n,ne,nf,d⟩
 ·have ad:X.fn x=true:=by
   rcases hf with z|z
   ·exact z
   ·rw[z]at hk;cases hk
  obtain⟨c,hc⟩:=I.ok.has x (.inl hk);obtain⟨w',z⟩:=I.cell x c hc;refine wpAny_storeName_cell I.ok.kind hk hc z (λh' ah hs=>?_);obtain⟨oc,af,aj⟩:=id z;refine h {s with heap:=h'} ⟨I.ok,I.os,I.bare,⟨λb o e n hb hx=>?_,λb o e n hb hx=>?_,I.base.free,λb o e hx=>?_,I.base.tups,I.base.frzs,I.base.tbls⟩,⟨m,hn.sameBut hs (Ne.symm (ac x c hc)),λj y v' e1 e2 e3=>?_⟩,λy c' e=>?_,I.free,I.freeC,λp hp=>?_,aa ⟨oc,af,I.freeC x c hc⟩ hs,by simpa using I.len⟩ ⟨c,hs,.inr hc⟩
  ·exact(hs.2 b (zN (zK (zq e) (I.ok.cab x c ad hc)))).trans (I.base.keep b o e n hb hx)
  ·obtain⟨sl,e1⟩:=I.base.slot b o e n hb hx
   exact⟨sl,(hs.2 b (zN (zK (zq e) (I.ok.cab x c ad hc)))).trans e1⟩
  ·obtain⟨o',e1⟩:=I.base.there b o e hx
   exact⟨o',(hs.2 b (zN (zK (zq e) (I.ok.cab x c ad hc)))).trans e1⟩
  ·by_cases hj:j=i
   ·subst hj
    rw[hi]at e1;cases e1;rw[zzo ae]at e2;cases e2;exact⟨u,r,.inr ⟨.inl hk,c,hc,ah⟩⟩
   ·rw[zzI (Ne.symm hj)]at e2
    obtain⟨u',r',q⟩:=hl j y v' e1 e2 e3;refine⟨u',r',?_⟩;rcases q with q|⟨k,c',e,z'⟩
    ·exact .inl q
    ·refine .inr ⟨k,c',e,z'.sameBut hs ?_⟩
     rintro rfl;exact hj (Gh hN e1 (I.ok.inj _ _ _ e hc▸hi))
  ·by_cases ai:c'=c
   ·subst ai;exact⟨_,ah⟩
   ·obtain⟨w2,z2⟩:=I.cell y c' e
    exact⟨w2,z2.sameBut hs ai⟩
  ·obtain⟨e,n,ne,nf,d⟩:=I.pin p hp
   refine⟨(hs.2 p.1 ?_).trans e,n,ne,nf,d⟩;intro q;rw[q,af]at e;have q':oc=p.2:=zf e;exact d w' (by rw[<-q'];exact aj)
def Gu{M:Model}{A:Around}{E:Value->Shared->Prop}{i:Nat}{x:Str}{v:V}{u:Value}{Q:Unit->Shared->Prop}(I:Inv X pins σ H s)(z:X.N.Nodup)(hi:X.N[i]? =some x)(q:Loc X.env.scope x)(r:RelV v u)
  (h:∀s',Inv X pins (σ.set i (some v)) H s'->Q () s') (hf:X.fn x=true\/X.env.scope.names.lookup x=some .local:=by walk_at "p"):wpAny M A (storeName X.env x u) Q E s:=
 TJ I z hi q r (λs' I' _=>h s' I') hf
def Inv.call'{s':Shared}{ch:List Addr}(I:Inv X pins σ H s)(z:s'.os=s.os)(u:Un (frs X.stack) ch H H' s.heap s'.heap)(hok:HOk X.prog X.w H' s'.heap)(hg:AllBare s'.gens)
  (q:∀b∈ch,(b∈X.ex\/X.s₀.heap.objs.size<=b)/\b≠X.env.locals/\(∀x c,X.env.cells.lookup x=some c->c≠b)/\∀p∈X.pn++pins,p.1≠b):Inv X pins σ H' s':=by
 obtain⟨h',g',d',t',o'⟩:=s';have e:o'=s.os:=z;subst e;exact I.call (g':=g') (t':=t') (d':=d') u hok hg q
end
abbrev XK:=Value->Option Addr->Hp->Prop
abbrev St:=List (Option V)
abbrev VK:=V->Hp->Prop
abbrev TE:=St->Hp->VK->Prop
abbrev TT:=St->Hp->(Bool->Hp->Prop)->Prop
abbrev TA:=St->Hp->(List V->Hp->Prop)->Prop
structure Ends where
 nx:St->Hp->Prop
 rt:VK
 bk:St->Hp->Prop:=λ_ _=>False
 ct:St->Hp->Prop:=λ_ _=>False
abbrev TS:=Ends->St->Hp->Prop
noncomputable def EP(X:Cx)(pins:List (Addr×Obj))(σ:St)(Q:VK)(u:Value)(s':Shared):Prop:=∃v H',Inv X pins σ H' s'/\RelV v u/\Q v H'
noncomputable def TP(X:Cx)(pins:List (Addr×Obj))(σ:St)(Q:Bool->Hp->Prop)(b:Bool)(s':Shared):Prop:=∃H',Inv X pins σ H' s'/\Q b H'
noncomputable def AP(X:Cx)(pins:List (Addr×Obj))(σ:St)(Q:List V->Hp->Prop)(us:List Value)(s':Shared):Prop:=∃vs H',Inv X pins σ H' s'/\Vals vs us/\Q vs H'
noncomputable def SP(X:Cx)(pins:List (Addr×Obj))(D:Ends)(f:Flow)(s':Shared):Prop:=
 match f with
 |.next=>∃σ' H',Inv X pins σ' H' s'/\D.nx σ' H'
 |.brk=>∃σ' H',Inv X pins σ' H' s'/\D.bk σ' H'
 |.cont=>∃σ' H',Inv X pins σ' H' s'/\D.ct σ' H'
 |.ret u=>∃v σ' H',Inv X pins σ' H' s'/\RelV v u/\D.rt v H'
noncomputable def PE(X:Cx)(e:Expr)(t:TE):Prop:=
 ∀(pins:List (Addr×Obj))(s:Shared)(σ:St)(H:Hp)(Q:VK),Inv X pins σ H s->t σ H Q->wpAny (model X.prog X.w) X.A (eval e X.env) (EP X pins σ Q) X.xe s
noncomputable def PT(X:Cx)(e:Expr)(t:TT):Prop:=
 ∀(pins:List (Addr×Obj))(s:Shared)(σ:St)(H:Hp)(Q:Bool->Hp->Prop),Inv X pins σ H s->t σ H Q->wpAny (model X.prog X.w) X.A (isTrue e X.env (eval e X.env)) (TP X pins σ Q) X.xe s
noncomputable def PW(X:Cx)(e:Expr)(t:TT):Prop:=
 ∀(whole:Sem Value)(pins:List (Addr×Obj))(s:Shared)(σ:St)(H:Hp)(Q:Bool->Hp->Prop),Inv X pins σ H s->t σ H Q->wpAny (model X.prog X.w) X.A (isTrue e X.env whole) (TP X pins σ Q) X.xe s
def PW.pt{X:Cx}{e:Expr}{t:TT}(h:PW X e t):PT X e t:=h _
noncomputable def PA(X:Cx)(es:List Expr)(t:TA):Prop:=
 ∀(pos:Pos)(pins:List (Addr×Obj))(s:Shared)(σ:St)(H:Hp)(Q:List V->Hp->Prop),Inv X pins σ H s->t σ H Q->wpAny (model X.prog X.w) X.A (spliced (backTo pos (starEach es X.env))) (AP X pins σ Q) X.xe s
noncomputable def PS(X:Cx)(st:Stmt)(t:TS):Prop:=
 ∀(pins:List (Addr×Obj))(s:Shared)(σ:St)(H:Hp)(D:Ends),Inv X pins σ H s->t D σ H->wpAny (model X.prog X.w) X.A (exec st X.env) (SP X pins D) X.xe s
noncomputable def PSs(X:Cx)(st:List Stmt)(t:TS):Prop:=
 ∀(pins:List (Addr×Obj))(s:Shared)(σ:St)(H:Hp)(D:Ends),Inv X pins σ H s->t D σ H->wpAny (model X.prog X.w) X.A (execs st X.env) (SP X pins D) X.xe s
def thn{α:Type}{t:Sem α}{Q Q':α->Shared->Prop}{M:Model}{A:Around}{E:Value->Shared->Prop}{s:Shared}(h:wpAny M A t Q E s)(q:∀a s,Q a s->Q' a s):wpAny M A t Q' E s:=zR h q λ_ _ x=>x
end L2
namespace L2
open PySem PySem.Spec PyProof.Rows
section
variable{X:Cx}
noncomputable def Ij(i:Nat):TE:=λσ H Q=>∃v,σ[i]? =some (some v)/\Q v H
noncomputable def tC(v:V):TE:=λ_ H Q=>Q v H
def Zo{i:Nat}{x:Str}{pos:Pos}(hN:X.N[i]? =some x)(hv:Vis X.env.scope x)(hd:(x==("__debug__" :Str))=false:=by decide) (hcd:(x==("__classdict__" :Str))=false:=by decide):PE X (.Name x pos) (Ij i):=by
 intro pins s σ H Q I h;obtain⟨v,e,h⟩:=h;obtain⟨m,hn,hl⟩:=I.loc;obtain⟨u,r,l⟩:=hl i x v hN e hv;have aa:EP X pins σ Q u s:=⟨v,H,I,r,h⟩;rcases l with⟨z,hm⟩|⟨z,c,hc,q⟩
 ·exact zz5 (wpAny_loadName_local I.ok.kind z hn hm aa) hd
 ·rcases z with z|z
  ·exact zz5 (wpAny_loadName_cell I.ok.kind z hc q aa) hd
  ·exact zz5 (wpAny_loadName_free I.ok.kind z hc q aa hcd) hd
def fL{i j pos}:PE X (.Constant (.int i) j pos) (tC (.int i)):=λ_ _ _ H _ I h=>wpAny_Constant_int ⟨.int i,H,I.tok _,⟨_,rfl⟩,h⟩
def nq{b j pos}:PE X (.Constant (.bool b) j pos) (tC (.bl b)):=λ_ _ _ H _ I h=>Constant_bool ⟨.bl b,H,I,rfl,h⟩
def vQ{j pos}:PE X (.Constant .none j pos) (tC .non):=λ_ _ _ H _ I h=>Constant_none ⟨.non,H,I,rfl,h⟩
def fW{x j pos}:PE X (.Constant (.str x) j pos) (tC (.str x)):=λ_ _ _ H _ I h=>Calls.Constant_str ⟨.str x,H,I.tok _,⟨_,rfl⟩,h⟩
noncomputable def Gl(X:Cx)(x:Str):Prop:=X.env.kindOf x=some .globalImplicit
def lQ{E:Value->Shared->Prop}{pins:List (Addr×Obj)}{s:Shared}{σ:St}{H:Hp}{x:Str}{u:Value}{pos:Pos}{Q:Value->Shared->Prop}(I:Inv X pins σ H s)(q:Gl X x)(hm:X.mg x=some u)(h:Q u s)
  (hd:(x==("__debug__" :Str))=false:=by decide):wpAny (model X.prog X.w) X.A (eval (.Name x pos) X.env) Q E s:=
 Calls.Name_function_global I.ok.kind q (Calls.loadGlobal_global (by rw[I.ok.glob];exact I.mod.glob.keeps I.bk) hm h) hd
def Ep{E:Value->Shared->Prop}{pins:List (Addr×Obj)}{s:Shared}{σ:St}{H:Hp}{x:Str}{u:Value}{pos:Pos}{Q:Value->Shared->Prop}(I:Inv X pins σ H s)(z:Gl X x)(hm:X.mg x=none)(q:bootBuiltins x=some u)(h:Q u s)
  (hn:x≠ "__name__" :=by decide) (hd:(x==("__debug__" :Str))=false:=by decide):wpAny (model X.prog X.w) X.A (eval (.Name x pos) X.env) Q E s:=by
 obtain⟨mb,h1,h2⟩:=I.mod.blt;exact Calls.Name_function_global I.ok.kind z (Calls.loadGlobal_builtin (by rw[I.ok.glob];exact I.mod.glob.keeps I.bk) hm (by rw[I.ok.blt];exact h1.keeps I.bk) ((h2 x hn).trans q) h) hd
def gP{x:Str}{v:V}{u:Value}{pos:Pos}(q:Gl X x)(hm:X.mg x=some u)(r:RelV v u)(hd:(x==("__debug__" :Str))=false:=by decide):PE X (.Name x pos) (tC v):=
 λ_ _ _ H _ I h=>lQ I q hm ⟨v,H,I,r,h⟩ hd
def Xv{x:Str}{v:V}{u:Value}{pos:Pos}(z:Gl X x)(hm:X.mg x=none)(q:bootBuiltins x=some u)(r:RelV v u)(hn:x≠ "__name__" :=by decide) (hd:(x==("__debug__" :Str))=false:=by decide):PE X (.Name x pos) (tC v):=
 λ_ _ _ H _ I h=>Ep I z hm q ⟨v,H,I,r,h⟩ hn hd
variable{a b:Expr}{ta tb:TE}{pos:Pos}
noncomputable def tB(t:TE):TT:=λσ H Q=>t σ H λx H1=>∃c,x=.bl c/\Q c H1
def Fg{e:Expr}{t:TE}(h:PE X e t)(he:∀z,isTrue e X.env z=(do let v<-z;standAt e.pos;holding [v] (truthy v)):=by intro _;rfl):PT X e (tB t):=by
 intro pins s σ H Q I hw;refine isTrue_plain (thn (h pins s σ H _ I hw) λv s1 ⟨x,H1,I1,r1,q1⟩=>?_) (he _);obtain⟨d,rfl,q⟩:=q1;cases r1;exact yM ⟨H1,I1,q⟩
variable{tA tB':TT}{rest:List Expr}
noncomputable def abD(t u:TT):TT:=λσ H Q=>t σ H λc H1=>if c=true then u σ H1 Q else Q false H1
noncomputable def tOr(t u:TT):TT:=λσ H Q=>t σ H λc H1=>if c=true then Q true H1 else u σ H1 Q
noncomputable def abV(t:TT):TT:=λσ H Q=>t σ H λc H1=>Q (!c) H1
def GD(ha:PT X a tA):PW X (.BoolOp .And [a] pos) tA:=by
 intro z pins s σ H Q I h;refine isTrue_and (thn (ha pins s σ H Q I h) λc q e=>?_)
 cases c with
 |true=>exact isTrue_and_nil e
 |false=>exact e
def wI(ha:PT X a tA):PW X (.BoolOp .Or [a] pos) tA:=by
 intro z pins s σ H Q I h;refine isTrue_or (thn (ha pins s σ H Q I h) λc q e=>?_)
 cases c with
 |false=>exact isTrue_or_nil e
 |true=>exact e
def HD(ha:PT X a tA)(hb:PW X (.BoolOp .And (b::rest) pos) tB'):PW X (.BoolOp .And (a::b::rest) pos) (abD tA tB'):=by
 intro wh pins s σ H Q I h;refine isTrue_and (thn (ha pins s σ H _ I h) λc s1 ⟨H1,z,q⟩=>?_)
 cases c with
 |true=>exact hb wh pins s1 σ H1 Q z q
 |false=>exact⟨H1,z,q⟩
def Cg(ha:PT X a tA)(hb:PW X (.BoolOp .Or (b::rest) pos) tB'):PW X (.BoolOp .Or (a::b::rest) pos) (tOr tA tB'):=by
 intro wh pins s σ H Q I h;refine isTrue_or (thn (ha pins s σ H _ I h) λc s1 ⟨H1,z,q⟩=>?_)
 cases c with
 |true=>exact⟨H1,z,q⟩
 |false=>exact hb wh pins s1 σ H1 Q z q
def Nh(ha:PT X a tA):PT X (.UnaryOp .Not a pos) (abV tA):=by
 intro pins s σ H Q I h;exact isTrue_not (ha pins s σ H (λc H1=>Q (!c) H1) I h)
noncomputable def Ze(ta tb:TE):TE:=λσ H Q=>ta σ H λx H1=>∃c,x=.bl c/\if c=true then tb σ H1 Q else Q (.bl false) H1
noncomputable def YK(ta:TE):TE:=λσ H Q=>ta σ H λx H1=>∃c,x=.bl c/\Q (.bl (!c)) H1
def VJ{op}{t:TE}(h:PE X a t):PE X (.BoolOp op [a] pos) t:=λpins s σ H Q I q=>BoolOp_one (h pins s σ H Q I q)
def Wc(ha:PE X a ta)(hb:PE X (.BoolOp .And (b::rest) pos) tb):PE X (.BoolOp .And (a::b::rest) pos) (Ze ta tb):=by
 intro pins s σ H Q I h;refine BoolOp_and (thn (ha pins s σ H _ I h) λv s1 ⟨x,H1,z,r1,q⟩=>?_);obtain⟨c,rfl,q⟩:=q;cases r1;refine yM ?_
 cases c with
 |true=>exact hb pins s1 σ H1 Q z q
 |false=>exact⟨.bl false,H1,z,rfl,q⟩
def aaE(ha:PE X a ta):PE X (.UnaryOp .Not a pos) (YK ta):=by
 intro pins s σ H Q I h;refine UnaryOp_ (thn (ha pins s σ H _ I h) λv s1 ⟨x,H1,I1,z,q⟩=>?_);obtain⟨c,rfl,q⟩:=q;cases z;exact not_of (yM ⟨.bl (!c),H1,I1,rfl,q⟩)
noncomputable def tIf(t:TT)(ta tb:TE):TE:=λσ H Q=>t σ H λc H1=>if c=true then ta σ H1 Q else tb σ H1 Q
def BV{c:Expr}(hc:PT X c tA)(ha:PE X a ta)(hb:PE X b tb):PE X (.IfExp c a b pos) (tIf tA ta tb):=by
 intro pins s σ H Q I h;refine wpAny_IfExp (thn (hc pins s σ H _ I h) λd s1 ⟨H1,z,q⟩=>?_)
 cases d with
 |true=>exact ha pins s1 σ H1 Q z q
 |false=>exact hb pins s1 σ H1 Q z q
end
end L2
namespace L2
open PySem PySem.Spec PyProof.Rows
noncomputable def SqL(K:Fg_)(H:Hp)(a:Addr)(xs:List V):Prop:=
 Rd H a (.lst xs)\/
  ∃(o:Obj)(its:Array Value)(n:Nat),K.lookup a=some o/\o.cls=.type "list" /\o.dict=none/\o.data=.seq its n/\its.size<=sizeLine/\Vals xs its.toList
noncomputable def SqT(K:Fg_)(H:Hp)(a:Addr)(xs:List V):Prop:=
 Rd H a (.tup xs)\/
  ∃(o:Obj)(its:Array Value)(n:Nat),K.lookup a=some o/\o.cls=.type "tuple" /\o.data=.seq its n/\its.size<=sizeLine/\Vals xs its.toList
noncomputable def ace:Value->Option V
 |.none=>some .non
 |.bool b=>some (.bl b)
 |.int i _=>some (.int i)
 |.str x _=>some (.str x)
 |.bytes b _=>some (.byt b)
 |.float b _=>some (.flt b)
 |.ref a=>some (.ref a)
 |.type n=>some (.ty n)
 |_=>none
def RelV.abs{x:V}{u:Value}(r:RelV x u):ace u=some x:=by
 cases x with
 |non=>cases r;rfl
 |bl _=>cases r;rfl
 |int _=>obtain⟨t,rfl⟩:=r;rfl
 |str _=>obtain⟨t,rfl⟩:=r;rfl
 |byt _=>obtain⟨t,rfl⟩:=r;rfl
 |flt _=>obtain⟨t,rfl⟩:=r;rfl
 |ref _=>cases r;rfl
 |ty _=>cases r;rfl
def RelV.inj{x y:V}{u:Value}(r:RelV x u)(q:RelV y u):x=y:=zf (r.abs.symm.trans q.abs)
theorem Vals.inj:∀{xs ys:List V}{us:List Value},Vals xs us->Vals ys us->xs=ys
 |_,_,_,.nil,.nil=>rfl
 |_,_,_,.cons r t,.cons r' t'=>by rw[r.inj r',Vals.inj t t']
section
variable{X:Cx}{pins:List (Addr×Obj)}{σ:St}{H:Hp}{s:Shared}{a:Addr}{xs ys:List V}
def fU{K:Fg_}(h:H a=some (.lst xs)):SqL K H a xs:=.inl (.inl h)
def jg{K:Fg_}(h:H a=some (.tup xs)):SqT K H a xs:=.inl (.inl h)
def Inv.list(I:Inv X pins σ H s)(h:SqL X.K H a xs):∃its:List Value,Vals xs its/\PlainL s.heap a its.toArray/\xs.length<=sizeLine:=by
 rcases h with h|⟨o,its,n,q,hc,hd,hs,hz,r⟩
 ·obtain⟨z,its,n,r,e⟩:=h.ok I.hok
  exact⟨its,r,⟨_,n,e,rfl,rfl,rfl⟩,z⟩
 ·refine⟨its.toList,r,⟨o,n,I.kIn a o q,hc,hd,by simpa using hs⟩,?_⟩
  have e:=r.length;simp only[z7]at e;omega
def Inv.tuple(I:Inv X pins σ H s)(h:SqT X.K H a xs):∃its:List Value,Vals xs its/\IsTup s.heap a its.toArray/\xs.length<=sizeLine:=by
 rcases h with h|⟨o,its,n,q,hc,hs,hz,r⟩
 ·obtain⟨z,its,r,p⟩:=h.ok I.hok
  exact⟨its,r,p,z⟩
 ·refine⟨its.toList,r,⟨o,I.kIn a o q,hc,n,by simpa using hs⟩,?_⟩
  have e:=r.length;simp only[z7]at e;omega
def Inv.list_inj(I:Inv X pins σ H s)(h:SqL X.K H a xs)(h':SqL X.K H a ys):xs=ys:=by
 obtain⟨its,r,⟨o,n,e,_,_,d⟩,_⟩:=I.list h;obtain⟨its',z,⟨o',n',q,_,_,d'⟩,_⟩:=I.list h';rw[e]at q;cases q;rw[d]at d';injection d' with d1 _
 have:its=its':=by simpa using congrArg Array.toList d1
 subst this;exact r.inj z
def Inv.tuple_inj(I:Inv X pins σ H s)(h:SqT X.K H a xs)(h':SqT X.K H a ys):xs=ys:=by
 obtain⟨its,r,⟨o,e,_,n,d⟩,_⟩:=I.tuple h;obtain⟨its',z,⟨o',q,_,n',d'⟩,_⟩:=I.tuple h';rw[e]at q;cases q;rw[d]at d';injection d' with d1 _
 have:its=its':=by simpa using congrArg Array.toList d1
 subst this;exact r.inj z
end
abbrev Cx.wish(X:Cx)(E:Value->Shared->Prop):Cx:={X with xe:=E}
abbrev Cx.nox(X:Cx):Cx:=X.wish λ_ _=>False
theorem Cx.Ok.wish{X:Cx}(ok:X.Ok)(E:Value->Shared->Prop):(X.wish E).Ok:=
 ⟨ok.mod,ok.kind,ok.glob,ok.blt,ok.above,ok.inj,ok.has,ok.cab,ok.hd,ok.frames,ok.stk,ok.exf,ok.bs,ok.bsz,ok.noex,ok.exfs,ok.funs,ok.frf⟩
def Cx.Ok.unwish{X:Cx}{E:Value->Shared->Prop}(ok:(X.wish E).Ok):X.Ok:=
 ⟨ok.mod,ok.kind,ok.glob,ok.blt,ok.above,ok.inj,ok.has,ok.cab,ok.hd,ok.frames,ok.stk,ok.exf,ok.bs,ok.bsz,ok.noex,ok.exfs,ok.funs,ok.frf⟩
section
variable{X:Cx}{pins:List (Addr×Obj)}{σ:St}{H:Hp}{s:Shared}{E:Value->Shared->Prop}
theorem Inv.wish(I:Inv X pins σ H s)(E:Value->Shared->Prop):Inv (X.wish E) pins σ H s:=⟨I.ok.wish E,I.os,I.bare,I.base,I.loc,I.cell,I.free,I.freeC,I.pin,I.hok,I.len⟩
theorem Inv.unwish(I:Inv (X.wish E) pins σ H s):Inv X pins σ H s:=⟨I.ok.unwish,I.os,I.bare,I.base,I.loc,I.cell,I.free,I.freeC,I.pin,I.hok,I.len⟩
theorem SP.unwish{D:Ends}{f:Flow}{s':Shared}(h:SP (X.wish E) pins D f s'):SP X pins D f s':=by
 cases f with
 |next=>obtain⟨z,H',I,q⟩:=h;exact⟨z,H',I.unwish,q⟩
 |brk=>obtain⟨z,H',I,q⟩:=h;exact⟨z,H',I.unwish,q⟩
 |cont=>obtain⟨z,H',I,q⟩:=h;exact⟨z,H',I.unwish,q⟩
 |ret u=>obtain⟨v,z,H',I,r,q⟩:=h;exact⟨v,z,H',I.unwish,r,q⟩
theorem PSs.nox{st:List Stmt}{t:TS}(h:PSs X.nox st t):PSs X st t:=λpins s σ H D I hw=>
 zR (h pins s σ H D (I.wish _) hw) (λ_ _ q=>q.unwish) λ_ _ z=>False.elim z
end
section
variable{X:Cx}{st:Stmt}{rest:List Stmt}{t u:TS}{e:Expr}{te:TE}{pos:Pos}
noncomputable def aac:TS:=λD σ H=>D.nx σ H
noncomputable def Zv(t u:TS):TS:=λD σ H=>t {D with nx:=u D} σ H
def gw:PSs X [] aac:=λ_ _ σ H _ I h=>zzj ⟨σ,H,I,h⟩
def fJ(h1:PS X st t)(h2:PSs X rest u):PSs X (st::rest) (Zv t u):=by
 intro pins s σ H D I h;refine zze (thn (h1 pins s σ H {D with nx:=u D} I h) λf z q=>?_)
 cases f with
 |next=>
  obtain⟨σ',H',I',q⟩:=q;exact h2 pins z σ' H' D I' q
 |ret v=>exact q
 |brk=>exact q
 |cont=>exact q
def fQ(h1:PS X st t):PSs X [st] t:=by
 intro pins s σ H D I h;refine zze (thn (h1 pins s σ H D I h) λf z q=>?_)
 cases f with
 |next=>exact zzj q
 |ret v=>exact q
 |brk=>exact q
 |cont=>exact q
def Inv.quiet{pins:List (Addr×Obj)}{σ:St}{H:Hp}{s:Shared}(I:Inv X pins σ H s):interactive X.env=false:=by simp[interactive,I.ok.kind]
noncomputable def YQ(te:TE):TS:=λD σ H=>te σ H λ_ H1=>D.nx σ H1
def gK(he:PE X e te)(z:swapsWith e none pos.line X.env=pure false:=by rfl):PS X (.Expr e pos) (YQ te):=by
 intro pins s σ H D I h;exact wpAny_Expr_any (thn (he pins s σ H _ I h) λv s1 ⟨x,H1,I1,r1,q⟩=>⟨σ,H1,I1,q⟩) I.quiet z
noncomputable def abG(te:TE):TS:=λD σ H=>te σ H D.rt
def gn(z:PE X e te):PS X (.Return (some e) pos) (abG te):=by
 intro pins s σ H D I h;exact wpAny_Return_some (thn (z pins s σ H _ I h) λv s1 ⟨x,H1,I1,r1,q⟩=>⟨x,σ,H1,I1,r1,q⟩)
noncomputable def YW:TS:=λD _ H=>D.rt .non H
def Xy:PS X (.Return none pos) YW:=λ_ _ σ H _ I h=>wpAny_Return_none ⟨.non,σ,H,I,rfl,h⟩
noncomputable def aaJ(c:TT)(t u:TS):TS:=λD σ H=>c σ H λb H1=>if b=true then t D σ H1 else u D σ H1
def iM{c:Expr}{a b:List Stmt}{tc:TT}(hc:PT X c tc)(ha:PSs X a t)(hb:PSs X b u):PS X (.If c a b pos) (aaJ tc t u):=by
 intro pins s σ H D I h;refine wpAny_If (thn (hc pins s σ H _ I h) λd s1 ⟨H1,z,q⟩=>?_)
 cases d with
 |true=>exact ha pins s1 σ H1 D z q
 |false=>exact hb pins s1 σ H1 D z q
end
abbrev TG:=V->St->Hp->(St->Hp->Prop)->Prop
abbrev TGs:=List V->St->Hp->(St->Hp->Prop)->Prop
noncomputable def PG(X:Cx)(target:Expr)(t:TG):Prop:=
 ∀(pins:List (Addr×Obj)) (s:Shared) (σ:St) (H:Hp) (v:V) (u:Value) (Q:St->Hp->Prop),Inv X pins σ H s->RelV v u->t v σ H Q->
  wpAny (model X.prog X.w) X.A (assign target X.env u) (λ_ s'=>∃σ' H',Inv X pins σ' H' s'/\Q σ' H') X.xe s
noncomputable def PGs(X:Cx)(ts:List Expr)(t:TGs):Prop:=
 ∀(pins:List (Addr×Obj)) (s:Shared) (σ:St) (H:Hp) (vs:List V) (us:List Value) (Q:St->Hp->Prop),Inv X pins σ H s->Vals vs us->t vs σ H Q->
  wpAny (model X.prog X.w) X.A (assignInOrder ((assignEach ts X.env).map (·.2)) us) (λ_ s'=>∃σ' H',Inv X pins σ' H' s'/\Q σ' H') X.xe s
section
variable{X:Cx}{pos:Pos}
noncomputable def KC(i:Nat):TG:=λv σ H Q=>Q (σ.set i (some v)) H
def gJ{i:Nat}{x:Str}(z:X.N.Nodup)(hi:X.N[i]? =some x)(q:Loc X.env.scope x)(hf:X.fn x=true\/X.env.scope.names.lookup x=some .local:=by walk_at "p"):PG X (.Name x pos) (KC i):=by
 intro pins s σ H v u Q I r h;exact wpAny_assign_Name (Gu I z hi q r (λs' I'=>⟨_,H,I',h⟩) hf)
noncomputable def abX:TGs:=λvs σ H Q=>vs=[]/\Q σ H
noncomputable def Zw(t:TG)(u:TGs):TGs:=λvs σ H Q=>∃v r,vs=v::r/\t v σ H λσ' H'=>u r σ' H' Q
def Ay:PGs X [] abX:=by
 intro pins s σ H vs us Q I r h;obtain⟨e,h⟩:=h;subst e;cases r;exact assignInOrder_nil ⟨σ,H,I,h⟩
def iK{e:Expr}{es:List Expr}{t:TG}{u:TGs}(h1:PG X e t)(h2:PGs X es u)
  (hs:(assignEach (e::es) X.env).map (·.2)=assign e X.env::(assignEach es X.env).map (·.2):=by rfl):PGs X (e::es) (Zw t u):=by
 intro pins s σ H vs us Q I r h;obtain⟨v,vr,q,h⟩:=h;subst q
 cases r with
 |cons r rr=>
  rw[hs];refine assignInOrder_cons (thn (h1 pins s σ H _ _ _ I r h) λ_ s1 ⟨σ1,H1,I1,z⟩=>?_);exact h2 pins s1 σ1 H1 _ _ Q I1 rr z
noncomputable def abj(K:Fg_)(n:Nat)(t:TGs):TG:=λv σ H Q=>∃a xs,v=.ref a/\SqT K H a xs/\xs.length=n/\t xs σ H Q
def ZK{es:List Expr}{k:Nat}{t:TGs}{n:Nat}(hc:X.calm=true)(h:PGs X es t)
  (hn:(assignEach es X.env).length=n:=by rfl) (hst:(assignEach es X.env).findIdx? (·.1)=none:=by rfl):PG X (.Tuple es k pos) (abj X.K n t):=by
 intro pins s σ H v u Q I r q;obtain⟨a,xs,e1,hq,hl,q⟩:=q;subst e1;cases r;obtain⟨its,z,ht,hz⟩:=I.tuple hq;refine assign_Tuple_tuple (I.ok.hd hc) ht (by simp[hn,<-hl,z.length]) hst λh' hx=>?_;have I1:Inv X pins σ H {s with heap:=h'}:=I.kept (t':=s.toks) λb o e=>hx b o (zN (zq e)) e;exact h pins _ σ H xs _ Q I1 (by simpa using z) q
noncomputable def abh(te:TE)(g:TG):TS:=λD σ H=>te σ H λx H1=>g x σ H1 D.nx
def Wy{tg e:Expr}{te:TE}{g:TG}(he:PE X e te)(z:PG X tg g)(hs:swapsWithSole [tg] e pos.line X.env=pure false:=by rfl)(hw:swappedStores [tg] e X.env=pure none:=by rfl)
  (h1:(assignEach [tg] X.env).map (·.2)=[assign tg X.env]:=by rfl):PS X (.Assign [tg] e pos) (abh te g):=by
 intro pins s σ H D I h;refine wpAny_Assign_stores (thn (he pins s σ H _ I h) λv s1 ⟨x,H1,I1,r1,q1⟩=>?_) hs hw;rw[h1];exact thn (z pins s1 σ H1 x v _ I1 r1 q1) λ_ s2 q=>q
def gm{i:Nat}{x:Str}{e:Expr}{te:TE}{pos':Pos}(q:X.N.Nodup)(hi:X.N[i]? =some x)(z:Loc X.env.scope x)(he:PE X e te)(hs:swapsWith e (some (.Name x pos')) pos.line X.env=pure false:=by rfl)(hf:X.fn x=true\/X.env.scope.names.lookup x=some .local:=by walk_at "p"):
  PS X (.Assign [.Name x pos'] e pos) (abh te (KC i)):=by
 intro pins s σ H D I h;refine wpAny_Assign_Name (thn (he pins s σ H _ I h) λv s1 ⟨y,H1,I1,r1,q1⟩=>?_) hs;exact Gu I1 q hi z r1 (λs2 I2=>⟨_,H1,I2,q1⟩) hf
end
structure It where
 go:Nat->Hp->Prop
 yld:Nat->Hp->V->Hp->Prop
 stop:Nat->Hp->Prop
noncomputable def Qm(X:Cx)(pins:List (Addr×Obj))(H:Hp)(b:Addr):Prop:=
 H b=none/\b≠X.env.locals/\b∉X.fs/\(b∈X.ex\/X.s₀.heap.objs.size<=b)/\(∀x c,X.env.cells.lookup x=some c->c≠b)/\∀p∈X.pn++pins,p.1≠b
def Inv.fpOk{X:Cx}{pins:List (Addr×Obj)}{σ:St}{H H':Hp}{s:Shared}{b:Addr}(I:Inv X pins σ H s)(hb:s.heap.objs.size<=b)(hn:H' b=none):Qm X pins H' b:=by
 refine⟨hn,yye (zK I.lt hb),I.nofs hb,.inr (zQ I.sz hb),λx c e z=>?_,λp hp z=>?_⟩
 ·obtain⟨v,q⟩:=I.cell x c e
  exact absurd (zK q.lt (by rw[z];exact hb)) (yj _)
 ·exact absurd (zK (zq (I.pin p hp).1) (by rw[z];exact hb)) (yj _)
structure Turn(P:Program)(w:World)(K:Fg_)(tg:Expr)(J:It)(fp:List Addr)(it:Addr)(tn:Nat->Heap->Prop):Prop where
 mem:it∈fp
 obj:∀i h,tn i h->∀b∈fp,∃o,h.get? b=some o/\∀v,o.data≠.cell v
 keep:∀i h h',tn i h->(∀b∈fp,∀o,h.get? b=some o->h'.get? b=some o)->tn i h'
 item:∀(X:Cx),X.prog=P->X.w=w->X.K=K->X.calm=true->∀(i:Nat)(pins:List (Addr×Obj))(s:Shared)(σ:St)(H:Hp)(E:Value->Shared->Prop),Inv X pins σ H s->(∀b∈fp,Qm X pins H b)->tn i s.heap->J.go i H->
  wpAny (model P w) X.A (pyNext (.ref it)) (λr s1=>∃u,r=some u/\
   wpAny (model P w) X.A (letOwnedTupleGo tg (.ref it) u) (λ_ s2=>∃x H',Inv X pins σ H' s2/\RelV x u/\J.yld i H x H'/\tn (i+1) s2.heap/\∀b∈fp,H' b=none) E s1) E s
 done:∀(X:Cx),X.prog=P->X.w=w->X.K=K->X.calm=true->∀(i:Nat)(pins:List (Addr×Obj))(s:Shared)(σ:St)(H:Hp)(E:Value->Shared->Prop),Inv X pins σ H s->(∀b∈fp,Qm X pins H b)->tn i s.heap->J.stop i H->
  wpAny (model P w) X.A (pyNext (.ref it)) (λr s1=>r=none/\Inv X pins σ H s1) E s
 self:∀(A:Around)(i:Nat)(s:Shared)(Q:Value->Shared->Prop)(E:Value->Shared->Prop),tn i s.heap->Q (.ref it) s->wpAny (model P w) A (pyIter (.ref it)) Q E s
abbrev TI:=St->Hp->(It->Hp->Prop)->Prop
noncomputable def PIE(X:Cx)(pins:List (Addr×Obj))(σ:St)(tg:Expr)(R:It->Hp->Prop)(itv:Value)(s2:Shared):Prop:=
 ∃(it:Addr)(fp:List Addr)(tn:Nat->Heap->Prop)(J:It)(H':Hp),itv=.ref it/\Inv X pins σ H' s2/\Turn X.prog X.w X.K tg J fp it tn/\tn 0 s2.heap/\(∀b∈fp,Qm X pins H' b)/\R J H'
noncomputable def PI(X:Cx)(tg iter:Expr)(wi:TI):Prop:=
 ∀(pins:List (Addr×Obj)) (s:Shared) (σ:St) (H:Hp) (R:It->Hp->Prop),Inv X pins σ H s->wi σ H R->
  wpAny (model X.prog X.w) X.A (eval iter X.env) (λv s1=>wpAny (model X.prog X.w) X.A (pyIter v) (PIE X pins σ tg R) X.xe s1) X.xe s
def PX{M:Model}{A:Around}{E:Value->Shared->Prop}{s:Shared}{tg:Expr}{it:Addr}{u:Value}{o:Obj}{n:String}{vs:Array Value}{Q:Unit->Shared->Prop}(z:s.heap.get? it=some o)(hc:o.cls=.type n)(hd:o.data=.fields vs)
  (hn:["enumerate", "zip", "dict_itemiterator", "dict_reverseitemiterator", "odict_iterator", "itertools.zip_longest", "itertools.pairwise"].contains n=false) (q:Q () s):wpAny M A (letOwnedTupleGo tg (.ref it) u) Q E s:=by
 unfold letOwnedTupleGo
 cases tg<;>first
  |exact zn q
  | (cases u<;>first
    |exact zn q
    | (refine ze (wpAny_load z ?_)
       rw[hc,hd];show wpAny M A (if(["enumerate", "zip", "dict_itemiterator", "dict_reverseitemiterator", "odict_iterator", "itertools.zip_longest", "itertools.pairwise"].contains n && vs[0]? ==some (rawInt _))=true then _ else _) Q E s;rw[zo (by intro h;rw[hn,Bool.false_and]at h;cases h)];exact zn q))
noncomputable def Itl(K:Fg_)(a:Addr):It:=
 ⟨λi H=>∃xs x,SqL K H a xs/\xs[i]? =some x,λi H x H'=>H'=H/\∀xs,SqL K H a xs->xs[i]? =some x,λi H=>∃xs,SqL K H a xs/\xs.length<=i⟩
noncomputable def Itt(K:Fg_)(a:Addr):It:=
 ⟨λi H=>∃xs x,SqT K H a xs/\xs[i]? =some x,λi H x H'=>H'=H/\∀xs,SqT K H a xs->xs[i]? =some x,λi H=>∃xs,SqT K H a xs/\xs.length<=i⟩
noncomputable def Itr(lo:Int)(n:Nat):It:=⟨λi _=>i<n,λi H x H'=>H'=H/\x=.int (lo+i),λi _=>n<=i⟩
def QH{P:Program}{w:World}{K:Fg_}{tg:Expr}(a it:Addr):Turn P w K tg (Itl K a) [it] it (λi h=>h.IsListIter it a i) where
 mem:=by simp
 obj:=λi h st b q=>by
  have e:b=it:=by simpa using q
  subst e;obtain⟨o,e,c,d⟩:=st;exact⟨o,e,λv z=>by rw[d]at z;cases z⟩
 keep:=λi h h' st k=>st.at λo e=>k it (by simp) o e
 item:=by
  intro X hP hw hK hc i pins s σ H E I hf st hg;subst hP hw hK;obtain⟨xs,x,hq,hx⟩:=hg;obtain⟨its,rv,p,hz⟩:=I.list hq;obtain⟨u,hu,ru⟩:=rv.get hx;obtain⟨f0,f1,f2,f3,f4,f5⟩:=hf it (by simp);refine wpAny_pyNext_list_item st p.isList (x:=u) (by simpa using hu) λh' aa sb=>?_;have I1:Inv X pins σ H {s with heap:=h'}:=I.turned (t':=s.toks) (λb o q e=>(sb.2 b q).trans e) f0 f1 f3 f4 f5;obtain⟨o,e,c,d⟩:=id aa;exact⟨u,rfl,PX (s:={s with heap:=h'}) e c d (by decide) ⟨x,H,I1,ru,⟨rfl,λys hy=>by rw[I.list_inj hy hq];exact hx⟩,aa,λb q=>(hf b q).1⟩⟩
 done:=by
  intro X hP hw hK hc i pins s σ H E I hf st hg;subst hP hw hK;obtain⟨xs,hq,hx⟩:=hg;obtain⟨its,rv,p,hz⟩:=I.list hq;obtain⟨f0,f1,f2,f3,f4,f5⟩:=hf it (by simp);have hl:=rv.length;exact wpAny_pyNext_list_end (I.ok.hd hc) st p.isList (by simp;omega) λh' eb=>⟨rfl,I.turned (t':=s.toks) (λb o q e=>eb b o q e) f0 f1 f3 f4 f5⟩
 self:=λ_ _ _ _ _ st h=>wpAny_pyIter_listiter st h
def NK{P:Program}{w:World}{K:Fg_}{tg:Expr}(a it:Addr):Turn P w K tg (Itt K a) [it] it (λi h=>h.IsTupleIter it a i) where
 mem:=by simp
 obj:=λi h st b q=>by
  have e:b=it:=by simpa using q
  subst e;obtain⟨o,e,c,d⟩:=st;exact⟨o,e,λv z=>by rw[d]at z;cases z⟩
 keep:=λi h h' st k=>st.at λo e=>k it (by simp) o e
 item:=by
  intro X hP hw hK hc i pins s σ H E I hf st hg;subst hP hw hK;obtain⟨xs,x,hq,hx⟩:=hg;obtain⟨its,rv,p,hz⟩:=I.tuple hq;obtain⟨u,hu,ru⟩:=rv.get hx;obtain⟨f0,f1,f2,f3,f4,f5⟩:=hf it (by simp);refine wpAny_pyNext_tuple_item st (show s.heap.IsTuple a its.toArray from p) (x:=u) (by simpa using hu) λh' aa sb=>?_;have I1:Inv X pins σ H {s with heap:=h'}:=I.turned (t':=s.toks) (λb o q e=>(sb.2 b q).trans e) f0 f1 f3 f4 f5;obtain⟨o,e,c,d⟩:=id aa;exact⟨u,rfl,PX (s:={s with heap:=h'}) e c d (by decide) ⟨x,H,I1,ru,⟨rfl,λys hy=>by rw[I.tuple_inj hy hq];exact hx⟩,aa,λb q=>(hf b q).1⟩⟩
 done:=by
  intro X hP hw hK hc i pins s σ H E I hf st hg;subst hP hw hK;obtain⟨xs,hq,hx⟩:=hg;obtain⟨its,rv,p,hz⟩:=I.tuple hq;obtain⟨f0,f1,f2,f3,f4,f5⟩:=hf it (by simp);have hl:=rv.length;exact wpAny_pyNext_tuple_end (I.ok.hd hc) st (show s.heap.IsTuple a its.toArray from p) (by simp;omega) λh' eb=>⟨rfl,I.turned (t':=s.toks) (λb o q e=>eb b o q e) f0 f1 f3 f4 f5⟩
 self:=λ_ _ _ _ _ st h=>wpAny_pyIter_tupleiter st h
def Nv{P:Program}{w:World}{K:Fg_}{tg:Expr}(it:Addr)(lo:Int)(n:Nat):Turn P w K tg (Itr lo n) [it] it (λi h=>IsRangeIter h it (lo+(i:Nat)*1) ((n:Int) - (i:Nat)) 1) where
 mem:=by simp
 obj:=λi h st b q=>by
  have e:b=it:=by simpa using q
  subst e
  exact ⟨_,st,λv z=>by
   have z':Data.fields _=Data.cell v:=z;cases z'⟩
 keep:=λi h h' st k=>k it (by simp) _ st
 item:=by
  intro X hP hw hK hc i pins s σ H E I hf st hg;subst hP hw hK;obtain⟨f0,f1,f2,f3,f4,f5⟩:=hf it (by simp);have W:=Walks.range (prog:=X.prog) (w:=X.w) (I.ok.hd hc) it lo 1 n;refine W.item i s _ _ hg st λv h' tk hv aa kk=>?_;obtain⟨t,rfl⟩:=hv;have I1:Inv X pins σ H {s with heap:=h',toks:=tk}:=I.turned (λb o q e=>kk b o (by simpa using q) e) f0 f1 f3 f4 f5;refine⟨_,rfl,PX (s:={s with heap:=h',toks:=tk}) (n:= "range_iterator") aa rfl rfl (by decide) ⟨.int (lo+i),H,I1,⟨t,?_⟩,⟨rfl,rfl⟩,aa,λb q=>(hf b q).1⟩⟩;rw[Int.mul_one]
 done:=by
  intro X hP hw hK hc i pins s σ H E I hf st hg;subst hP hw hK;obtain⟨f0,f1,f2,f3,f4,f5⟩:=hf it (by simp);exact wpAny_pyNext_range_end (I.ok.hd hc) st (by have:n<=i:=hg;omega) λh' eb=>⟨rfl,I.turned (t':=s.toks) (λb o q e=>eb b o q e) f0 f1 f3 f4 f5⟩
 self:=λ_ _ _ _ _ st h=>wpAny_pyIter_rangeiter st h
end L2
namespace L2
open PySem PySem.Spec PyProof.Rows
section
variable{X:Cx}{tg:Expr}
noncomputable def RW(K:Fg_)(tl:TE):TI:=λσ H R=>tl σ H λx H1=>∃a,x=.ref a/\(∃xs,SqL K H1 a xs)/\R (Itl K a) H1
noncomputable def abv(K:Fg_)(tl:TE):TI:=λσ H R=>tl σ H λx H1=>∃a,x=.ref a/\(∃xs,SqT K H1 a xs)/\R (Itt K a) H1
def Yk{l:Expr}{tl:TE}(hl:PE X l tl):PI X tg l (RW X.K tl):=by
 intro pins s σ H R I h;refine thn (hl pins s σ H _ I h) λv s1 ⟨x,H1,z,r1,q1⟩=>?_;obtain⟨a,e,⟨xs,hq⟩,q⟩:=q1;subst e;cases r1;obtain⟨its,rv,p,hz⟩:=z.list hq;refine yN p.isList ?_;refine⟨s1.heap.objs.size,[s1.heap.objs.size],_,_,H1,rfl,z.kept (t':=s1.toks) λb o e=>zd _ e,QH a _,⟨_,zP _ rfl,rfl,rfl⟩,λb hb=>?_,q⟩;have e:b=s1.heap.objs.size:=by simpa using hb
 subst e;exact z.fpOk (zj _) (z.hok.fresh (zj _))
def aad{l:Expr}{tl:TE}(hl:PE X l tl):PI X tg l (abv X.K tl):=by
 intro pins s σ H R I h;refine thn (hl pins s σ H _ I h) λv z ⟨x,H1,I1,r1,q1⟩=>?_;obtain⟨a,e,⟨xs,hq⟩,q⟩:=q1;subst e;cases r1;obtain⟨its,rv,p,hz⟩:=I1.tuple hq;refine wpAny_pyIter_tuple (show z.heap.IsTuple a its.toArray from p) ?_;refine⟨z.heap.objs.size,[z.heap.objs.size],_,_,H1,rfl,I1.kept (t':=z.toks) λb o e=>zd _ e,NK a _,⟨_,zP _ rfl,rfl,rfl⟩,λb hb=>?_,q⟩;have e:b=z.heap.objs.size:=by simpa using hb
 subst e;exact I1.fpOk (zj _) (I1.hok.fresh (zj _))
def Vv{pins:List (Addr×Obj)}{σ:St}{H:Hp}{s:Shared}{R:It->Hp->Prop}{E:Value->Shared->Prop}{lo hi:Int}{t u v:Tok}{tk:Nat}(I:Inv X pins σ H s)(h1: -(2^62)<=lo)(h2:lo<2^62)(h3: -(2^62)<=hi)(h4:hi<2^62)
  (q:R (Itr lo (hi - lo).toNat) H):wpAny (model X.prog X.w) X.A (pyIter (.ref s.heap.objs.size)) (PIE X pins σ tg R) E {s with heap:=s.heap.push {cls:=.type "range",data:=.fields #[.int lo t,.int hi u,.int 1 v]},toks:=tk}:=by
 refine wpAny_pyIter_range (IsRange.new ..) (small_one h1 h2 h3 h4) ?_;have z:Inv X pins σ H {s with heap:=s.heap.push {cls:=.type "range",data:=.fields #[.int lo t,.int hi u,.int 1 v]},toks:=tk}:=I.kept λb o e=>zd _ e
 refine ⟨(s.heap.push {cls:=.type "range",data:=.fields #[.int lo t,.int hi u,.int 1 v]}).objs.size,[(s.heap.push {cls:=.type "range",data:=.fields #[.int lo t,.int hi u,.int 1 v]}).objs.size],_,_,H,rfl,
  z.kept (t':=tk) λb o e=>zd _ e,Nv _ lo (hi - lo).toNat,?_,λb hb=>?_,q⟩
 ·have e1:lo+((0:Nat):Int)*1=lo:=by simp
  have e2:(((hi - lo).toNat:Nat):Int) - ((0:Nat):Int)=Builtin.Range.rangeSize lo hi 1:=by rw[rangeSize_one];split<;>omega
  show IsRangeIter _ _ (lo+((0:Nat):Int)*1) ((((hi - lo).toNat:Nat):Int) - ((0:Nat):Int)) 1;rw[e1,e2];exact zP _ rfl
 ·have e:b=(s.heap.push {cls:=.type "range",data:=.fields #[.int lo t,.int hi u,.int 1 v]}).objs.size:=by simpa using hb
  subst e;exact z.fpOk (zj _) (z.hok.fresh (zj _))
noncomputable def YT(ta:TA):TI:=λσ H R=>ta σ H λvs H1=>∃j:Int,vs=[.int j]/\ -(2^62)<=j/\j<2^62/\R (Itr 0 j.toNat) H1
def Dh{a:Expr}{ta:TA}{p pos:Pos}(hg:Gl X "range") (hm:X.mg "range" =none) (ha:PA X [a] ta) (hs:starEach [a] X.env=[(false,eval a X.env)]:=by rfl):PI X tg (.Call (.Name "range" p) [a] [] pos) (YT ta):=by
 intro pins s σ H R I h;refine Call_ (Ep I hg hm boot_range (PyProof.Rows.callWith_type1 (thn (ha pos pins s σ H _ I h) λus s1 ⟨vs,H1,I1,r1,z⟩=>?_) hs rfl));obtain⟨j,e,z,q2,q⟩:=z;subst e
 cases r1 with
 |cons r rr=>
  cases rr;obtain⟨t,rfl⟩:=r;exact call_range_1 (Vv I1 (by omega) (by omega) z q2 (by simpa using q))
noncomputable def aaI(wi:TI)(g:TG)(tb:TS):TS:=λD σ H=>wi σ H λJ H1=>∃W:Nat->Nat->St->Hp->Prop,(∃m,W 0 m σ H1)/\∀i m σ H,W i m σ H->
 (J.stop i H/\D.nx σ H)\/(J.go i H/\∃N:St->Hp->Prop,(∀σ' H',N σ' H'->∃m',m'<m/\W (i+1) m' σ' H')/\∀x H',J.yld i H x H'->g x σ H' λσ2 H2=>tb {D with nx:=N,ct:=N,bk:=D.nx} σ2 H2)
noncomputable def Hq(fp:List Addr)(h:Heap):List (Addr×Obj):=fp.filterMap λb=>(h.get? b).map λo=>(b,o)
def vI{q:List Addr}{h:Heap}{b:Addr}{o:Obj}(z:b∈q)(e:h.get? b=some o):(b,o)∈Hq q h:=yd.mpr ⟨b,z,by rw[e];rfl⟩
def RX{z:List Addr}{h:Heap}{p:Addr×Obj}(hp:p∈Hq z h):p.1∈z/\h.get? p.1=some p.2:=by
 obtain⟨b,hb,e⟩:=yd.mp hp
 cases q:h.get? b with
 |none=>rw[q]at e;cases e
 |some o=>
  rw[q]at e;have e':(b,o)=p:=zf e;subst e';exact⟨hb,q⟩
def Inv.pinned{pins:List (Addr×Obj)}{σ:St}{H:Hp}{s:Shared}{q:List Addr}(I:Inv X pins σ H s)(hf:∀b∈q,Qm X pins H b)(ho:∀b∈q,∃o,s.heap.get? b=some o/\∀v,o.data≠.cell v):Inv X (pins++Hq q s.heap) σ H s:=
 I.pins_of λp hp=>(zx.mp hp).elim (λz=>I.pin p (zL _ z)) λz=>by
  obtain⟨hb,e⟩:=RX z;obtain⟨f0,f1,f2,_⟩:=hf p.1 hb;obtain⟨o,e',d⟩:=ho p.1 hb;rw[e]at e';cases e';exact⟨e,f0,f1,f2,d⟩
def Inv.unpinned{pins pl:List (Addr×Obj)}{σ:St}{H:Hp}{s:Shared}(I:Inv X (pins++pl) σ H s):Inv X pins σ H s:=I.pins_of λp q=>I.pin p (zL _ (yx _ q))
def Bd{iter:Expr}{aa:List Stmt}{wi:TI}{g:TG}{tb:TS}{pos:Pos}(hp:PassesOwn (model X.prog X.w) X.A X.env X.xe)(hc:X.calm=true)(hi:PI X tg iter wi)(hg:PG X tg g)(hb:PSs X aa tb)
  (hs:∀x,foldedSetIterable iter X.env x=pure x:=by intro _;rfl):PS X (.For tg iter aa [] pos) (aaI wi g tb):=by
 intro pins s σ H D I h;refine wpAny_For (thn (hi pins s σ H _ I h) λv s1 h1=>thn h1 λai s2 h2=>?_) hs;obtain⟨it,fp,tn,J,H2,e,I2,T,ah,f2,W,⟨m0,w0⟩,ae⟩:=h2;subst e;have q:∀{H':Hp},(∀b∈fp,H' b=none)->∀b∈fp,Qm X pins H' b:=λhn b hb=>⟨hn b hb,(f2 b hb).2⟩;refine codeAny_forLoop_any (λn s'=>∃i σ' H',Inv X pins σ' H' s'/\tn i s'.heap/\(∀b∈fp,H' b=none)/\W i n σ' H') ?_ m0 ⟨0,σ,H2,I2,ah,λb hb=>(f2 b hb).1,w0⟩;rintro n s3 ⟨i,σ3,H3,I3,ad,af,w3⟩;rcases ae i n σ3 H3 w3 with⟨stop,qn⟩|⟨go,N,hN,ac⟩
 ·refine zzk hp (thn (T.done X rfl rfl rfl hc i pins s3 σ3 H3 X.xe I3 (q af) ad stop) λr s4 ⟨hr,I4⟩=>?_)
  subst hr;exact zzj ⟨σ3,H3,I4,qn⟩
 ·refine zzk hp (thn (T.item X rfl rfl rfl hc i pins s3 σ3 H3 X.xe I3 (q af) ad go) λr s4 ⟨u,hr,h4⟩=>?_)
  subst hr;refine zzk hp (thn h4 λ_ s5 ⟨x,H5,I5,r5,y5,ab,ag⟩=>?_);have I5':=I5.pinned (q ag) (T.obj _ _ ab);refine zzk hp (thn (hg _ s5 σ3 H5 x u _ I5' r5 (ac x H5 y5)) λ_ s6 ⟨σ6,H6,I6,q6⟩=>?_);refine zzk hp (thn (hb _ s6 σ6 H6 _ I6 q6) λf s7 q7=>?_)
  have z:∀{σ7:St}{H7:Hp},Inv X (pins++Hq fp s5.heap) σ7 H7 s7->N σ7 H7->∃m,m<n/\∃i σ' H',Inv X pins σ' H' s7/\tn i s7.heap/\(∀b∈fp,H' b=none)/\W i m σ' H':=fun{σ7 H7} I7 n7=>by
   obtain⟨m',hm,w7⟩:=hN σ7 H7 n7;refine⟨m',hm,i+1,σ7,H7,I7.unpinned,T.keep _ _ _ ab λb hb o e=>(I7.pin (b,o) (zL _ (zL _ (vI hb e)))).1,λb hb=>?_,w7⟩;obtain⟨o,e,d⟩:=T.obj _ _ ab b hb;exact(I7.pin (b,o) (zL _ (zL _ (vI hb e)))).2.1
  cases f with
  |next=>obtain⟨σ7,H7,I7,n7⟩:=q7;exact z I7 n7
  |cont=>obtain⟨σ7,H7,I7,n7⟩:=q7;exact z I7 n7
  |brk=>obtain⟨σ7,H7,I7,q7⟩:=q7;exact⟨σ7,H7,I7.unpinned,q7⟩
  |ret v=>obtain⟨x7,σ7,H7,I7,r7,q7⟩:=q7;exact⟨x7,σ7,H7,I7.unpinned,r7,q7⟩
end
def Vs{K:Fg_}{a:Addr}{xs:List V}{g:TG}{tb:TS}{D:Ends}{σ:St}{H:Hp}(z:Nat->St->Hp->Prop)(h0:z 0 σ H)(hl:∀i σ H,i<=xs.length->z i σ H->SqL K H a xs)
  (hs:∀i x σ H,xs[i]? =some x->z i σ H->g x σ H λσ2 H2=>tb {D with nx:=z (i+1),ct:=z (i+1),bk:=D.nx} σ2 H2) (hd:∀σ H,z xs.length σ H->D.nx σ H):
  ∃W:Nat->Nat->St->Hp->Prop,(∃m,W 0 m σ H)/\∀i m σ H,W i m σ H->
   ((Itl K a).stop i H/\D.nx σ H)\/((Itl K a).go i H/\∃N:St->Hp->Prop,(∀σ' H',N σ' H'->∃m',m'<m/\W (i+1) m' σ' H')/\∀x H',(Itl K a).yld i H x H'->g x σ H' λσ2 H2=>tb {D with nx:=N,ct:=N,bk:=D.nx} σ2 H2):=by
 refine⟨λi m σ H=>m=xs.length - i/\i<=xs.length/\z i σ H,⟨xs.length,by simp,zV _,h0⟩,?_⟩;rintro i m σ H ⟨rfl,hi,p⟩;have q:=hl i σ H hi p;by_cases aa:i<xs.length
 ·refine .inr ⟨⟨xs,xs[i],q,by simp[aa]⟩,z (i+1),λσ' H' p'=>⟨xs.length - (i+1),by omega,rfl,aa,p'⟩,λx H' y=>?_⟩
  obtain⟨e,y⟩:=y;subst e;exact hs i x σ _ (y xs q) p
 ·have e:i=xs.length:=by omega
  subst e;exact .inl ⟨⟨xs,q,zj _⟩,hd σ H p⟩
def QR{lo:Int}{n:Nat}{g:TG}{tb:TS}{D:Ends}{σ:St}{H:Hp}(q:Nat->St->Hp->Prop)(h0:q 0 σ H)
  (hs:∀i σ H,i<n->q i σ H->g (.int (lo+i)) σ H λσ2 H2=>tb {D with nx:=q (i+1),ct:=q (i+1),bk:=D.nx} σ2 H2) (hd:∀σ H,q n σ H->D.nx σ H):
  ∃W:Nat->Nat->St->Hp->Prop,(∃m,W 0 m σ H)/\∀i m σ H,W i m σ H->
   ((Itr lo n).stop i H/\D.nx σ H)\/((Itr lo n).go i H/\∃N:St->Hp->Prop,(∀σ' H',N σ' H'->∃m',m'<m/\W (i+1) m' σ' H')/\∀x H',(Itr lo n).yld i H x H'->g x σ H' λσ2 H2=>tb {D with nx:=N,ct:=N,bk:=D.nx} σ2 H2):=by
 refine⟨λi m σ H=>m=n - i/\i<=n/\q i σ H,⟨n,by simp,zV _,h0⟩,?_⟩;rintro i m σ H ⟨rfl,hi,p⟩;by_cases z:i<n
 ·refine .inr ⟨z,q (i+1),λσ' H' p'=>⟨n - (i+1),by omega,rfl,z,p'⟩,λx H' y=>?_⟩
  obtain⟨e,y⟩:=y;subst e y;exact hs i σ _ z p
 ·have e:i=n:=by omega
  subst e;exact .inl ⟨zj _,hd σ H p⟩
end L2
namespace L2
open PySem PySem.Spec PyProof.Rows
abbrev R2:=V->V->Hp->VK->Prop
noncomputable def OpR(X:Cx)(f:Value->Value->Sem Value)(r:R2):Prop:=
 ∀(pins:List (Addr×Obj)) (s:Shared) (σ:St) (H:Hp) (x y:V) (v u:Value) (Q:VK),Inv X pins σ H s->RelV x v->RelV y u->r x y H Q->
  wpAny (model X.prog X.w) X.A (f v u) (EP X pins σ Q) X.xe s
noncomputable def UnR(X:Cx)(f:Value->Sem Value)(r:V->Hp->VK->Prop):Prop:=
 ∀(pins:List (Addr×Obj)) (s:Shared) (σ:St) (H:Hp) (x:V) (v:Value) (Q:VK),Inv X pins σ H s->RelV x v->r x H Q->
  wpAny (model X.prog X.w) X.A (f v) (EP X pins σ Q) X.xe s
noncomputable def jY(X:Cx)(f:Value)(r:List V->Hp->VK->Prop):Prop:=
 ∀(pins:List (Addr×Obj)) (s:Shared) (σ:St) (H:Hp) (xs:List V) (us:List Value) (Q:VK),Inv X pins σ H s->Vals xs us->r xs H Q->
  wpAny (model X.prog X.w) X.A (call f us) (EP X pins σ Q) X.xe s
noncomputable def tOp(r:R2)(ta tb:TE):TE:=λσ H Q=>ta σ H λx H1=>tb σ H1 λy H2=>r x y H2 Q
noncomputable def tUn(r:V->Hp->VK->Prop)(ta:TE):TE:=λσ H Q=>ta σ H λx H1=>r x H1 Q
noncomputable def rI(C:Int->Int->Prop)(g:Int->Int->V):R2:=λx y H Q=>∃i j,x=.int i/\y=.int j/\C i j/\Q (g i j) H
noncomputable def rI0(g:Int->Int->V):R2:=λx y H Q=>∃i j,x=.int i/\y=.int j/\Q (g i j) H
noncomputable def rU(g:Int->V):V->Hp->VK->Prop:=λx H Q=>∃i,x=.int i/\Q (g i) H
section
variable{X:Cx}{a b c:Expr}{ta tb tc:TE}{pos:Pos}
def abk(ha:PE X a ta)(hb:PE X b tb){pins:List (Addr×Obj)}{s:Shared}{σ:St}{H:Hp}{R:V->V->Hp->Prop}(I:Inv X pins σ H s)
  (h:ta σ H λx H1=>tb σ H1 λy H2=>R x y H2) {Q:Value->Shared->Prop} {f:Value->Value->Sem Value}
  (hf:∀v u q x y H2,Inv X pins σ H2 q->RelV x v->RelV y u->R x y H2->wpAny (model X.prog X.w) X.A (f v u) Q X.xe q):
  wpAny (model X.prog X.w) X.A (eval a X.env) (λv s₁=>wpAny (model X.prog X.w) X.A (eval b X.env) (λu s₂=>wpAny (model X.prog X.w) X.A (f v u) Q X.xe s₂) X.xe s₁) X.xe s:=by
 refine thn (ha pins s σ H _ I h) λv s1 ⟨x,H1,z,r1,q1⟩=>?_;refine thn (hb pins s1 σ H1 _ z q1) λu q ⟨y,H2,I2,r2,q2⟩=>?_;exact hf v u q x y H2 I2 r1 r2 q2
def fX{z:Operator}{r:R2}(ho:OpR X (binaryOp z) r)(ha:PE X a ta)(hb:PE X b tb):PE X (.BinOp a z b pos) (tOp r ta tb):=by
 intro pins s σ H Q I h;exact wpAny_BinOp (abk ha hb I h λv u s2 x y H2 I2 rx ry q=>ho pins s2 σ H2 x y v u Q I2 rx ry q)
def UW{q:UnaryOp}{r:V->Hp->VK->Prop}(z:UnR X (unaryOp q) r)(ha:PE X a ta):PE X (.UnaryOp q a pos) (tUn r ta):=by
 intro pins s σ H Q I h;exact UnaryOp_ (thn (ha pins s σ H _ I h) λv s1 ⟨x,H1,I1,r1,q1⟩=>z pins s1 σ H1 x v Q I1 r1 q1)
def opI{f:Value->Value->Sem Value}{C:Int->Int->Prop}{g:Int->Int->Int}
  (z:∀(i j:Int)(t u:Tok)(s:Shared)(Q:Value->Shared->Prop)(E:Value->Shared->Prop),C i j->Q (.int (g i j) s.toks) {s with toks:=s.toks+1}->wpAny (model X.prog X.w) X.A (f (.int i t) (.int j u)) Q E s):
  OpR X f (rI C λi j=> .int (g i j)):=by
 intro pins s σ H x y v u Q I rx ry h;obtain⟨i,j,rfl,rfl,hc,q⟩:=h;obtain⟨t,rfl⟩:=rx;obtain⟨t',rfl⟩:=ry;exact z i j t t' s _ _ hc ⟨.int (g i j),H,I.tok _,⟨_,rfl⟩,q⟩
def abB{f:Value->Value->Sem Value}{g:Int->Int->Int}
  (z:∀(i j:Int)(t u:Tok)(s:Shared)(Q:Value->Shared->Prop)(E:Value->Shared->Prop),Q (.int (g i j) s.toks) {s with toks:=s.toks+1}->wpAny (model X.prog X.w) X.A (f (.int i t) (.int j u)) Q E s):
  OpR X f (rI0 λi j=> .int (g i j)):=by
 intro pins s σ H x y v u Q I rx ry h;obtain⟨i,j,rfl,rfl,q⟩:=h;obtain⟨t,rfl⟩:=rx;obtain⟨t',rfl⟩:=ry;exact z i j t t' s _ _ ⟨.int (g i j),H,I.tok _,⟨_,rfl⟩,q⟩
def abO{f:Value->Value->Sem Value}{g:Int->Int->Bool}
  (z:∀(i j:Int)(t u:Tok)(s:Shared)(Q:Value->Shared->Prop)(E:Value->Shared->Prop),Q (.bool (g i j)) s->wpAny (model X.prog X.w) X.A (f (.int i t) (.int j u)) Q E s):
  OpR X f (rI0 λi j=> .bl (g i j)):=by
 intro pins s σ H x y v u Q I rx ry h;obtain⟨i,j,rfl,rfl,q⟩:=h;obtain⟨t,rfl⟩:=rx;obtain⟨t',rfl⟩:=ry;exact z i j t t' s _ _ ⟨.bl (g i j),H,I,rfl,q⟩
noncomputable def abM(i j:Int):Prop:=0<=j/\j<=1000000/\i.natAbs<2^64
noncomputable def abm(i j:Int):Prop:=(-(2^64)<i/\i<2^64)\/(-(2^64)<j/\j<2^64)
def abm.ok{i j:Int}(h:abm i j):IntMulOk i j:=by
 rcases h with⟨h1,h2⟩|⟨h1,h2⟩
 ·exact .of_left (intBits_le_64 h1 h2)
 ·exact .of_right (intBits_le_64 h1 h2)
def iy:OpR X (binaryOp .Add) (rI0 λi j=> .int (i+j)):=abB λ_ _ _ _ _ _ _ q=>add_int q
def Ez:OpR X (binaryOp .Sub) (rI0 λi j=> .int (i - j)):=abB λ_ _ _ _ _ _ _ q=>sub_int q
def gO:OpR X (binaryOp .Mod) (rI (λ_ j=>0<j) λi j=> .int (i%j)):=opI λi j _ _ _ _ _ z q=>by
 have h1:(0:Int)<j:=z;exact mod_int' (by omega) (by rw[Int.fmod_eq_emod_of_nonneg i (by omega)];exact q)
def vo:OpR X (binaryOp .Pow) (rI abM λi j=> .int (i^j.toNat)):=opI λ_ _ _ _ _ _ _ z q=>pow_int_small z.1 z.2.1 z.2.2 q
def unI{f:Value->Sem Value}{g:Int->Int}
  (z:∀(i:Int)(t:Tok)(s:Shared)(Q:Value->Shared->Prop)(E:Value->Shared->Prop),Q (.int (g i) s.toks) {s with toks:=s.toks+1}->wpAny (model X.prog X.w) X.A (f (.int i t)) Q E s):
  UnR X f (rU λi=> .int (g i)):=by
 intro pins s σ H x v Q I rx h;obtain⟨i,rfl,q⟩:=h;obtain⟨t,rfl⟩:=rx;exact z i t s _ _ ⟨.int (g i),H,I.tok _,⟨_,rfl⟩,q⟩
def Mr:UnR X (unaryOp .USub) (rU λi=> .int (-i)):=unI λ_ _ _ _ _ q=>neg_int q
end
noncomputable def Yi:V->V->Bool
 |.non,.non=>true|.non,.int _=>true|.int _,.non=>true|.non,.bl _=>true|.bl _,.non=>true|.non,.str _=>true|.str _,.non=>true
 |.int _,.int _=>true|.bl _,.bl _=>true|.str _,.str _=>true|.byt _,.byt _=>true
 |.int _,.str _=>true|.str _,.int _=>true|.bl _,.str _=>true|.str _,.bl _=>true
 |_,_=>false
noncomputable def rEq:R2:=λx y H Q=>Yi x y=true/\Q (.bl (decide (x=y))) H
noncomputable def rNe:R2:=λx y H Q=>Yi x y=true/\Q (.bl (!decide (x=y))) H
def Tg{i j:Int}:decide (V.int i=V.int j)=(i==j):=by
 rw[yX];simp
def VR{i j:Bool}:decide (V.bl i=V.bl j)=(i==j):=by
 rw[yX];simp
def Tq{i j:Str}:decide (V.str i=V.str j)=(i==j):=by
 rw[yX];simp
def Rw{i j:Array UInt8}:decide (V.byt i=V.byt j)=(i.toList==j.toList):=by
 rw[yX];cases i;cases j;simp
section
variable{X:Cx}{a b c:Expr}{ta tb tc:TE}{pos:Pos}
def iG{pins:List (Addr×Obj)}{σ:St}{H:Hp}{s:Shared}{Q:VK}{k z:Bool}(I:Inv X pins σ H s)(q:Q (.bl k) H)(e:k=z):EP X pins σ Q (.bool z) s:=by
 subst e;exact⟨.bl k,H,I,rfl,q⟩
def lH:OpR X (compareOp .Eq) rEq:=by
 intro pins s σ H x y v u Q I rx z h;obtain⟨hs,q⟩:=h
 cases x with
 |non=>
  cases rx
  cases y with
  |non=>cases z;exact PySem.EqNone.eq_none_none (iG I q (by simp))
  |bl j=>cases z;exact PySem.EqNone.eq_none_bool (iG I q (by simp))
  |int j=>obtain⟨t',rfl⟩:=z;exact PySem.EqNone.eq_none_int (iG I q (by simp))
  |str j=>obtain⟨t',rfl⟩:=z;exact PySem.EqNone.eq_none_str (iG I q (by simp))
  |_=>exact absurd (show false=true from hs) zE
 |bl i=>
  cases rx
  cases y with
  |non=>cases z;exact PySem.EqNone.eq_bool_none (iG I q (by simp))
  |bl j=>cases z;exact eq_bool (iG I q VR)
  |str j=>obtain⟨t',rfl⟩:=z;exact PySem.EqMixed.eq_bool_str (iG I q (by simp))
  |_=>exact absurd (show false=true from hs) zE
 |int i=>
  obtain⟨t,rfl⟩:=rx
  cases y with
  |non=>cases z;exact PySem.EqNone.eq_int_none (iG I q (by simp))
  |int j=>obtain⟨t',rfl⟩:=z;exact eq_int (iG I q Tg)
  |str j=>obtain⟨t',rfl⟩:=z;exact PySem.EqMixed.eq_int_str (iG I q (by simp))
  |_=>exact absurd (show false=true from hs) zE
 |str i=>
  obtain⟨t,rfl⟩:=rx
  cases y with
  |non=>cases z;exact PySem.EqNone.eq_str_none (iG I q (by simp))
  |bl j=>cases z;exact PySem.EqMixed.eq_str_bool (iG I q (by simp))
  |int j=>obtain⟨t',rfl⟩:=z;exact PySem.EqMixed.eq_str_int (iG I q (by simp))
  |str j=>obtain⟨t',rfl⟩:=z;exact eq_str (iG I q Tq)
  |_=>exact absurd (show false=true from hs) zE
 |byt i=>
  obtain⟨t,rfl⟩:=rx
  cases y with
  |byt j=>obtain⟨t',rfl⟩:=z;exact PySem.W.eq_bytes (iG I q Rw)
  |_=>exact absurd (show false=true from hs) zE
 |_=>cases y<;>exact absurd (show false=true from hs) zE
def OJ:OpR X (compareOp .NotEq) rNe:=by
 intro pins s σ H x y v u Q I rx z h;obtain⟨hs,q⟩:=h
 cases x with
 |non=>
  cases rx
  cases y with
  |non=>cases z;exact PySem.EqNone.ne_none_none (iG I q (by simp))
  |bl j=>cases z;exact PySem.EqNone.ne_none_bool (iG I q (by simp))
  |int j=>obtain⟨t',rfl⟩:=z;exact PySem.EqNone.ne_none_int (iG I q (by simp))
  |str j=>obtain⟨t',rfl⟩:=z;exact PySem.EqNone.ne_none_str (iG I q (by simp))
  |_=>exact absurd (show false=true from hs) zE
 |bl i=>
  cases rx
  cases y with
  |non=>cases z;exact PySem.EqNone.ne_bool_none (iG I q (by simp))
  |bl j=>cases z;exact ne_bool (iG I q (congrArg not VR))
  |str j=>obtain⟨t',rfl⟩:=z;exact PySem.EqMixed.ne_bool_str (iG I q (by simp))
  |_=>exact absurd (show false=true from hs) zE
 |int i=>
  obtain⟨t,rfl⟩:=rx
  cases y with
  |non=>cases z;exact PySem.EqNone.ne_int_none (iG I q (by simp))
  |int j=>obtain⟨t',rfl⟩:=z;exact ne_int (iG I q (congrArg not Tg))
  |str j=>obtain⟨t',rfl⟩:=z;exact PySem.EqMixed.ne_int_str (iG I q (by simp))
  |_=>exact absurd (show false=true from hs) zE
 |str i=>
  obtain⟨t,rfl⟩:=rx
  cases y with
  |non=>cases z;exact PySem.EqNone.ne_str_none (iG I q (by simp))
  |bl j=>cases z;exact PySem.EqMixed.ne_str_bool (iG I q (by simp))
  |int j=>obtain⟨t',rfl⟩:=z;exact PySem.EqMixed.ne_str_int (iG I q (by simp))
  |str j=>obtain⟨t',rfl⟩:=z;exact ne_str (iG I q (congrArg not Tq))
  |_=>exact absurd (show false=true from hs) zE
 |byt i=>
  obtain⟨t,rfl⟩:=rx
  cases y with
  |byt j=>obtain⟨t',rfl⟩:=z;exact PySem.W.ne_bytes (iG I q (congrArg not Rw))
  |_=>exact absurd (show false=true from hs) zE
 |_=>cases y<;>exact absurd (show false=true from hs) zE
def Ei:OpR X (compareOp .Lt) (rI0 λi j=> .bl (decide (i<j))):=abO λ_ _ _ _ _ _ _ q=>lt_int q
def El:OpR X (compareOp .Gt) (rI0 λi j=> .bl (decide (j<i))):=abO λ_ _ _ _ _ _ _ q=>gt_int q
def Sv:OpR X (compareOp .Is) (λx y H Q=>y=.non/\Q (.bl (decide (x=.non))) H):=by
 intro pins s σ H x y v u Q I z ry h;obtain⟨rfl,q⟩:=h;cases ry;refine is_none_gen (iG I q ?_)
 cases x<;>first
  |(cases z;rfl)
  |(obtain⟨t,rfl⟩:=z;rfl)
def XQ:OpR X (compareOp .IsNot) (λx y H Q=>y=.non/\Q (.bl (!decide (x=.non))) H):=by
 intro pins s σ H x y v u Q I z ry h;obtain⟨rfl,q⟩:=h;cases ry;refine isnot_none_gen (iG I q ?_)
 cases x<;>first
  |(cases z;rfl)
  |(obtain⟨t,rfl⟩:=z;rfl)
def gA(b:Expr){q:CmpOp}(h:q≠.In:=by decide)(h2:q≠.NotIn:=by decide):behindInMarks q b=false:=by
 have z:(q==CmpOp.In)=false:=by cases q<;>first|rfl|exact absurd rfl h
 have e2:(q==CmpOp.NotIn)=false:=by cases q<;>first|rfl|exact absurd rfl h2
 cases b<;>simp[behindInMarks,z,e2]
def Af{z:CmpOp}{r:R2}(ho:OpR X (compareOp z) r)(ha:PE X a ta)(hb:PE X b tb)(hm:behindInMarks z b=false):PE X (.Compare a [z] [b] pos) (tOp r ta tb):=by
 intro pins s σ H Q I h;exact wpAny_Compare1 (abk ha hb I h λv u s2 x y H2 I2 rx ry q=>ho pins s2 σ H2 x y v u Q I2 rx ry q) hm
noncomputable def ZP(t:TE):TT:=λσ H Q=>t σ H λx H'=>∃k,x=.bl k/\Q k H'
def fZ{q:CmpOp}{r:R2}(ho:OpR X (compareOp q) r)(ha:PE X a ta)(hb:PE X b tb)(hm:behindInMarks q b=false):PT X (.Compare a [q] [b] pos) (ZP (tOp r ta tb)):=by
 intro pins s σ H Q I h
 refine wpAny_isTrue_Compare1 (thn (ha pins s σ H _ I h) λv s1 ⟨x,H1,I1,r1,q1⟩=>thn (hb pins s1 σ H1 _ I1 q1) λu s2 ⟨y,H2,I2,r2,q2⟩=>
  thn (ho pins s2 σ H2 x y v u _ I2 r1 r2 q2) λc s3 ⟨z,H3,I3,r3,k,e,q3⟩=>?_) hm
 subst e;cases r3;exact yM ⟨H3,I3,q3⟩
noncomputable def Rp(r r':R2)(ta tb tc:TE):TE:=λσ H Q=>ta σ H λx H1=>tb σ H1 λy H2=>r x y H2 λz H3=>∃k,z=.bl k/\
 (if k=true then tc σ H3 λw' H4=>r' y w' H4 Q else Q (.bl false) H3)
def Nu{op q:CmpOp}{r r':R2}(ho:OpR X (compareOp op) r)(aa:OpR X (compareOp q) r')(ha:PE X a ta)(hb:PE X b tb)(hc:PE X c tc)
  (hm:lastMarks [op,q] [b,c]=false:=by with_unfolding_all rfl):PE X (.Compare a [op,q] [b,c] pos) (Rp r r' ta tb tc):=by
 intro pins s σ H Q I h
 refine Compare_chain (thn (ha pins s σ H _ I h) λv s1 ⟨x,H1,I1,r1,q1⟩=>chain_link (thn (hb pins s1 σ H1 _ I1 q1) λu s2 ⟨y,H2,I2,r2,q2⟩=>
  thn (ho pins s2 σ H2 x y v u _ I2 r1 r2 q2) λd s3 ⟨z,H3,I3,r3,k,e,q3⟩=>?_)) hm
 subst e;cases r3;refine yM ?_
 cases k with
 |false=>exact ite_ff ⟨.bl false,H3,I3,rfl,q3⟩
 |true=>exact ite_tt (chain_last (thn (hc pins s3 σ H3 _ I3 q3) λw' s4 ⟨z',H4,I4,r4,q4⟩=>aa pins s4 σ H4 y z' u w' Q I4 r2 r4 q4))
def JK:(sizeLine:Nat)<2^63:=by rw[zc];decide
def gY:OpR X (binaryOp .Add) (λx y H Q=>∃i j,x=.str i/\y=.str j/\i.length+j.length<=sizeLine/\Q (.str (i++j)) H):=by
 intro pins s σ H x y v u Q I rx ry h;obtain⟨i,j,rfl,rfl,z,q⟩:=h;obtain⟨t,rfl⟩:=rx;obtain⟨t',rfl⟩:=ry;exact add_str (λt' tk=>⟨.str (i++j),H,I.tok _,⟨_,rfl⟩,q⟩) z
def vals1{x:V}{us:List Value}(r:Vals [x] us):∃u,us=[u]/\RelV x u:=by
 cases r with
 |cons r1 r2=>cases r2;exact⟨_,rfl,r1⟩
def vals2{x y:V}{us:List Value}(r:Vals [x,y] us):∃u q,us=[u,q]/\RelV x u/\RelV y q:=by
 cases r with
 |cons r1 r2=>
  cases r2 with
  |cons r3 r4=>cases r4;exact⟨_,_,rfl,r1,r3⟩
def TV(hc:X.calm=true):jY X (.builtin "max") (λxs H Q=>∃i j,xs=[.int i,.int j]/\Q (.int (if j>i then j else i)) H):=by
 intro pins s σ H xs us Q I r h;obtain⟨i,j,rfl,q⟩:=h;obtain⟨u,w',rfl,⟨t,rfl⟩,⟨t',rfl⟩⟩:=vals2 r;refine max_two_ints (I.ok.hd hc) λh' tk k=>⟨_,H,I.kept k,?_,q⟩;by_cases z:j>i
 ·rw[zu z,zu z];exact⟨_,rfl⟩
 ·rw[zo z,zo z];exact⟨_,rfl⟩
def PN(hc:X.calm=true):jY X (.builtin "min") (λxs H Q=>∃i j,xs=[.int i,.int j]/\Q (.int (if j<i then j else i)) H):=by
 intro pins s σ H xs us Q I r h;obtain⟨i,j,rfl,q⟩:=h;obtain⟨u,w',rfl,⟨t,rfl⟩,⟨t',rfl⟩⟩:=vals2 r;refine min_two_ints (I.ok.hd hc) λh' tk k=>⟨_,H,I.kept k,?_,q⟩;by_cases z:j<i
 ·rw[zu z,zu z];exact⟨_,rfl⟩
 ·rw[zo z,zo z];exact⟨_,rfl⟩
def xQ:jY X (.type "int") (λxs H Q=>(∃i,xs=[.int i]/\Q (.int i) H)\/∃k,xs=[.bl k]/\Q (.int (if k then 1 else 0)) H):=by
 intro pins s σ H xs us Q I r h;rcases h with⟨i,rfl,q⟩|⟨k,rfl,q⟩
 ·obtain⟨u,rfl,t,rfl⟩:=vals1 r
  exact call_int_int ⟨.int i,H,I,⟨_,rfl⟩,q⟩
 ·obtain⟨u,rfl,z⟩:=vals1 r
  cases z;exact call_int_bool ⟨.int (if k then 1 else 0),H,I.tok _,⟨_,rfl⟩,q⟩
def Jp:jY X (.type "str") (λxs H Q=>∃i,xs=[.int i]/\i.natAbs.log2<1920/\Q (.str (toString i)) H):=by
 intro pins s σ H xs us Q I r h;obtain⟨i,rfl,z,q⟩:=h;obtain⟨u,rfl,t,rfl⟩:=vals1 r;exact PySem.P.str_of_int z ⟨.str _,H,I.tok _,⟨_,rfl⟩,q⟩
end
end L2
namespace L2
open PySem PySem.Spec PyProof.Rows
structure Ys(h:Heap)(x dx C:Addr)(mA:Str->Option Value):Prop where
 obj:h.get? x=some (PySem.W.instObj C dx)
 ns:h.Ns1 dx mA
 ne:dx≠x
def QZ{h:Heap}{dx:Addr}{mA:Str->Option Value}(n:h.Ns1 dx mA):∃od,h.get? dx=some od/\∀name,PySem.W.lookIn name od=some (mA name):=by
 obtain⟨o,es,ep,ho,hd,hk,_,hm⟩:=n;refine⟨o,ho,λname=>?_⟩;have e:=hm name;unfold nsFind findBy at e;rw[<-Array.find?_toList]at e;unfold PySem.W.lookIn;rw[hd];dsimp only;split
 ·rename_i y q
  rw[q]at e;exact congrArg some e
 ·rename_i q
  rw[q]at e
  have a:es.toList.any (·.refKey)=false:=by
   rw[List.any_eq_false];intro y hy;obtain⟨z,t,aa⟩:=hk y (Array.mem_toList_iff.mp hy);simp[DictEntry.refKey,aa]
  have a':¬es.toList.any (·.refKey)=true:=by rw[a];exact zE
  rw[zo a'];exact congrArg some e
def Ys.look{h:Heap}{x dx C:Addr}{mA:Str->Option Value}(I:Ys h x dx C mA):∃q,PySem.W.InstAt h x (PySem.W.instObj C dx) C (some q)/\∀name,PySem.W.lookIn name q=some (mA name):=
 let⟨q,ho,hl⟩:=QZ I.ns
 ⟨q,⟨I.obj,rfl,rfl,ho⟩,hl⟩
section
variable{prog:Program}{w:World}{A:Around}{E:Value->Shared->Prop}{s:Shared}{K:Fg_}{x dx C f:Addr}{mA:Str->Option Value}{name:Str}{v:Value}
def get_map{q:Bool}{Q:Value->Shared->Prop}(X:K.In s.heap)(I:Ys s.heap x dx C mA)(hg:PySem.W.plainGet K C name=true)(hh:PySem.W.hasDictIn K C=true)
  (ha:PySem.W.findIn K (.ref C) name=some none) (hv:mA name=some v) (z:PySem.W.handedIn v=true) (h:Q v {s with toks:=s.toks+1}):
  wpAny (model prog w) A (getAttr (.ref x) name q) Q E s:=by
 obtain⟨od,J,hl⟩:=I.look;exact PySem.W.get_value X J (zzQ hg).1 (PySem.W.findObj_own hh ha rfl (by rw[hl,hv])) z h
def Uu{pl:Sem Bool}{Q:Value×List Value->Shared->Prop}(X:K.In s.heap)(I:Ys s.heap x dx C mA)(q:PySem.W.plainGet K C name=true)
  (hf:PySem.W.findIn K (.ref C) name=some (some (.ref f))) (ht:PySem.W.isFn K (.ref f)=true) (z:mA name=none) (h:Q (.ref f,[.ref x]) s):
  wpAny (model prog w) A (getMethod (.ref x) name pl) Q E s:=by
 obtain⟨od,J,hl⟩:=I.look;exact PySem.W.method_fn X J (zzQ q).1 (zzQ q).2 hf (beq_iff_eq.mp ht) (by show(PySem.W.lookIn name od).map (·.isSome)=some false;rw[hl,z];rfl) h
def Xx{ns:List Str}{Q:Unit->Shared->Prop}(X:K.In s.heap)(I:Ys s.heap x dx C mA)
  (hs:PySem.W.findIn K (.ref C) "__setattr__" =some (some (.builtin "object.__setattr__"))) (hp:PySem.W.plainOver K C=true) (ht:PySem.W.takerIn K C name=some none) (hh:PySem.W.hasDictIn K C=true)
  (hw:PySem.Within mA ns) (hsz:ns.length<=sizeLine)
  (h:∀h',Ys h' x dx C (λy=>if y=name then some v else mA y)->Heap.SameBut dx s.heap h'->Q () {s with heap:=h',toks:=s.toks+2}):
  wpAny (model prog w) A (setAttr (.ref x) name v) Q E s:=by
 obtain⟨od,J,hl⟩:=I.look;refine PySem.W.set_plain X J hs (PySem.W.osa_open (s:={s with toks:=s.toks+1}) (r:=none) X J hp ht λb=>?_);obtain⟨cd,hc,ac⟩:=PySem.W.any_some hh;have hx:s.heap.get? x=some ⟨.ref C,some dx,.plain, #[]⟩:=I.obj;refine ze (zn (ze (ze (wpAny_loadPart hx (ze (PySem.W.Looks.here (s:={s with toks:=s.toks+1}) (PySem.W.looks_clsIn X hc) ?_))))));rw[ac];refine zn (a:=some dx) (ze (zn (ze ?_)));refine wpAny_nsSet1 (s:={s with toks:=s.toks+1}) I.ns λh' z q=>?_;obtain⟨oD,ae,af,ad,aa,ab⟩:=z.count (PySem.Within.cons name v hw);refine ze (wpAny_lookBehind ad (by rw[aa];exact pastItsLine_dict (zQ ab (by rw[zA];omega))) ?_);exact zn (h _ ⟨(q.2 _ (Ne.symm I.ne)).trans I.obj,z,I.ne⟩ q)
def Ve{R:Result->Shared->Prop}{vs:List Value}{q:List (Str×Value)}(X:K.In s.heap)(hm:PySem.W.makesIn K C=true)
  (hi:PySem.W.findIn K (.ref C) "__init__" =some (some (.ref f))) (z:PySem.W.typeIn K (.ref f)=some (.type "function"))
  (h:codeAny (model prog w) (A.under (.builtin "type.__call__" ⟨.ref C::vs,q⟩)) (.call (.ref f) ⟨.ref (s.heap.objs.size+1)::vs,q⟩) (PySem.W.InitBack (s.heap.objs.size+1) R)
   {s with heap:=(s.heap.push PySem.W.emptyDict).push (PySem.W.instObj C s.heap.objs.size)}):
  codeAny (model prog w) A (.call (.ref C) ⟨vs,q⟩) R s:=by
 obtain⟨hh,g,d,t,os⟩:=s;exact PySem.W.make_core (PySem.W.makes_of X hm) (zZ X hi) (λself=>PySem.W.bind_fn X self z) (.inl rfl) h
end
noncomputable def Cd(f:Str)(v:V):List (Str×V)->List (Str×V)
 |[]=>[(f,v)]
 |(g,x)::r=>if g=f then(g,v)::r else(g,x)::Cd f v r
theorem Dm(f g:Str)(v:V):∀fs:List (Str×V),(Cd f v fs).lookup g=if g=f then some v else fs.lookup g
 |[]=>by
  show List.lookup g [(f,v)]=_;by_cases h:g=f
  ·have q:(g==f)=true:=beq_iff_eq.mpr h
   simp only[List.lookup,q,zu h]
  ·have q:(g==f)=false:=beq_eq_false_iff_ne.mpr h
   simp only[List.lookup,q,zo h]
 |(k,x)::r=>by
  have ih:=Dm f g v r;rw[show Cd f v ((k,x)::r)=(if k=f then(k,v)::r else(k,x)::Cd f v r)from rfl];by_cases z:k=f
  ·rw[zu z]
   by_cases h:g=k
   ·have q:(g==k)=true:=beq_iff_eq.mpr h
    simp only[List.lookup,q,zu (h.trans z)]
   ·have q:(g==k)=false:=beq_eq_false_iff_ne.mpr h
    simp only[List.lookup,q,zo (λe:g=f=>h (e.trans z.symm))]
  ·rw[zo z]
   by_cases h:g=k
   ·have q:(g==k)=true:=beq_iff_eq.mpr h
    simp only[List.lookup,q,zo (λe:g=f=>z (h.symm.trans e))]
   ·have q:(g==k)=false:=beq_eq_false_iff_ne.mpr h
    simp only[List.lookup,q];exact ih
theorem Cz(f:Str)(v:V):∀fs:List (Str×V),f∈(Cd f v fs).map (·.1)/\∀g,g∈fs.map (·.1)->g∈(Cd f v fs).map (·.1)
 |[]=>⟨by simp[Cd],λg h=>by simp at h⟩
 |(k,x)::r=>by
  obtain⟨z,i2⟩:=Cz f v r;rw[show Cd f v ((k,x)::r)=(if k=f then(k,v)::r else(k,x)::Cd f v r)from rfl];by_cases q:k=f
  ·rw[zu q]
   subst q;exact⟨by simp,λg h=>by simpa using h⟩
  ·rw[zo q]
   refine⟨?_,λg h=>?_⟩
   ·rw[zg]
    exact zt _ z
   ·rw[zg]at h⊢
    rcases zp.mp h with e|e
    ·exact zp.mpr (.inl e)
    ·exact zt _ (i2 g e)
theorem Ds(f:Str)(v:V):∀fs:List (Str×V),(Cd f v fs).length<=fs.length+1
 |[]=>by simp[Cd]
 |(k,x)::r=>by
  have z:=Ds f v r;rw[show Cd f v ((k,x)::r)=(if k=f then(k,v)::r else(k,x)::Cd f v r)from rfl];by_cases q:k=f
  ·rw[zu q,zA,zA];omega
  ·rw[zo q,zA,zA];omega
def Hg.some_of{v:V}{o:Option Value}(r:Hg (some v) o):∃u,o=some u/\RelV v u:=by
 cases o with
 |none=>exact(show False from r).elim
 |some u=>exact⟨u,rfl,r⟩
def Hg.none_of{o:Option Value}(r:Hg none o):o=none:=by
 cases o with
 |none=>rfl
 |some u=>exact(show False from r).elim
def Su{v:V}{u:Value}(r:RelV v u):PySem.W.handedIn u=true:=by
 cases v with
 |non=>cases (show u=Value.none from r);rfl
 |bl b=>cases (show u=Value.bool b from r);rfl
 |int i=>obtain⟨t,e⟩:=(show∃t,u=Value.int i t from r);cases e;rfl
 |str x=>obtain⟨t,e⟩:=(show∃t,u=Value.str x t from r);cases e;rfl
 |byt b=>obtain⟨t,e⟩:=(show∃t,u=Value.bytes b t from r);cases e;rfl
 |flt b=>obtain⟨t,e⟩:=(show∃t,u=Value.float b t from r);cases e;rfl
 |ref a=>cases (show u=Value.ref a from r);rfl
 |ty n=>cases (show u=Value.type n from r);rfl
section
variable{P:Program}{w:World}{H H':Hp}{h h':Heap}{a C dx:Addr}{fs fs':List (Str×V)}
def FN(hok:HOk P w H h)(e:H a=some (.ins C dx fs)):∃mA,Ys h a dx C mA/\(∀f,Hg (fs.lookup f) (mA f))/\PySem.Within mA (fs.map (·.1))/\fs.length<=1000/\H dx=some (.own a):=by
 obtain⟨d,z,ne,ob,mA,n,r,q⟩:=(show iH P w H h a (.ins C dx fs)from hok a _ e);exact⟨mA,⟨ob,n,ne⟩,r,q,z,d⟩
end
structure Cls(K:Fg_)(C:Addr):Prop where
 pg:PySem.W.plainGet K C Str.empty=true
 hd:PySem.W.hasDictIn K C=true
 po:PySem.W.plainOver K C=true
 sa:PySem.W.findIn K (.ref C) "__setattr__" =some (some (.builtin "object.__setattr__"))
def Cls.get{K:Fg_}{C:Addr}(c:Cls K C)(f:Str):PySem.W.plainGet K C f=true:=c.pg
noncomputable def gk(K:Fg_)(C:Addr)(f:Str):Prop:=PySem.W.findIn K (.ref C) f=some none
def gk.taker{K:Fg_}{C:Addr}{f:Str}(n:gk K C f):PySem.W.takerIn K C f=some none:=by
 unfold PySem.W.takerIn;rw[show PySem.W.findIn K (.ref C) f=some none from n];rfl
structure Con(K:Fg_)(C:Addr)(f:Str)(v:V)(u:Value):Prop where
 at_:PySem.W.findIn K (.ref C) f=some (some u)
 rel:RelV v u
 get:PySem.W.specialIn K u "__get__" =some none
 cp:PySem.W.copiedNames.contains f=false
structure Meth(K:Fg_)(C:Addr)(m:Str)(f:Addr):Prop where
 at_:PySem.W.findIn K (.ref C) m=some (some (.ref f))
 fn:PySem.W.isFn K (.ref f)=true
 kp:PySem.W.keepIn K (.ref f)=true
section
variable{X:Cx}{pins:List (Addr×Obj)}{σ:St}{H:Hp}{s:Shared}{a C dx:Addr}{fs:List (Str×V)}{f:Str}{v:V}{A:Around}{E:Value->Shared->Prop}
def Pr{b:Bool}{Q:Value->Shared->Prop}(I:Inv X pins σ H s)(e:H a=some (.ins C dx fs))(c:Cls X.K C)(n:gk X.K C f)(l:fs.lookup f=some v)
  (h:∀u s',Inv X pins σ H s'->RelV v u->Q u s'):wpAny (model X.prog X.w) A (getAttr (.ref a) f b) Q E s:=by
 obtain⟨mA,O,r,_,_,_⟩:=FN I.hok e;obtain⟨u,z,q⟩:=Hg.some_of (v:=v) (o:=mA f) (by rw[<-l];exact r f);exact get_map I.kIn O (c.get f) c.hd n z (Su q) (h u _ (I.tok _) q)
def Oj{m:Str}{g:Addr}{pl:Sem Bool}{Q:Value×List Value->Shared->Prop}(I:Inv X pins σ H s)(e:H a=some (.ins C dx fs))(c:Cls X.K C)(k:Meth X.K C m g)(l:fs.lookup m=none)
  (h:Q (.ref g,[.ref a]) s):wpAny (model X.prog X.w) A (getMethod (.ref a) m pl) Q E s:=by
 obtain⟨mA,O,r,_,_,_⟩:=FN I.hok e;have hn:mA m=none:=Hg.none_of (by rw[<-l];exact r m);exact Uu I.kIn O (c.get m) k.at_ k.fn hn h
def Oo{y:V}{u:Value}{Q:Unit->Shared->Prop}(I:Inv X pins σ H s)(e:H a=some (.ins C dx fs))(c:Cls X.K C)(n:gk X.K C f)(hl:fs.length<1000)(ry:RelV y u)
  (h:∀s',Inv X pins σ (upd H a (.ins C dx (Cd f y fs))) s'->Q () s'):wpAny (model X.prog X.w) A (setAttr (.ref a) f u) Q E s:=by
 obtain⟨mA,O,r,wi,_,ho⟩:=FN I.hok e;have hz:(fs.map (·.1)).length<=sizeLine:=by rw[zb,zc];omega
 refine Xx I.kIn O c.sa c.po n.taker c.hd wi hz λh' O' sb=>h _ ?_;have hd:∃o,h'.get? dx=some o:=let⟨o,_,_,e',_⟩:=O'.ns;⟨o,e'⟩
 refine I.write (x:=a) (e:=dx) (by rw[e];exact True.intro) (.inr ho) (λb q hb z=>(sb.2 b hb).trans z) hd ?_;refine⟨by rw[fY O.ne];exact ho,?_,O.ne,O'.obj,_,O'.ns,λg=>?_,λg hg=>?_⟩
 ·have:=Ds f y fs;omega
 ·show Hg ((Cd f y fs).lookup g) (if g=f then some u else mA g)
  rw[Dm];by_cases q:g=f
  ·rw[zu q,zu q];exact ry
  ·rw[zo q,zo q];exact r g
 ·by_cases q:g=f
  ·rw[q];exact(Cz f y fs).1
  ·refine(Cz f y fs).2 g (wi g λz=>hg ?_)
   show(if g=f then some u else mA g)=none;rw[zo q];exact z
def Inv.made(I:Inv X pins σ H s):Inv X pins σ (upd (upd H s.heap.objs.size (.own (s.heap.objs.size+1))) (s.heap.objs.size+1) (.ins C s.heap.objs.size []))
  {s with heap:=(s.heap.push PySem.W.emptyDict).push (PySem.W.instObj C s.heap.objs.size)}:=by
 have z:(s.heap.push PySem.W.emptyDict).get? s.heap.objs.size=some PySem.W.emptyDict:=zP s.heap rfl
 have e2:((s.heap.push PySem.W.emptyDict).push (PySem.W.instObj C s.heap.objs.size)).get? (s.heap.objs.size+1)=some (PySem.W.instObj C s.heap.objs.size):=by
  have:=zP (s.heap.push PySem.W.emptyDict) (o:=PySem.W.instObj C s.heap.objs.size) rfl
  rwa [zzp]at this
 have e3:(s.heap.push PySem.W.emptyDict).Ns s.heap.objs.size (λ_=>none):=⟨PySem.W.emptyDict, #[],_,z,rfl,(λe he=>absurd he (by simp)),λ_=>rfl⟩;have I1:=I.laid (a:=s.heap.objs.size) (o:=.own (s.heap.objs.size+1)) (h':=s.heap.push PySem.W.emptyDict) (t':=s.toks) (λb u q=>zd _ q) (zj _) ⟨_,z⟩;refine I1.laid (a:=s.heap.objs.size+1) (o:=.ins C s.heap.objs.size []) (t':=s.toks) (λb u q=>zd _ q) (Nat.le_of_eq (zzp _ _)) ?_;have ne:s.heap.objs.size≠s.heap.objs.size+1:=zN (Nat.lt_succ_self _);refine⟨by rw[fY ne,fK],zV _,ne,e2,λ_=>none,(Heap.Ns1.of_empty e3).at λo q=>zd _ q,λ_=>True.intro,λy hy=>absurd rfl hy⟩
def Tf{prog:Program}{w:World}{env:Env}{e:Expr}{f:Str}{pos:Pos}{s:Shared}{Q:Value->Shared->Prop}(q:attributeBase e f env (eval e env)=eval e env)
  (h:wpAny (model prog w) A (eval e env) (λo z=>wpAny (model prog w) A (getAttr o f true) Q E z) E s):wpAny (model prog w) A (eval (.Attribute e f pos) env) Q E s:=
 Attribute_any_ h (by rw[arm_eval_Attribute,q])
end
noncomputable def aaH(K:Fg_)(ta:TE)(f:Str):TE:=λσ H Q=>ta σ H λx H1=>∃a C dx fs v,x=.ref a/\H1 a=some (.ins C dx fs)/\Cls K C/\gk K C f/\fs.lookup f=some v/\Q v H1
noncomputable def Zm(K:Fg_)(ta tv:TE)(f:Str):TS:=λD σ H=>tv σ H λy H1=>ta σ H1 λx H2=>∃a C dx fs,x=.ref a/\H2 a=some (.ins C dx fs)/\Cls K C/\gk K C f/\fs.length<1000/\
 D.nx σ (upd H2 a (.ins C dx (Cd f y fs)))
section
variable{X:Cx}{o e value:Expr}{f:Str}{pos pos' tpos:Pos}{ta tv:TE}
def aau(he:PE X e ta)(hb:attributeBase e f X.env (eval e X.env)=eval e X.env):PE X (.Attribute e f pos) (aaH X.K ta f):=by
 intro pins s σ H Q I h;refine Tf hb (thn (he pins s σ H _ I h) λu s1 ⟨x,H1,I1,rx,a,C,dx,fs,v,ex,ea,c,n,l,q⟩=>?_);subst ex;obtain rfl:u=Value.ref a:=rx;exact Pr I1 ea c n l λu' s2 I2 z=>⟨v,H1,I2,z,q⟩
def Zu(ha:PE X o ta)(z:PE X value tv)(hs:swapsWith value (some (.Attribute o f pos')) pos.line X.env=pure false):PS X (.Assign [.Attribute o f pos'] value pos) (Zm X.K ta tv f):=by
 intro pins s σ H D I h;refine plainObj_wpAny_Assign_Attribute (thn (z pins s σ H _ I h) λu s1 ⟨y,H1,I1,ry,q⟩=>thn (ha pins s1 σ H1 _ I1 q) λov s2 ⟨x,H2,I2,rx,a,C,dx,fs,ex,ea,c,n,l,q2⟩=>?_) hs;subst ex;obtain rfl:ov=Value.ref a:=rx;exact Oo I2 ea c n l ry λs3 I3=>⟨σ,_,I3,q2⟩
end
section
variable{X:Cx}{pins:List (Addr×Obj)}{σ:St}{H:Hp}{s:Shared}{A:Around}{E:Value->Shared->Prop}{Q:Value->Shared->Prop}{c:Value}{b:Bool}
inductive JQ(K:Fg_)(H:Hp):V->Value->Prop where
 |non:JQ K H .non (.type "NoneType")
 |bl (x:Bool):JQ K H (.bl x) (.type "bool")
 |int (i:Int):JQ K H (.int i) (.type "int")
 |str (x:Str):JQ K H (.str x) (.type "str")
 |flt (x:UInt64):JQ K H (.flt x) (.type "float")
 |lst {a:Addr} {xs:List V} (e:H a=some (.lst xs)):JQ K H (.ref a) (.type "list")
 |frz {a:Addr} {o:Obj} {xs:List V} (e:H a=some (.frz o (.lst xs))):JQ K H (.ref a) (.type "list")
 |tup {a:Addr} {xs:List V} (e:H a=some (.tup xs)):JQ K H (.ref a) (.type "tuple")
 |dK {a:Addr} {kvs:List (Key×V)} (e:H a=some (.dK kvs)):JQ K H (.ref a) (.type "dict")
 |dT {a:Addr} {kvs:List (List Key×V)} (e:H a=some (.dT kvs)):JQ K H (.ref a) (.type "dict")
 | ins {a C dx:Addr} {fs:List (Str×V)} (e:H a=some (.ins C dx fs)) (cl:Cls K C) (ha:PySem.W.findIn K (.ref C) "__class__" =some (some (.builtin "object.__class__")))
   (hn:PySem.W.specialIn K (.builtin "object.__class__") "__get__" =some (some (.builtin "getset_descriptor.__get__"))) (htk:PySem.W.takesIn K (.builtin "object.__class__")=some true)
   (hm:PySem.W.mroIn K C (.type "object")=some true):JQ K H (.ref a) (.ref C)
def QV{x:V}{u t:Value}(I:Inv X pins σ H s)(rx:RelV x u)(ty:JQ X.K H x t)(e:PySem.W.kitOne X.K t c=some b)(h:∀tk,Q (.bool b) {s with toks:=tk}):
  wpAny (model X.prog X.w) A (call (.builtin "isinstance") [u,c]) Q E s:=by
 cases ty with
 |non=>cases (show u=Value.none from rx);exact z8 PySem.W.kitx_none I.kIn True.intro e (λz=>nomatch z) h
 |bl y=>cases (show u=Value.bool y from rx);exact z8 PySem.W.kitx_bool I.kIn True.intro e (λz=>nomatch z) h
 |int i=>obtain⟨t,q⟩:=(show∃t,u=Value.int i t from rx);cases q;exact z8 PySem.W.kitx_int I.kIn True.intro e (λz=>nomatch z) h
 |str y=>obtain⟨t,q⟩:=(show∃t,u=Value.str y t from rx);cases q;exact z8 PySem.W.kitx_str I.kIn True.intro e (λz=>nomatch z) h
 |flt y=>obtain⟨t,q⟩:=(show∃t,u=Value.float y t from rx);cases q;exact z8 PySem.W.kitx_float I.kIn True.intro e (λz=>nomatch z) h
 | @lst a xs ea=>
  cases (show u=Value.ref a from rx);obtain⟨_,_,n,_,h1⟩:=(show iH X.prog X.w H s.heap a (.lst xs)from I.hok a _ ea);exact z8 PySem.W.kitx_list I.kIn ⟨_,h1,rfl⟩ e (λz=>nomatch z) h
 | @frz a ob xs ea=>
  cases (show u=Value.ref a from rx);obtain⟨_,_,_,n,_,h1⟩:=(show iH X.prog X.w H s.heap a (.frz ob (.lst xs))from I.hok a _ ea);exact z8 PySem.W.kitx_list I.kIn ⟨_,h1,rfl⟩ e (λz=>nomatch z) h
 | @tup a xs ea=>
  cases (show u=Value.ref a from rx);obtain⟨_,_,_,p⟩:=(show iH X.prog X.w H s.heap a (.tup xs)from I.hok a _ ea);obtain⟨o,h1,h2,_⟩:=p;exact z8 PySem.W.kitx_tuple I.kIn ⟨o,h1,h2⟩ e (λz=>nomatch z) h
 | @dK a kvs ea=>
  cases (show u=Value.ref a from rx);obtain⟨_,_,vs,_,p⟩:=(show iH X.prog X.w H s.heap a (.dK kvs)from I.hok a _ ea);obtain⟨o,es,ep,h1,h2,_⟩:=p;exact z8 PySem.W.kitx_dict I.kIn ⟨o,h1,h2.1⟩ e (λz=>nomatch z) h
 | @dT a kvs ea=>
  cases (show u=Value.ref a from rx);obtain⟨_,_,xs,_,o,es,ep,h1,h2,_⟩:=(show iH X.prog X.w H s.heap a (.dT kvs)from I.hok a _ ea);exact z8 PySem.W.kitx_dict I.kIn ⟨o,h1,h2.1⟩ e (λz=>nomatch z) h
 | @ins a C dx fs ea cl ha hn htk hm=>
  cases (show u=Value.ref a from rx);obtain⟨mA,O,_⟩:=FN I.hok ea;obtain⟨od,J,_⟩:=O.look;exact z8 (PySem.W.kitx_own (cl.get _) cl.hd ha hn htk hm) I.kIn J e (λz=>nomatch z) h
end
end L2
namespace L2
open PySem PySem.Spec PyProof.Rows
structure mH(k:Nat)(A:Around):Prop where
 hd:A.handled=none
 dp:A.depth+3*k+5<recursionLimit
 un:A.units+16*k+200<cLine
def mH.mono{j k:Nat}{A:Around}(r:mH k A)(h:j<=k):mH j A:=⟨r.hd,by have:=r.dp;omega,by have:=r.un;omega⟩
theorem mH.deeper{k:Nat}{A:Around}(r:mH (k+1) A)(env:Env):mH k (A.deeper env):=
 ⟨r.hd,by have:=r.dp;show A.depth+1+3*k+5<_;omega,by have:=r.un;show A.units+3+16*k+200<_;omega⟩
def Eu{A:Around}{C:Addr}{us:List Value}{q:List (Str×Value)}:(A.under (.builtin "type.__call__" ⟨.ref C::us,q⟩)).depth=A.depth+1:=by
 first|rfl|simp[Around.under,Code.weight,Code.isCreation,Code.isGuard,Code.isCaller,Code.frames,Code.isFrame,guardIds]
def Ff{A:Around}{C:Addr}{us:List Value}{q:List (Str×Value)}:(A.under (.builtin "type.__call__" ⟨.ref C::us,q⟩)).units=A.units+1:=by
 first|rfl|simp[Around.under,Code.cUnits,Code.frames,Code.isFrame]
def mH.make{k:Nat}{A:Around}(r:mH (k+1) A)(C:Addr)(us:List Value)(q:List (Str×Value)):mH k (A.under (.builtin "type.__call__" ⟨.ref C::us,q⟩)):=
 ⟨r.hd,by have:=r.dp;rw[Eu];omega,by have:=r.un;rw[Ff];omega⟩
theorem mH.depth{k:Nat}{A:Around}(r:mH k A):A.depth<recursionLimit:=by have:=r.dp;omega
theorem mH.units{k:Nat}{A:Around}(r:mH k A):A.units+64<cLine:=by have:=r.un;omega
noncomputable def Ro:TA:=λ_ H Q=>Q [] H
noncomputable def uy(ta:TE)(tr:TA):TA:=λσ H Q=>ta σ H λx H1=>tr σ H1 λxs H2=>Q (x::xs) H2
section
variable{X:Cx}{e:Expr}{es:List Expr}{te:TE}{t:TA}{pos:Pos}
def fO:PA X [] Ro:=λ_ _ _ _ H Q I h=>Calls.spliced_nil ⟨[],H,I,.nil,h⟩
def fH(ha:PE X e te)(hr:PA X es t)(hs:starEach (e::es) X.env=(false,eval e X.env)::starEach es X.env:=by rfl):PA X (e::es) (uy te t):=by
 intro pos pins s σ H Q I h;rw[hs];show wpAny _ _ (spliced ((false,eval e X.env)::backTo pos (starEach es X.env))) _ _ s;refine Calls.spliced_cons (thn (ha pins s σ H _ I h) λu s1 ⟨x,H1,I1,r1,z⟩=>?_);exact thn (hr pos pins s1 σ H1 _ I1 z) λus s2 ⟨xs,H2,q,r2,q2⟩=>⟨x::xs,H2,q,.cons r1 r2,q2⟩
noncomputable def abR(t:TA):TE:=λσ H Q=>t σ H λxs H1=>xs.length<=sizeLine/\∀p,H1 p=none->Q (.ref p) (upd H1 p (.tup xs))
noncomputable def ZG(t:TA):TE:=λσ H Q=>t σ H λxs H1=>xs.length<=sizeLine/\∀p,H1 p=none->Q (.ref p) (upd H1 p (.lst xs))
def jJ{x1}(h:PA X es t):PE X (.Tuple es x1 pos) (abR t):=by
 intro pins s σ H Q I hq;refine wpAny_Tuple_spliced (thn (h pos pins s σ H _ I hq) λus s1 ⟨xs,H1,I1,r,z,q⟩=>⟨by rw[<-r.length];exact z,?_⟩);have hf:H1 s1.heap.objs.size=none:=I1.hok.fresh (zj _);refine⟨.ref s1.heap.objs.size,upd H1 s1.heap.objs.size (.tup xs),I1.laid (t':=s1.toks) (λb u e=>zd _ e) (zj _) ?_,rfl,q _ hf⟩;exact⟨z,us,r,⟨_,zP _ rfl,rfl,_,rfl⟩⟩
def ig(h:PA X es t):PE X (.List es pos) (ZG t):=by
 intro pins s σ H Q I hq;refine wpAny_List_spliced (thn (h pos pins s σ H _ I hq) λus s1 ⟨xs,H1,I1,r,z,q⟩=>⟨by rw[<-r.length];exact z,?_⟩);have hf:H1 s1.heap.objs.size=none:=I1.hok.fresh (zj _);refine⟨.ref s1.heap.objs.size,upd H1 s1.heap.objs.size (.lst xs),I1.laid (t':=s1.toks) (λb u e=>zd _ e) (zj _) ?_,rfl,q _ hf⟩;exact⟨z,us,0,r,zP _ rfl⟩
end
abbrev Sp:=List V->Hp->VK->XK->Prop
abbrev CXT:=List Env->Hp->Shared->XK->Value->Shared->Prop
structure Vy(P:Program)(w:World)(K:Fg_)(mg:Str->Option Value)(base:Heap)(A:Around)(outer:List Env)(s:Shared)(H:Hp):Prop where
 frames:A.frames=some outer
 mod:Mod K mg base
 bs:∀b o,base.get? b=some o->s.heap.get? b=some o/\H b=none
 bsz:base.objs.size<=s.heap.objs.size
 funs:s.heap.FunFrames base outer
 frf:∀b∈frs outer,H b=none
 hok:HOk P w H s.heap
 bare:AllBare s.gens
noncomputable def CE(outer:List Env)(P:Program)(w:World)(H:Hp)(s:Shared)(Q:VK)(u:Value)(s':Shared):Prop:=
 ∃v H',s'.os=s.os/\AllBare s'.gens/\Un (frs outer) [] H H' s.heap s'.heap/\HOk P w H' s'.heap/\RelV v u/\Q v H'
noncomputable def CR(CX:CXT)(outer:List Env)(P:Program)(w:World)(H:Hp)(s:Shared)(Q:VK)(E:XK)(r:Result)(s':Shared):Prop:=
 match r with
 |.ok (.ret u)=>CE outer P w H s Q u s'
 |.ok _=>False
 |.error e=>CX outer H s E e s'
structure jn(P:Program)(w:World)(K:Fg_)(mg:Str->Option Value)(base:Heap)(CX:CXT)(k:Nat)(f:Addr)(fd:FuncData)(ps:List Str)(sp:Sp):Prop where
 len:∀vs H Q E,sp vs H Q E->vs.length=ps.length
 run:∀(A:Around)(outer:List Env)(s:Shared)(H:Hp)(args:Args)(us:List Value)(vs:List V)(Q:VK)(E:XK),mH k A->Vy P w K mg base A outer s H->BindsTo s fd args (ps.zip us)->Vals vs us->sp vs H Q E->
  codeAny (model P w) A (.call (.ref f) args) (CR CX outer P w H s Q E) s
def Vy.make{P:Program}{w:World}{K:Fg_}{mg:Str->Option Value}{base:Heap}{A:Around}{outer:List Env}{s:Shared}{H:Hp}(e:Vy P w K mg base A outer s H)(C:Addr)(us:List Value)(q:List (Str×Value)):
  Vy P w K mg base (A.under (.builtin "type.__call__" ⟨.ref C::us,q⟩)) outer s H:=⟨by first|exact e.frames|(simpa [Around.under,Code.envs,Code.isFrame,pushEnvs] using e.frames),e.mod,e.bs,e.bsz,e.funs,e.frf,e.hok,e.bare⟩
section
variable{X:Cx}{pins:List (Addr×Obj)}{σ:St}{H:Hp}{s s':Shared}
def Inv.env0(I:Inv X pins σ H s):Vy X.prog X.w X.K X.mg X.base X.A X.stack s H:=
 ⟨I.ok.frames,I.ok.mod,I.bs,zQ I.ok.bsz I.sz,I.stack,I.stkFree,I.hok,I.bare⟩
def Inv.after{Q:VK}{u:Value}(I:Inv X pins σ H s)(h:CE X.stack X.prog X.w H s Q u s'):EP X pins σ Q u s':=by
 obtain⟨v,H',os,bare,un,hok,r,q⟩:=h;obtain⟨hh,g,d,t,aa⟩:=s';obtain rfl:aa=s.os:=os;exact⟨v,H',I.call (h':=hh) (g':=g) (d':=d) (t':=t) (ch:=[]) un hok bare (λb z=>absurd z (by simp)),r,q⟩
end
noncomputable def Vd(sp:Sp)(dvs:List V)(E:XK)(t:TA):TE:=λσ H Q=>t σ H λvs H1=>sp (vs++dvs) H1 Q E
noncomputable def aah(C:Addr)(sp:Sp)(dvs:List V)(E:XK)(t:TA):TE:=λσ H Q=>t σ H λvs H1=>∀x dx,H1 x=none->H1 dx=none->dx≠x->
 sp (.ref x::(vs++dvs)) (upd (upd H1 dx (.own x)) x (.ins C dx [])) (λv H2=>v=.non/\Q (.ref x) H2) E
noncomputable def Binds(K:Fg_)(fd:FuncData)(ps:List Str)(ds:List Value):Prop:=
 ∀(s:Shared)(us:List Value),K.In s.heap->(us++ds).length=ps.length->BindsTo s fd ⟨us,[]⟩ (ps.zip (us++ds))
def Binds.all{K:Fg_}{fd:FuncData}{ps:List Str}(h:∀us:List Value,us.length=ps.length->bindArgs fd ⟨us,[]⟩=pure (ps.zip us)):Binds K fd ps []:=λs us _ q=>by
 rw[yr]at q⊢;exact .of_eq (h us q)
noncomputable def vN(CX:CXT)(X:Cx)(E:XK):Prop:=∀(pins:List (Addr×Obj))(σ:St)(H:Hp)(s:Shared)(e:Value)(s':Shared),Inv X pins σ H s->CX X.stack H s E e s'->X.xe e s'
section
variable{X:Cx}{CX:CXT}{k:Nat}{f C:Addr}{fd:FuncData}{ps:List Str}{sp:Sp}{dvs:List V}{ds:List Value}{E:XK}{x m:Str}{p pos apos:Pos}{e o:Expr}{es:List Expr}{ta:TE}{t:TA}
def Tw{pins:List (Addr×Obj)}{σ:St}{H:Hp}{s:Shared}{Q:VK}{us:List Value}{vs:List V}(F:jn X.prog X.w X.K X.mg X.base CX k f fd ps sp)(hr:mH k X.A)(hb:Binds X.K fd ps ds)(hd:Vals dvs ds)(hx:vN CX X E)
  (I:Inv X pins σ H s) (r:Vals vs us) (h:sp (vs++dvs) H Q E):wpAny (model X.prog X.w) X.A (call (.ref f) us) (EP X pins σ Q) X.xe s:=by
 have z:Vals (vs++dvs) (us++ds):=r.append hd;have hl:(us++ds).length=ps.length:=by rw[<-z.length];exact F.len _ _ _ _ h
 refine zz6 (codeAny_mono (F.run X.A X.stack s H ⟨us,[]⟩ (us++ds) (vs++dvs) Q E hr I.env0 (hb s us I.kIn hl) z h) λr s' q=>?_)
 cases r with
 |error e=>exact hx pins σ H s e s' I q
 |ok fl=>
  cases fl with
  |ret u=>exact I.after q
  |next=>exact False.elim q
  |brk=>exact False.elim q
  |cont=>exact False.elim q
def iu(F:jn X.prog X.w X.K X.mg X.base CX k f fd ps sp)(hr:mH k X.A)(hg:Gl X x)(hm:X.mg x=some (.ref f))(hk:PySem.W.keepIn X.K (.ref f)=true)(hb:Binds X.K fd ps ds)(hd:Vals dvs ds)(hx:vN CX X E)
  (ha:PA X (e::es) t) (z:(x==("__debug__" :Str))=false:=by decide) (he:starEach (e::es) X.env=(false,eval e X.env)::starEach es X.env:=by rfl) (hpl:(backTo pos (starEach es X.env)).any (·.1)=false:=by rfl):
  PE X (.Call (.Name x p) (e::es) [] pos) (Vd sp dvs E t):=by
 intro pins s σ H Q I h;refine ym (lQ I hg hm ?_ z);refine yH (h₀:=X.base) I.ok.mod.kin hk (thn (ha pos pins s σ H _ I h) λus s1 ⟨vs,H1,I1,r,q⟩=>⟨I1.kIn,?_⟩) he hpl;exact Tw F hr hb hd hx I1 r q
structure Mk(K:Fg_)(C f:Addr):Prop where
 makes:PySem.W.makesIn K C=true
 init:PySem.W.findIn K (.ref C) "__init__" =some (some (.ref f))
 fn:PySem.W.isFn K (.ref f)=true
 kp:PySem.W.keepIn K (.ref C)=true
def Ui{pins:List (Addr×Obj)}{σ:St}{H:Hp}{s:Shared}{Q:VK}{us:List Value}{vs:List V}(M:Mk X.K C f)(F:jn X.prog X.w X.K X.mg X.base CX k f fd ps sp)(hr:mH (k+1) X.A)(hb:Binds X.K fd ps ds)(hd:Vals dvs ds)
  (hx:vN CX X E) (I:Inv X pins σ H s) (r:Vals vs us)
  (h:∀x dx,H x=none->H dx=none->dx≠x->sp (.ref x::(vs++dvs)) (upd (upd H dx (.own x)) x (.ins C dx [])) (λv H2=>v=.non/\Q (.ref x) H2) E):
  wpAny (model X.prog X.w) X.A (call (.ref C) us) (EP X pins σ Q) X.xe s:=by
 have hq:=h (s.heap.objs.size+1) s.heap.objs.size (I.hok.fresh (zzn _)) (I.hok.fresh (zj _)) (zN (Nat.lt_succ_self _));have z:=Inv.made (C:=C) I;have r2:Vals (V.ref (s.heap.objs.size+1)::(vs++dvs)) (Value.ref (s.heap.objs.size+1)::(us++ds)):=.cons rfl (r.append hd)
 have hl:(Value.ref (s.heap.objs.size+1)::us++ds).length=ps.length:=by
  have e:=r2.length;rw[F.len _ _ _ _ hq]at e;exact e.symm
 refine zz6 (Ve (f:=f) I.kIn M.makes M.init (beq_iff_eq.mp M.fn) (codeAny_mono (F.run _ X.stack _ _ ⟨Value.ref (s.heap.objs.size+1)::us,[]⟩ (Value.ref (s.heap.objs.size+1)::(us++ds)) _ _ E (hr.make C us [])
  (z.env0.make C us []) (hb _ (Value.ref (s.heap.objs.size+1)::us) z.kIn hl) r2 hq) λr s' q=>?_))
 cases r with
 |error e=>exact hx pins σ _ _ e s' z q
 |ok fl=>
  cases fl with
  |ret u=>
   obtain⟨v,H',I3,rv,ev,q3⟩:=z.after q;subst ev;exact⟨rv,⟨V.ref (s.heap.objs.size+1),H',I3,rfl,q3⟩⟩
  |next=>exact False.elim q
  |brk=>exact False.elim q
  |cont=>exact False.elim q
def xY(M:Mk X.K C f)(F:jn X.prog X.w X.K X.mg X.base CX k f fd ps sp)(hr:mH (k+1) X.A)(hg:Gl X x)(hm:X.mg x=some (.ref C))(hb:Binds X.K fd ps ds)(hd:Vals dvs ds)(hx:vN CX X E)
  (ha:PA X (e::es) t) (z:(x==("__debug__" :Str))=false:=by decide) (he:starEach (e::es) X.env=(false,eval e X.env)::starEach es X.env:=by rfl) (hpl:(backTo pos (starEach es X.env)).any (·.1)=false:=by rfl):
  PE X (.Call (.Name x p) (e::es) [] pos) (aah C sp dvs E t):=by
 intro pins s σ H Q I h;refine ym (lQ I hg hm ?_ z);refine yH (h₀:=X.base) I.ok.mod.kin M.kp (thn (ha pos pins s σ H _ I h) λus s1 ⟨vs,H1,I1,r,q⟩=>⟨I1.kIn,?_⟩) he hpl;exact Ui M F hr hb hd hx I1 r q
end
noncomputable def PK(X:Cx)(kws:List Keyword)(t:TA):Prop:=
 ∀(pos:Pos)(pins:List (Addr×Obj))(s:Shared)(σ:St)(H:Hp)(Q:List V->Hp->Prop),Inv X pins σ H s->t σ H Q->wpAny (model X.prog X.w) X.A (evalAll ((backToKw pos (keywordEach kws X.env)).map (·.2))) (AP X pins σ Q) X.xe s
section
variable{X:Cx}{CX:CXT}{k:Nat}{f C:Addr}{fd:FuncData}{ps ks:List Str}{sp:Sp}{E:XK}{x m:Str}{p pos apos kpos:Pos}{e o:Expr}{es:List Expr}{kws:List Keyword}{te ta:TE}{t tk:TA}{nm:Option Str}
def aav:PK X [] Ro:=λ_ _ _ _ H Q I h=>wpAny_evalAll_nil ⟨[],H,I,.nil,h⟩
def Yr(ha:PE X e te)(hr:PK X kws t):PK X (⟨nm,e,kpos⟩::kws) (uy te t):=by
 intro pos pins s σ H Q I h;show wpAny _ _ (evalAll ((do let v<-eval e X.env;standAt pos;pure v)::(backToKw pos (keywordEach kws X.env)).map (·.2))) _ _ s;refine wpAny_evalAll_cons (ze (thn (ha pins s σ H _ I h) λu s1 ⟨x,H1,I1,r1,z⟩=>ze (yF (zn ?_))));exact thn (hr pos pins s1 σ H1 _ I1 z) λus s2 ⟨xs,H2,q,r2,q2⟩=>⟨x::xs,H2,q,.cons r1 r2,q2⟩
structure abT(K:Fg_)(fd:FuncData)(ps ks:List Str)(g:List Value->List Value->List Value)(gV:List V->List V->List V):Prop where
 to:∀(s:Shared)(us ws:List Value),K.In s.heap->(g us ws).length=ps.length->BindsTo s fd ⟨us,ks.zip ws⟩ (ps.zip (g us ws))
 rel:∀{vs:List V}{us:List Value}{zs:List V}{ws:List Value},Vals vs us->Vals zs ws->Vals (gV vs zs) (g us ws)
variable{g:List Value->List Value->List Value}{gV:List V->List V->List V}
end
structure gb(N P:List Str)(sc:Scope):Prop where
 kind:sc.kind=.function
 co:sc.isCoroutine=false
 gen:sc.isGenerator=false
 nd:N.Nodup
 pre:N.take P.length=P
 par:∀x∈P,sc.names.lookup x=some .local\/sc.names.lookup x=some .cell
 nofree:∀y∈sc.names,y.2≠.free
theorem Ip{q:Str->Option NameKind}{x:Str}:∀{binds:List (Str×Value)}{m:Str->Option Value},(∀v,(x,v)∉binds)->bindL q binds m x=m x
 |[],_,_=>rfl
 |(n,v)::r,m,h=>by
  unfold bindL;rw[Ip λw z=>h w (zt _ z)];split
  ·have:x≠n:=by rintro rfl;exact h v zi
   simp[this]
  ·rfl
theorem Hu{q:Str->Option NameKind}{x:Str}:∀{binds:List (Str×Value)}{m:Str->Option Value},(∀v,(x,v)∉binds)->bindC q binds m x=m x
 |[],_,_=>rfl
 |(n,v)::r,m,h=>by
  unfold bindC;rw[Hu λw z=>h w (zt _ z)];split
  ·rfl
  ·have:x≠n:=by rintro rfl;exact h v zi
   simp[this]
theorem Jg{q:Str->Option NameKind}{x:Str}{v:Value}:∀{P:List Str}{vs:List Value}{i:Nat}{m:Str->Option Value},P.Nodup->P[i]? =some x->vs[i]? =some v->q x=some .local->
  bindL q (P.zip vs) m x=some v
 |[],_,_,_,_,h,_,_=>by simp at h
 |_::_,[],_,_,_,_,h,_=>by simp at h
 |p::P,w::vs,0,m,nd,h1,h2,hk=>by
  simp at h1 h2;subst h1;subst h2;show bindL q ((p,w)::P.zip vs) m p=_;unfold bindL;rw[Ip λv z=>(yI.mp nd).1 (zzL z).1,zu hk];simp
 |p::P,w::vs,i+1,m,nd,h1,h2,hk=>by
  show bindL q ((p,w)::P.zip vs) m x=_;unfold bindL;exact Jg (i:=i) (yI.mp nd).2 (by simpa using h1) (by simpa using h2) hk
theorem Il{q:Str->Option NameKind}{x:Str}{v:Value}:∀{P:List Str}{vs:List Value}{i:Nat}{m:Str->Option Value},P.Nodup->P[i]? =some x->vs[i]? =some v->q x≠some .local->
  bindC q (P.zip vs) m x=some v
 |[],_,_,_,_,h,_,_=>by simp at h
 |_::_,[],_,_,_,_,h,_=>by simp at h
 |p::P,w::vs,0,m,nd,h1,h2,hk=>by
  simp at h1 h2;subst h1;subst h2;show bindC q ((p,w)::P.zip vs) m p=_;unfold bindC;rw[Hu λv z=>(yI.mp nd).1 (zzL z).1,zo hk];simp
 |p::P,w::vs,i+1,m,nd,h1,h2,hk=>by
  show bindC q ((p,w)::P.zip vs) m x=_;unfold bindC;exact Il (i:=i) (yI.mp nd).2 (by simpa using h1) (by simpa using h2) hk
noncomputable def start(N:List Str)(vs:List V):St:=vs.map some++List.replicate (N.length - vs.length) none
noncomputable def uD(CX:CXT)(P:Program)(w:World)(K:Fg_)(mg:Str->Option Value)(base:Heap)(N:List Str)(qual:Str)(scope:Scope)(f:Addr)(cd:Value)(A:Around)(outer:List Env)(s:Shared)(H:Hp)(E:XK):Cx where
 prog:=P
 w:=w
 K:=K
 mg:=mg
 base:=base
 A:=A.deeper (envOfC qual scope s.heap.objs.size f cd)
 N:=N
 s₀:=s
 H₀:=H
 env:=envOfC qual scope s.heap.objs.size f cd
 outer:=outer
 stack:=envOfC qual scope s.heap.objs.size f cd::outer
 ex:=[]
 calm:=true
 fn:=λ_=>true
 pn:=[]
 xe:=λe s'=>wpAny (model P w) (A.deeper (envOfC qual scope s.heap.objs.size f cd)) (leaving (envOfC qual scope s.heap.objs.size f cd) e) (λ_ s''=>CX outer H s E e s'') (λe' s''=>CX outer H s E e' s'') s'
def Nb{z:Scope}{n:Nat}{x:Str}(h:z.names.lookup x=some .cell):∃c,(cellsFrom n z.names []).lookup x=some c:=by
 have q:=zzq z.names n [] (.inl h);exact yO.mp q
def Iu{CX:CXT}{P:Program}{w:World}{K:Fg_}{mg:Str->Option Value}{base:Heap}{N ps:List Str}{qual:Str}{scope:Scope}{f:Addr}{cd:Value}{A:Around}{outer:List Env}{s s1:Shared}{H:Hp}{E:XK}{us:List Value}{vs:List V}
  (S:gb N ps scope) (hd:A.handled=none) (e0:Vy P w K mg base A outer s H) (hl:vs.length=ps.length) (r:Vals vs us)
  (x:InCallC s s.heap.objs.size (bindL (envOfC qual scope s.heap.objs.size f cd).kindOf (ps.zip us) λ_=>none) (cellsFrom (s.heap.objs.size+1) scope.names []) (bindC (envOfC qual scope s.heap.objs.size f cd).kindOf (ps.zip us) λ_=>none) s1):
  Inv (uD CX P w K mg base N qual scope f cd A outer s H E) [] (start N vs) H s1:=by
 have ac:ps.length<=N.length:=by have:=congrArg List.length S.pre;rw[zv]at this;omega
 obtain⟨h1,tk,rfl,hk⟩:=x.done;have aa:∀b:Addr,b∉(uD CX P w K mg base N qual scope f cd A outer s H E).ex:=λb z=>absurd (show b∈([]:List Addr)from z) (by simp)
 refine ⟨⟨e0.mod,S.kind,rfl,rfl,zj _,λy z c h1 h2=>?_,λy hy=>?_,λy c _ h=>?_,λ_=>hd,Around.frames_deeper e0.frames,.inr ⟨rfl,rfl⟩,λb z=>absurd z (aa b),e0.bs,e0.bsz,λb _ _=>aa b,λb z=>absurd z (aa b),e0.funs,e0.frf⟩,
  rfl,e0.bare,Un.kept hk,⟨_,x.toInCall.ns,λi y v h1 h2 h3=>?_⟩,λy c h=>⟨_,x.cell y c h⟩,e0.hok.fresh (zj _),λy c h=>?_,λp hp=>absurd (show p∈([]:List (Addr×Obj))from hp) (by simp),e0.hok.kept hk,?_⟩
 ·exact name_of_addr x.apart (yQ h1) (yQ h2)
 ·have hy:scope.names.lookup y=some .cell\/scope.names.lookup y=some .free:=hy
  rcases hy with hy|hy
  ·exact Nb hy
  ·exact absurd rfl (S.nofree _ (yQ hy))
 ·exact zzV (x.above y c (yQ h))
 ·have hi:i<vs.length:=by
   unfold start at h2;by_cases hi:i<vs.length
   ·exact hi
   ·rw[zT (by simpa using hi)]at h2
    rw[List.getElem?_replicate]at h2;split at h2<;>cases h2
  have ha:vs[i]? =some v:=by
   unfold start at h2;rw[zW (by simpa using hi),zB]at h2
   cases e:vs[i]? with
   |none=>rw[e]at h2;cases h2
   |some a=>rw[e]at h2;cases h2;rfl
  obtain⟨u,hu,rv⟩:=r.get ha
  have hp:ps[i]? =some y:=by
   rw[<-S.pre,yk (by omega)];exact h1
  have ab:ps.Nodup:=by rw[<-S.pre];exact S.nd.sublist (zzr _ _)
  refine⟨u,rv,?_⟩;rcases S.par y (za hp)with k|k
  ·exact .inl ⟨k,Jg ab hp hu k⟩
  ·obtain⟨c,e⟩:=Nb (n:=s.heap.objs.size+1) k
   refine .inr ⟨.inl k,c,e,?_⟩;have q:=x.cell y c e;rw[Il ab hp hu (by show scope.names.lookup y≠_;rw[k];decide)]at q;exact q
 ·exact e0.hok.fresh (zzV (x.above y c (yQ h)))
 ·unfold start
  show _=N.length;rw[zh,zb,zzx];omega
def Uj{CX:CXT}{P:Program}{w:World}{K:Fg_}{mg:Str->Option Value}{base:Heap}{k:Nat}{f:Addr}{name qual:Str}{aa:Arguments}{ab:List Stmt}{scope:Scope}{dV kV ae pm z ct oc:Value}{an od:Option Addr}
  {ah:Array (Option Value)} {N ps:List Str} {sp:Sp} (lk:K.lookup f=some ⟨oc,od,.func (PySem.W.fnOf name qual aa ab scope dV kV ae pm an z ct),ah⟩) (aj:PySem.W.codeIn K z qual=true) (S:gb N ps scope)
  (len:∀vs H Q E,sp vs H Q E->vs.length=ps.length)
  (ad:∀(A:Around)(outer:List Env)(s:Shared)(H:Hp)(vs:List V)(Q:VK)(E:XK),mH k (A.deeper (envOfC qual scope s.heap.objs.size f z))->sp vs H Q E->
   ∃t,PSs (uD CX P w K mg base N qual scope f z A outer s H E) ab t/\t {nx:=λ_ H'=>Q .non H',rt:=Q} (start N vs) H):
  jn P w K mg base CX (k+1) f (PySem.W.fnOf name qual aa ab scope dV kV ae pm an z ct) ps sp:=by
 refine⟨len,λA outer s H args us vs Q E hr e0 hb r ag=>?_⟩;have hl:=len _ _ _ _ ag;have KX:K.In s.heap:=e0.mod.kin.keeps λb o e=>(e0.bs b o e).1;have ai:s.heap.NoLimit:=e0.mod.nolimit.keeps λb o e=>(e0.bs b o e).1
 have ac:∀y∈ps.zip us,scope.names.lookup y.1=some .local\/(scope.names.lookup y.1=some .cell/\((cellsFrom (s.heap.objs.size+1) scope.names []).lookup y.1).isSome=true):=fun⟨n,v⟩ hy=>by
  rcases S.par n (zzL hy).1 with q|q
  ·exact .inl q
  ·exact .inr ⟨q,zzq _ _ _ (.inl q)⟩
 refine codeAny_call_function hr.depth (KX _ _ lk) rfl S.co S.gen rfl (PySem.W.codeRec_of KX aj) (hb _ _ _ _ ?_);refine zz7 S.kind ac λenv he s1 x=>?_;subst he;refine⟨ai.keeps x.toInCall.keep,codeAny_func ?_⟩;obtain⟨t,ht,hq⟩:=ad A outer s H vs Q E (hr.deeper _) ag;have I:Inv (uD CX P w K mg base N qual scope f z A outer s H E) [] (start N vs) H s1:=Iu S hr.hd e0 hl r x;refine zR (ht [] s1 (start N vs) H _ I hq) (λfl s' hs=>?_) λe s' hs=>hs
 have af:∀{σ':St}{H':Hp}{v:V}{u:Value},Inv (uD CX P w K mg base N qual scope f z A outer s H E) [] σ' H' s'->RelV v u->Q v H'->CE outer P w H s Q u s':=
  fun{σ' H' v u} J rv q=>⟨v,H',J.os,J.bare,J.base,J.hok,rv,q⟩
 cases fl with
 |ret u=>
  obtain⟨v,σ',H',J,rv,q⟩:=hs;exact af J rv q
 |next=>
  obtain⟨σ',H',J,q⟩:=hs;exact af (v:=V.non) (u:=Value.none) J rfl q
 |brk=>
  obtain⟨_,_,_,q⟩:=hs;exact False.elim q
 |cont=>
  obtain⟨_,_,_,q⟩:=hs;exact False.elim q
end L2
namespace L2
open PySem PySem.Spec PyProof.Rows
section
variable{X:Cx}{x:Str}{p pos:Pos}{e:Expr}{es:List Expr}{t:TA}{id T:String}{r:List V->Hp->VK->Prop}
noncomputable def tCB(r:List V->Hp->VK->Prop)(t:TA):TE:=λσ H Q=>t σ H λvs H1=>r vs H1 Q
def gG(hc:jY X (.builtin id) r)(z:Gl X x)(hm:X.mg x=none)(q:bootBuiltins x=some (.builtin id))(ha:PA X (e::es) t)(hn:x≠ "__name__" :=by decide) (hdb:(x==("__debug__" :Str))=false:=by decide)
  (he:starEach (e::es) X.env=(false,eval e X.env)::starEach es X.env:=by rfl) (hpl:(backTo pos (starEach es X.env)).any (·.1)=false:=by rfl):PE X (.Call (.Name x p) (e::es) [] pos) (tCB r t):=by
 intro pins s σ H Q I h;refine ym (Ep I z hm q ?_ hn hdb);exact PyProof.Rows.callWith_builtin1 (thn (ha pos pins s σ H _ I h) λus s1 ⟨vs,H1,I1,r1,q1⟩=>hc pins s1 σ H1 vs us Q I1 r1 q1) he hpl
def iU(hc:jY X (.type T) r)(z:Gl X x)(hm:X.mg x=none)(q:bootBuiltins x=some (.type T))(ha:PA X (e::es) t)(hn:x≠ "__name__" :=by decide) (hdb:(x==("__debug__" :Str))=false:=by decide)
  (he:starEach (e::es) X.env=(false,eval e X.env)::starEach es X.env:=by rfl) (hpl:(backTo pos (starEach es X.env)).any (·.1)=false:=by rfl):PE X (.Call (.Name x p) (e::es) [] pos) (tCB r t):=by
 intro pins s σ H Q I h;refine ym (Ep I z hm q ?_ hn hdb);exact PyProof.Rows.callWith_type1 (thn (ha pos pins s σ H _ I h) λus s1 ⟨vs,H1,I1,r1,q1⟩=>hc pins s1 σ H1 vs us Q I1 r1 q1) he hpl
end
end L2
namespace HT
open PySem PyProof.Rows
section
open PySem.SeqAt
open PySem.AutoSeq1 (wpAny_loadPart')
open PySem.MeetsSeq PySem.MeetsSeq2 PySem.MeetsSeq3
end
section
variable{prog:Program}{w:World}{A:Around}{E:Value->Shared->Prop}{s:Shared}
def cat_tup{t b:Addr}{vs ws:List Value}{Q:Value->Shared->Prop}(ht:IsTup s.heap t vs.toArray)(hb:IsTup s.heap b ws.toArray)(hv:vs≠[])
  (h1:ws=[]->Q (.ref t) s) (h2:ws≠[]->Q (.ref s.heap.objs.size) {s with heap:=s.heap.push {cls:=.type "tuple",data:=.seq (vs++ws).toArray}})
  (hsz:vs.length+ws.length<=sizeLine):wpAny (model prog w) A (binaryOp .Add (.ref t) (.ref b)) Q E s:=by
 obtain⟨⟨cls,dd,data,sl⟩,ho,hc,n,hd⟩:=id ht;obtain⟨⟨ae,z,ad,ac⟩,q,ab,n2,aa⟩:=id hb;simp only at hc hd ab aa;subst hc hd ab aa;have e:vs.toArray++ws.toArray=(vs++ws).toArray:=by simp
 by_cases hw:ws=[]
 ·exact concat_meets ⟨_,ho,rfl⟩ ⟨_,q,rfl⟩ noFill_tuple_add seq_tuple_add PySem.F.slot_tuple_add PySem.F.entry_tuple_add (PySem.F.args_tuple_add_2 _ _)
   (tuple_addW1 t b vs.toArray ws.toArray n n2 dd z sl ac (by simpa using hv) (by simp[hw])) ⟨ho,q,h1 hw⟩
 ·refine concat_meets ⟨_,ho,rfl⟩ ⟨_,q,rfl⟩ noFill_tuple_add seq_tuple_add PySem.F.slot_tuple_add PySem.F.entry_tuple_add (PySem.F.args_tuple_add_2 _ _)
   (tuple_addW2 t b vs.toArray ws.toArray n n2 dd z sl ac (by simpa using hv) (by simpa using hw) (by rw[zm,zm];exact hsz)) ⟨ho,q,?_⟩
  rw[e];exact h2 hw
noncomputable def sIx(n d:Nat):Option Int->Nat
 |none=>d
 |some v=>if v<0 then(v+(n:Int)).toNat else min v.toNat n
def sIx_none(n d:Nat):sIx n d none=d:=rfl
def sIx_nat(n d k:Nat):sIx n d (some (k:Int))=min k n:=by
 show(if(k:Int)<0 then((k:Int)+(n:Int)).toNat else min (k:Int).toNat n)=min k n;rw[zo (by omega),Int.toNat_natCast]
def aaA(n d:Nat)(hd:d<=n)(o:Option Int):sIx n d o<=n:=by
 cases o with
 |none=>exact hd
 |some v=>
  show(if v<0 then(v+(n:Int)).toNat else min v.toNat n)<=n;by_cases q:v<0
  ·rw[zu q];omega
  ·rw[zo q];exact Nat.min_le_right _ _
def Qz(v:Int)(n d:Nat):(if v<0 then max (v+(n:Int)) 0 else min v (n:Int))=((sIx n d (some v):Nat):Int):=by
 show(if v<0 then max (v+(n:Int)) 0 else min v (n:Int))=(((if v<0 then(v+(n:Int)).toNat else min v.toNat n):Nat):Int);by_cases q:v<0
 ·simp only[zu q];omega
 ·simp only[zo q];omega
def Om(lo hi:Option Int)(n:Nat):Builtin.Slice.sliceAdjust lo hi 1 (n:Int)=(((sIx n 0 lo:Nat):Int),((sIx n n hi:Nat):Int)):=by
 have h1:¬((1:Int)<0):=by omega
 unfold Builtin.Slice.sliceAdjust;simp only[h1,if_false];refine Prod.ext ?_ ?_
 ·cases lo with
  |none=>rfl
  |some v=>exact Qz v n 0
 ·cases hi with
  |none=>rfl
  |some v=>exact Qz v n n
def Oa(i j:Nat):Builtin.Slice.slicePlaces (i:Int) (j:Int) 1=j - i:=by
 unfold Builtin.Slice.slicePlaces;have h1:(1:Int)>0:=by omega
 simp only[h1,if_true,Int.ediv_one];split<;>omega
def Fl{v:Value}{o:Option Int}{Q:Option Int->Shared->Prop}(p:IsPart v o)(h:Q o s):wpAny (model prog w) A (Builtin.Slice.slicePartIndex v) Q E s:=by
 cases p with
 |none=>exact slicePart_none h
 |int i t=>exact slicePart_int h
def Bv{sl:Addr}{vl vu:Value}{lo hi:Option Int}{n:Nat}{Q:Int×Int×Nat->Shared->Prop}(hs:s.heap.IsSliceOf sl vl vu .none)(pl:IsPart vl lo)(pu:IsPart vu hi)
  (h:Q (((sIx n 0 lo:Nat):Int),1,sIx n n hi - sIx n 0 lo) s):wpAny (model prog w) A (Builtin.Slice.sliceApplied (.ref sl) (pure (n:Int))) Q E s:=by
 obtain⟨os,z,aa,q⟩:=id hs;unfold Builtin.Slice.sliceApplied Builtin.Slice.sliceFields;refine ze (ze (zzc z q (x:=vl) rfl (ze (zzc z q (x:=vu) rfl (ze (zzc z q (x:=.none) rfl (zn ?_)))))));refine ze (slicePart_none ?_);show wpAny _ _ (if((1:Int)==0)=true then _ else _) _ _ s;rw[zo (by decide)];refine ze (Fl pl (ze (Fl pu (ze (zn ?_)))));show wpAny _ _ (match Builtin.Slice.sliceAdjust lo hi 1 (n:Int)with|(lo,hi)=>pure (lo,(1:Int),Builtin.Slice.slicePlaces lo hi 1)) _ _ s;rw[Om lo hi n];show wpAny _ _ (pure (((sIx n 0 lo:Nat):Int),(1:Int),Builtin.Slice.slicePlaces ((sIx n 0 lo:Nat):Int) ((sIx n n hi:Nat):Int) 1)) _ _ s;rw[Oa];exact zn h
def Vo(xs:Array Value)(i k:Nat):((List.range k).filterMap fun(m:Nat)=>xs[((i:Int)+(m:Int)*1).toNat]?).toArray=((xs.toList.drop i).take k).toArray:=by
 have e:(fun(m:Nat)=>xs[((i:Int)+(m:Int)*1).toNat]?)=λm=>xs[i+m]? :=by
  funext m;have:((i:Int)+(m:Int)*1).toNat=i+m:=by omega
  rw[this]
 rw[e];have:=pick_run xs i k;rw[List.filterMap_map]at this;have e2:((λx=>xs[x]?)∘λx=>i+x)=λm=>xs[i+m]? :=rfl;rw[e2]at this;rw[this]
def getItem_tuple_cut{t sl:Addr}{items:Array Value}{vl vu:Value}{lo hi:Option Int}{Q:Value->Shared->Prop}(ht:IsTup s.heap t items)(hs:s.heap.IsSliceOf sl vl vu .none)(pl:IsPart vl lo)(pu:IsPart vu hi)
  (hw:¬(sIx items.size 0 lo=0/\sIx items.size items.size hi=items.size))
  (h:Q (.ref s.heap.objs.size) {s with heap:=s.heap.push {cls:=.type "tuple",data:=.seq ((items.toList.drop (sIx items.size 0 lo)).take (sIx items.size items.size hi - sIx items.size 0 lo)).toArray}})
  (hsz:items.size<=sizeLine):wpAny (model prog w) A (getItem (.ref t) (.ref sl)) Q E s:=by
 have z:sizeOk (.seq ((items.toList.drop (sIx items.size 0 lo)).take (sIx items.size items.size hi - sIx items.size 0 lo)).toArray):=by
  show((items.toList.drop (sIx items.size 0 lo)).take (sIx items.size items.size hi - sIx items.size 0 lo)).toArray.size<=sizeLine;rw[zm,zv,yf,z7];omega
 have hj:sIx items.size items.size hi<=items.size:=aaA _ _ (zj _) hi;obtain⟨os,ad,aa,ae⟩:=id hs;have ab:s.TypeIs (.ref sl) "slice" :=⟨os,ad,aa⟩;unfold getItem
 try with_reducible refine yn ?_
 first|refine ze (zn ?_)|skip
 refine ze (wpAny_sequenceKey ht.typeIs (by decide) ?_)
 refine ze (wpAny_callSpecial?_slot (name:=Str.ofString "__getitem__") ht.typeIs PyProof.Rows.slot_tuple_getitem
  (wpAny_call_entry PyProof.Rows.slot_tuple_getitem ht.typeIs entry_tuple_getitem ?_ (args_tuple_getitem _ _)))
 show wpAny _ _ (Builtin.Tuple.tupleItemsOf (.ref t)>>=_) _ _ s;refine ze (tupleItemsOf_ ht ?_);refine ze (wpAny_typeOf ab ?_);rw[zu (by decide)];refine ze (Bv hs pl pu ?_)
 have ac:¬((((sIx items.size 0 lo:Nat):Int)==0 && (1:Int)==1 && (sIx items.size items.size hi - sIx items.size 0 lo)==items.size)=true):=by
  intro q;rw[zG,zG]at q;have q1:((sIx items.size 0 lo:Nat):Int)=0:=eq_of_beq q.1.1;have q2:sIx items.size items.size hi - sIx items.size 0 lo=items.size:=eq_of_beq q.2;exact hw ⟨by omega,by omega⟩
 show wpAny _ _ (if(((sIx items.size 0 lo:Nat):Int)==0 && (1:Int)==1 && (sIx items.size items.size hi - sIx items.size 0 lo)==items.size)=true then _ else _) _ _ s;rw[zo ac,Vo]
 first
  |exact ze (m:=Builtin.Tuple.tupleExact _) (y8 (zn ⟨_,rfl,zn h⟩) z)
  |exact ze (m:=Builtin.Tuple.tupleExact _) (y8 (ze (zn (zn ⟨_,rfl,zn h⟩))) z)
  |exact ze (ze (m:=Builtin.Tuple.tupleExact _) (y8 (zn (zn ⟨_,rfl,zn h⟩)) z))
  |exact ze (ze (m:=Builtin.Tuple.tupleExact _) (y8 (zn ⟨_,rfl,zn h⟩) z))
end
end HT
namespace L2
open PySem PySem.Spec PyProof.Rows
abbrev TO:=St->Hp->(Option Int->Hp->Prop)->Prop
noncomputable def PO(X:Cx)(e:Option Expr)(t:TO):Prop:=
 ∀(pins:List (Addr×Obj)) (s:Shared) (σ:St) (H:Hp) (Q:Option Int->Hp->Prop),Inv X pins σ H s->t σ H Q->
  wpAny (model X.prog X.w) X.A (evalPart e X.env) (λu s'=>∃o H',Inv X pins σ H' s'/\IsPart u o/\Q o H') X.xe s
noncomputable def SJ:TO:=λ_ H Q=>Q none H
noncomputable def aap(t:TE):TO:=λσ H Q=>t σ H λx H1=>∃i,x=.int i/\Q (some i) H1
def intsAre_of{ns:List Int}:∀{us:List Value},Vals (ns.map V.int) us->IntsAre us ns:=by
 induction ns with
 |nil=>intro us r;rw[yg]at r;cases r;exact .nil
 |cons n ns ih=>
  intro us r;rw[zg]at r
  cases r with
  |cons r1 r2=>
   obtain⟨t,e⟩:=r1;subst e;exact .cons n t (ih r2)
section
variable{X:Cx}{e:Expr}{te:TE}{lo hi:Option Expr}{tl th:TO}{pos p2:Pos}
def iB:PO X none SJ:=by
 intro pins s σ H Q I h;rw[evalPart_none];exact zn ⟨none,H,I,.none,h⟩
def ir(h:PE X e te):PO X (some e) (aap te):=by
 intro pins s σ H Q I hw;rw[evalPart_some];refine thn (h pins s σ H _ I hw) λu s1 ⟨x,H1,I1,r1,z⟩=>?_;obtain⟨i,rfl,q⟩:=z;obtain⟨t,rfl⟩:=r1;exact⟨some i,H1,I1,.int i t,q⟩
noncomputable def SlR(X:Cx)(r:V->Option Int->Option Int->Hp->VK->Prop):Prop:=
 ∀(pins:List (Addr×Obj)) (s:Shared) (σ:St) (H:Hp) (x:V) (v vl vu:Value) (lo hi:Option Int) (sl:Addr) (Q:VK),Inv X pins σ H s->RelV x v->s.heap.IsSliceOf sl vl vu .none->IsPart vl lo->IsPart vu hi->r x lo hi H Q->
  ∃T id,typeLookup (.type T) "__getitem__" =pure (some (.builtin id))/\s.TypeIs v T/\wpAny (model X.prog X.w) X.A (getItem v (.ref sl)) (EP X pins σ Q) X.xe s
noncomputable def tSl(r:V->Option Int->Option Int->Hp->VK->Prop)(te:TE)(tl th:TO):TE:=λσ H Q=>te σ H λx H1=>tl σ H1 λl H2=>th σ H2 λu H3=>r x l u H3 Q
def gM{r:V->Option Int->Option Int->Hp->VK->Prop}(hr:SlR X r)(he:PE X e te)(hl:PO X lo tl)(hu:PO X hi th):PE X (.Subscript e (.Slice lo hi none p2) pos) (tSl r te tl th):=by
 intro pins s σ H Q I h;refine Subscript_ (thn (he pins s σ H _ I h) λv s1 ⟨x,H1,I1,r1,q1⟩=>?_);refine wpAny_Slice (thn (hl pins s1 σ H1 _ I1 q1) λvl s2 ⟨l,H2,I2,pl,q2⟩=>thn (hu pins s2 σ H2 _ I2 q2) λvu z ⟨u,H3,I3,pu,q3⟩=>?_);rw[evalPart_none];refine zn ?_;have I4:Inv X pins σ H3 {z with heap:=z.heap.push {cls:=.type "slice",data:=.fields #[vl,vu,.none]}}:=I3.kept (t':=z.toks) λb ob q=>zd _ q;obtain⟨T,id,hT,ht,hg⟩:=hr pins {z with heap:=z.heap.push {cls:=.type "slice",data:=.fields #[vl,vu,.none]}} σ H3 x v vl vu l u z.heap.objs.size Q I4 r1 (Heap.IsSliceOf.new ..) pl pu q3;show wpAny (model X.prog X.w) X.A (subscriptTail e (.Slice lo hi none p2) v (.ref z.heap.objs.size)) (EP X pins σ Q) X.xe {z with heap:=z.heap.push {cls:=.type "slice",data:=.fields #[vl,vu,.none]}};exact tail_any (ops:=[.ref z.heap.objs.size,v]) ht hT hg (by with_unfolding_all rfl)
noncomputable def uN(xs:List V)(lo hi:Option Int):List V:=(xs.drop (HT.sIx xs.length 0 lo)).take (HT.sIx xs.length xs.length hi - HT.sIx xs.length 0 lo)
def Cw(xs:List V)(lo hi:Option Int):(uN xs lo hi).length<=xs.length:=by
 unfold uN;rw[zv,yf];omega
noncomputable def abd(K:Fg_):V->Option Int->Option Int->Hp->VK->Prop:=λx lo hi H Q=>∃a xs,x=.ref a/\SqT K H a xs/\
 ¬(HT.sIx xs.length 0 lo=0/\HT.sIx xs.length xs.length hi=xs.length)/\∀p,H p=none->Q (.ref p) (upd H p (.tup (uN xs lo hi)))
def aaF:SlR X (abd X.K):=by
 intro pins s σ H x v vl vu lo hi sl Q I rx hs pl pu h;obtain⟨a,xs,rfl,hx,hw,q⟩:=h;cases rx;obtain⟨its,r,ht,hz⟩:=I.tuple hx;have z:its.toArray.size=xs.length:=by rw[zm];exact r.length.symm
 refine⟨"tuple",_,PyProof.Rows.slot_tuple_getitem.lookup,ht.typeIs,?_⟩;refine HT.getItem_tuple_cut ht hs pl pu (by rw[z];exact hw) ?_ (by rw[z];exact hz);rw[z];refine⟨.ref s.heap.objs.size,_,I.laid (t':=s.toks) (o:=.tup (uN xs lo hi)) (λb ob q=>zd _ q) (zj _) ?_,rfl,q _ (I.hok.fresh (zj _))⟩;exact⟨zQ (Cw xs lo hi) hz,_,(r.drop (HT.sIx xs.length 0 lo)).take (HT.sIx xs.length xs.length hi - HT.sIx xs.length 0 lo),IsTup.new _ _⟩
noncomputable def aaz(K:Fg_):R2:=λx y H Q=>∃a b xs ys,x=.ref a/\y=.ref b/\SqT K H a xs/\SqT K H b ys/\xs≠[]/\xs.length+ys.length<=sizeLine/\
 (ys=[]->Q (.ref a) H)/\(ys≠[]->∀p,H p=none->Q (.ref p) (upd H p (.tup (xs++ys))))
def Vals.nil_iff{xs:List V}{us:List Value}(r:Vals xs us):us=[]↔xs=[]:=by
 cases r with
 |nil=>simp
 |cons _ _=>simp
def WX:OpR X (binaryOp .Add) (aaz X.K):=by
 intro pins s σ H x y v u Q I rx ry h;obtain⟨a,b,xs,ys,rfl,rfl,ha,hb,hx,hz,q1,q2⟩:=h;cases rx;cases ry;obtain⟨its,r1,p1,_⟩:=I.tuple ha;obtain⟨aa,r2,p2,_⟩:=I.tuple hb;refine HT.cat_tup p1 p2 (λz=>hx (r1.nil_iff.mp z)) (λz=>⟨.ref a,H,I,rfl,q1 (r2.nil_iff.mp z)⟩) (λz=>?_) (by rw[<-r1.length,<-r2.length];exact hz);refine⟨.ref s.heap.objs.size,_,I.laid (t':=s.toks) (o:=.tup (xs++ys)) (λb ob q=>zd _ q) (zj _) ?_,rfl,q2 (λw=>z (r2.nil_iff.mpr w)) _ (I.hok.fresh (zj _))⟩;exact⟨by rw[zh];exact hz,_,r1.append r2,IsTup.new _ _⟩
end
end L2
namespace L2
open PySem PySem.Spec PyProof.Rows
noncomputable def ixN(n:Nat)(i:Int):Option Nat:=if 0<=i then(if i<n then some i.toNat else none)else if -(n:Int)<=i then some (i+n).toNat else none
noncomputable def atI{α:Type}(xs:List α)(i:Int):Option α:=(ixN xs.length i).bind λj=>xs[j]?
def Yj{n:Nat}{i:Int}{j:Nat}(h:ixN n i=some j):seqIndex? i n=some j/\j<n/\ -(n:Int)<=i/\i<n:=by
 unfold ixN at h;by_cases q:0<=i
 ·rw[zu q]at h
  by_cases h1:i<n
  ·rw[zu h1]at h
   have e:i.toNat=j:=zf h;exact⟨by rw[seqIndex_of q h1,e],by omega,by omega,h1⟩
  ·rw[zo h1]at h;cases h
 ·rw[zo q]at h
  by_cases h1: -(n:Int)<=i
  ·rw[zu h1]at h
   have e:(i+n).toNat=j:=zf h;exact⟨by rw[seqIndex_neg (by omega) h1,e],by omega,h1,by omega⟩
  ·rw[zo h1]at h;cases h
def KQ{α:Type}{xs:List α}{i:Int}{v:α}(h:atI xs i=some v):∃j,seqIndex? i xs.length=some j/\xs[j]? =some v/\j<xs.length/\ -(xs.length:Int)<=i/\i<xs.length:=by
 unfold atI at h
 cases e:ixN xs.length i with
 |none=>rw[e]at h;cases h
 |some j=>
  rw[e]at h;obtain⟨h1,h2,q,z⟩:=Yj e;exact⟨j,h1,h,h2,q,z⟩
def jw{α:Type}{xs:List α}{j:Nat}{v:α}(h:xs[j]? =some v):atI xs (j:Int)=some v:=by
 have q:j<xs.length:=(zr.mp h).1
 have e:ixN xs.length (j:Int)=some j:=by
  unfold ixN;rw[zu (by omega),zu (by omega)];simp
 unfold atI;rw[e];exact h
noncomputable def Yn(b:Expr):Prop:=∀o i,subscripted b false o i=operate [o,i] (getItem o i)
noncomputable def IxR(X:Cx)(r:R2):Prop:=
 ∀(value slice:Expr) (pins:List (Addr×Obj)) (s:Shared) (σ:St) (H:Hp) (x y:V) (v u:Value) (Q:VK),Inv X pins σ H s->RelV x v->RelV y u->r x y H Q->
  subscripted slice false v u=operate [v,u] (getItem v u)->wpAny (model X.prog X.w) X.A (subscriptTail value slice v u) (EP X pins σ Q) X.xe s
noncomputable def MtR(X:Cx)(id:String)(r:V->List V->Hp->VK->Prop):Prop:=
 ∀(pins:List (Addr×Obj)) (s:Shared) (σ:St) (H:Hp) (x:V) (xs:List V) (v:Value) (us:List Value) (Q:VK),Inv X pins σ H s->RelV x v->Vals xs us->r x xs H Q->
  wpAny (model X.prog X.w) X.A (call (.builtin id) (v::us)) (EP X pins σ Q) X.xe s
section
variable{X:Cx}{a b:Expr}{ta tb:TE}{pos:Pos}
def gF{r:R2}(hr:IxR X r)(ha:PE X a ta)(hb:PE X b tb)(hs:Yn b):PE X (.Subscript a b pos) (tOp r ta tb):=by
 intro pins s σ H Q I h;exact Subscript_ (abk ha hb I h λv u s2 x y H2 I2 rx z q=>hr a b pins s2 σ H2 x y v u Q I2 rx z q (hs _ _))
noncomputable def YH(K:Fg_):R2:=λx y H Q=>∃p xs i v,x=.ref p/\y=.int i/\SqL K H p xs/\atI xs i=some v/\Q v H
noncomputable def aaV(K:Fg_):R2:=λx y H Q=>∃p xs i v,x=.ref p/\y=.int i/\SqT K H p xs/\atI xs i=some v/\Q v H
noncomputable def abL:R2:=λx y H Q=>∃z i c,x=.str z/\y=.int i/\z.length<=sizeLine/\atI z.cps.toList i=some c/\Q (.str ⟨#[c]⟩) H
def Yz:IxR X (YH X.K):=by
 intro value ac pins s σ H x y v u Q I rx ry h hs;obtain⟨p,xs,i,z,rfl,rfl,hq,he,q⟩:=h;cases rx;obtain⟨t,rfl⟩:=ry;obtain⟨its,r,pl,hz⟩:=I.list hq;obtain⟨j,h1,h2,h3,h4,h5⟩:=KQ he;obtain⟨w,ew,ab⟩:=r.get h2;have hl:=r.length;have hn:=JK;have aa:EP X pins σ Q w s:=⟨z,H,I,ab,q⟩;by_cases h0:0<=i
 ·have hj:i.toNat=j:=by
   rw[seqIndex_of h0 h5]at h1;exact zf h1
  exact item_listR pl.isList h0 (by omega) (by rw[hj];simpa using ew) aa hs
 ·have hj:(i+(its.toArray.size:Int)).toNat=j:=by
   rw[seqIndex_neg (by omega) h4]at h1;rw[zm,<-hl];exact zf h1
  exact subscriptTail_builtinR (x:=w) pl.isList.typeIs slot_list_getitem.lookup
   (wpAny_getItem_list_neg (Q:=λr s'=>r=w/\EP X pins σ Q r s') pl.isList (by omega) (by rw[zm]<;>omega) (by omega) (by rw[hj];simpa using ew) ⟨rfl,aa⟩) hs
def Zy:IxR X (aaV X.K):=by
 intro value ab pins s σ H x y v u Q I rx ry h hs;obtain⟨p,xs,i,z,rfl,rfl,hq,he,q⟩:=h;cases rx;obtain⟨t,rfl⟩:=ry;obtain⟨its,r,pl,hz⟩:=I.tuple hq;obtain⟨j,h1,h2,h3,h4,h5⟩:=KQ he;obtain⟨w,ew,aa⟩:=r.get h2;have hl:=r.length;have hn:=JK;have ac:EP X pins σ Q w s:=⟨z,H,I,aa,q⟩
 exact subscriptTail_builtinR (x:=w) pl.typeIs slot_tuple_getitem.lookup
  (getItem_tuple (j:=j) (Q:=λr s'=>r=w/\EP X pins σ Q r s') pl (by omega) (by omega) (by rw[zm,<-hl];exact h1) (by simpa using ew) ⟨rfl,ac⟩) hs
def aak:IxR X abL:=by
 intro value aa pins s σ H x y v u Q I rx ry h hs;obtain⟨z,i,c,rfl,rfl,hz,he,q⟩:=h;obtain⟨t,rfl⟩:=rx;obtain⟨t',rfl⟩:=ry;obtain⟨j,h1,h2,h3,h4,h5⟩:=KQ he;have hl:z.cps.toList.length=z.length:=by simp[Str.length]
 rw[hl]at h1 h4 h5;have hn:=JK
 exact tail_any (typeIs_str s z t) slot_str_getitem.lookup (getItem_str (c:=c) (by
  have e1:decide (i< -(2^63:Int))=false:=zF (by omega);have e2:decide (i>=2^63)=false:=zF (by omega);rw[e1,e2,Bool.or_false]) (by rw[h1];simpa using h2) ⟨.str ⟨#[c]⟩,H,I.tok _,⟨_,rfl⟩,q⟩) hs
theorem Inv.lst{pins:List (Addr×Obj)}{σ:St}{H:Hp}{s:Shared}{p:Addr}{xs:List V}(I:Inv X pins σ H s)(h:H p=some (.lst xs)):
  ∃(its:List Value)(n:Nat),Vals xs its/\s.heap.get? p=some {cls:=.type "list",data:=.seq its.toArray n}/\xs.length<=sizeLine:=by
 obtain⟨z,its,n,r,e⟩:=I.hok p _ h;exact⟨its,n,r,e,z⟩
def Jx(lo hi:Option Int)(n:Nat):(sliceBounds lo hi none n).1=((HT.sIx n 0 lo:Nat):Int)/\(sliceBounds lo hi none n).2.1=((HT.sIx n n hi:Nat):Int)/\(sliceBounds lo hi none n).2.2=1:=by
 refine⟨?_,?_,rfl⟩
 ·cases lo with
  |none=>simp[sliceBounds,HT.sIx]
  |some i=>
   simp only[sliceBounds,HT.sIx,Option.getD_none,show(1:Int)>0 by decide,if_true];by_cases h:i<0
   ·simp only[h,if_true]<;>omega
   ·simp only[h,if_false]<;>omega
 ·cases hi with
  |none=>simp[sliceBounds,HT.sIx]
  |some i=>
   simp only[sliceBounds,HT.sIx,Option.getD_none,show(1:Int)>0 by decide,if_true];by_cases h:i<0
   ·simp only[h,if_true]<;>omega
   ·simp only[h,if_false]<;>omega
def Fx(its:List Value)(lo hi:Option Int):slicePick its.toArray lo hi none=((its.drop (HT.sIx its.length 0 lo)).take (HT.sIx its.length its.length hi - HT.sIx its.length 0 lo)).toArray:=by
 obtain⟨h1,h2,q⟩:=Jx lo hi its.toArray.size;unfold slicePick;rw[h1,h2,q];simp only[sliceRange_one,pick_run,zm]<;>rfl
noncomputable def aaS(K:Fg_):V->Option Int->Option Int->Hp->VK->Prop:=λx lo hi H Q=>∃a xs,x=.ref a/\SqL K H a xs/\∀p,H p=none->Q (.ref p) (upd H p (.lst (uN xs lo hi)))
def Ym:SlR X (aaS X.K):=by
 intro pins s σ H x v vl vu lo hi sl Q I rx hs pl pu h;obtain⟨a,xs,rfl,hx,q⟩:=h;cases rx;obtain⟨its,r,ht,hz⟩:=I.list hx;have z:=r.length;refine⟨"list",_,slot_list_getitem.lookup,ht.isList.typeIs,?_⟩;refine wpAny_getItem_list_slice ht.isList hs pl pu .none (by simp) ?_ (by rw[zm]<;>omega);rw[Fx,<-z];refine⟨.ref s.heap.objs.size,_,I.laid (t':=s.toks) (o:=.lst (uN xs lo hi)) (λb ob q=>zd _ q) (zj _) ?_,rfl,q _ (I.hok.fresh (zj _))⟩;exact⟨zQ (Cw xs lo hi) hz,_,0,(r.drop (HT.sIx xs.length 0 lo)).take (HT.sIx xs.length xs.length hi - HT.sIx xs.length 0 lo),zP _ rfl⟩
noncomputable def Bh:V->Bool
 |.non=>true
 |.bl _=>true
 |.int _=>true
 |.str _=>true
 |_=>false
noncomputable def eqV:V->V->Bool
 |.non,.non=>true
 |.bl a,.bl b=>a==b
 |.bl a,.int b=>(if a then 1 else 0)==b
 |.int a,.bl b=>a==(if b then 1 else 0)
 |.int a,.int b=>a==b
 |.str a,.str b=>a==b
 |_,_=>false
def aaB{A:Around}{s:Shared}{y x:V}{u v:Value}(z:RelV y u)(q:RelV x v)(fy:Bh y=true)(fx:Bh x=true):SeqAt.EqAt A s u v (eqV y x):=by
 cases y with
 |non=>
  cases z
  cases x with
  |non=>cases q;exact SeqAt.EqAt.same _
  |bl b=>cases q;exact SeqAt.EqAt.none_bool b
  |int b=>obtain⟨t,rfl⟩:=q;exact SeqAt.EqAt.none_int b t
  |str b=>obtain⟨t,rfl⟩:=q;exact SeqAt.EqAt.none_str b t
  |_=>exact absurd (show false=true from fx) zE
 |bl a=>
  cases z
  cases x with
  |non=>cases q;exact SeqAt.EqAt.bool_none a
  |bl b=>cases q;exact SeqAt.EqAt.bool_bool a b
  |int b=>obtain⟨t,rfl⟩:=q;exact SeqAt.EqAt.bool_int a b t
  |str b=>obtain⟨t,rfl⟩:=q;exact SeqAt.EqAt.bool_str a b t
  |_=>exact absurd (show false=true from fx) zE
 |int a=>
  obtain⟨t',rfl⟩:=z
  cases x with
  |non=>cases q;exact SeqAt.EqAt.int_none a t'
  |bl b=>cases q;exact SeqAt.EqAt.int_bool a t' b
  |int b=>obtain⟨t,rfl⟩:=q;exact SeqAt.EqAt.int_int a t' b t
  |str b=>obtain⟨t,rfl⟩:=q;exact SeqAt.EqAt.int_str a t' b t
  |_=>exact absurd (show false=true from fx) zE
 |str a=>
  obtain⟨t',rfl⟩:=z
  cases x with
  |non=>cases q;exact SeqAt.EqAt.str_none a t'
  |bl b=>cases q;exact SeqAt.EqAt.str_bool a t' b
  |int b=>obtain⟨t,rfl⟩:=q;exact SeqAt.EqAt.str_int a t' b t
  |str b=>obtain⟨t,rfl⟩:=q;exact SeqAt.EqAt.str_str a t' b t
  |_=>exact absurd (show false=true from fx) zE
 |_=>exact absurd (show false=true from fy) zE
noncomputable def eqU(x:V)(u:Value):Bool:=match u with
 |.none=>eqV .non x
 |.bool b=>eqV (.bl b) x
 |.int i _=>eqV (.int i) x
 |.str z _=>eqV (.str z) x
 |_=>false
def VF{x y:V}{u:Value}(r:RelV y u)(f:Bh y=true):eqU x u=eqV y x:=by
 cases y with
 |non=>cases r;rfl
 |bl b=>cases r;rfl
 |int i=>obtain⟨t,rfl⟩:=r;rfl
 |str z=>obtain⟨t,rfl⟩:=r;rfl
 |_=>exact absurd (show false=true from f) zE
theorem DN{x:V}:∀{xs:List V}{us:List Value},Vals xs us->xs.all Bh=true->us.any (eqU x)=xs.any λy=>eqV y x
 |_,_,.nil,_=>rfl
 |y::xs,u::us,.cons r t,f=>by
  rw[yE,zG]at f;rw[zzG,zzG,VF r f.1,DN t f.2]
theorem wN{A:Around}{s:Shared}{x:V}{v:Value}(rx:RelV x v)(z:Bh x=true):∀{xs:List V}{us:List Value},Vals xs us->xs.all Bh=true->∀u∈us,SeqAt.EqAt A s u v (eqU x u)
 |_,_,.nil,_=>λu q=>by cases q
 |y::xs,u::us,.cons r t,f=>λu' q=>by
  rw[yE,zG]at f;rcases zp.mp q with rfl|q
  ·rw[VF r f.1];exact aaB r rx f.1 z
  ·exact wN rx z t f.2 u' q
noncomputable def inV(x:V)(xs:List V):Bool:=xs.any λy=>eqV y x
noncomputable def rIn(K:Fg_)(neg:Bool):R2:=λx y H Q=>∃p xs,y=.ref p/\(SqL K H p xs\/SqT K H p xs)/\Bh x=true/\xs.all Bh=true/\Q (.bl (if neg then !inV x xs else inV x xs)) H
def Qv:OpR X (compareOp .In) (rIn X.K false):=by
 intro pins s σ H x y v u Q I rx ry h;obtain⟨p,xs,rfl,z,fx,fs,q⟩:=h;cases ry;rcases z with z|z
 ·obtain⟨its,r,pl,hz⟩:=I.list z
  refine SeqAt.in_listAt (eqU x) pl.isList (λw hw=>wN rx fx r fs w (by simpa using hw)) ⟨.bl _,H,I,rfl,?_⟩;rw[show its.toArray.any (eqU x)=its.any (eqU x) by simp,DN r fs];exact q
 ·obtain⟨its,r,pl,hz⟩:=I.tuple z
  refine SeqAt.in_tupleAt (eqU x) pl (λw hw=>wN rx fx r fs w (by simpa using hw)) ⟨.bl _,H,I,rfl,?_⟩;rw[show its.toArray.any (eqU x)=its.any (eqU x) by simp,DN r fs];exact q
def Ih:OpR X (compareOp .NotIn) (rIn X.K true):=by
 intro pins s σ H x y v u Q I rx ry h;obtain⟨p,xs,rfl,z,fx,fs,q⟩:=h;cases ry;rcases z with z|z
 ·obtain⟨its,r,pl,hz⟩:=I.list z
  refine SeqAt.notIn_listAt (eqU x) pl.isList (λw hw=>wN rx fx r fs w (by simpa using hw)) ⟨.bl _,H,I,rfl,?_⟩;rw[show its.toArray.any (eqU x)=its.any (eqU x) by simp,DN r fs];exact q
 ·obtain⟨its,r,pl,hz⟩:=I.tuple z
  refine SeqAt.notIn_tupleAt (eqU x) pl (λw hw=>wN rx fx r fs w (by simpa using hw)) ⟨.bl _,H,I,rfl,?_⟩;rw[show its.toArray.any (eqU x)=its.any (eqU x) by simp,DN r fs];exact q
def Jo:jY X (.builtin "len") (λxs H Q=>∃p ys,xs=[.ref p]/\(SqL X.K H p ys\/SqT X.K H p ys)/\Q (.int ys.length) H):=by
 intro pins s σ H xs us Q I r h;obtain⟨p,ys,rfl,hq,q⟩:=h;obtain⟨u,rfl,rx⟩:=vals1 r;cases rx;have hn:=JK;rcases hq with hq|hq
 ·obtain⟨its,r',pl,hz⟩:=I.list hq
  have z:=r'.length;exact Calls.call_len_list pl.isList (by simp only[zm]<;>omega) ⟨.int ys.length,H,I.tok _,⟨s.toks+1,by rw[zm,z]⟩,q⟩
 ·obtain⟨its,r',pl,hz⟩:=I.tuple hq
  have z:=r'.length;exact len_tuple pl (by simp only[zm]<;>omega) ⟨.int ys.length,H,I.tok _,⟨s.toks+1,by rw[zm,z]⟩,q⟩
def mK:jY X (.builtin "len") (λxs H Q=>∃z,xs=[.str z]/\z.length<=sizeLine/\Q (.int z.length) H):=by
 intro pins s σ H xs us Q I r h;obtain⟨z,rfl,hz,q⟩:=h;obtain⟨u,rfl,t,rfl⟩:=vals1 r;have hn:=JK;exact len_str (by omega) ⟨.int z.length,H,I.tok _,⟨_,rfl⟩,q⟩
def Jj:jY X (.type "list") (λxs H Q=>∃p ys,xs=[.ref p]/\(SqL X.K H p ys\/SqT X.K H p ys)/\∀l,H l=none->Q (.ref l) (upd H l (.lst ys))):=by
 intro pins s σ H xs us Q I r h;obtain⟨p,ys,rfl,hq,q⟩:=h;obtain⟨u,rfl,rx⟩:=vals1 r;cases rx
 have aa:∀(its:List Value),Vals ys its->ys.length<=sizeLine->∀(h':Heap)(c':Nat),(∀b o',s.heap.get? b=some o'->h'.get? b=some o')->
   h'.get? s.heap.objs.size=some {cls:=.type "list",dict:=none,data:=.seq its.toArray c',slots:= #[]}->EP X pins σ Q (.ref s.heap.objs.size) {s with heap:=h'}:=λits z hz h' c' kp e=>
  ⟨.ref s.heap.objs.size,_,I.laid (t':=s.toks) kp (zj _) (show iH X.prog X.w _ h' _ (.lst ys)from⟨hz,its,c',z,e⟩),rfl,q _ (I.hok.fresh (zj _))⟩
 rcases hq with hq|hq
 ·obtain⟨its,z,pl,hz⟩:=I.list hq
  have ab:=z.length;obtain⟨o,ho,hc,n,hd⟩:=pl.isList;exact call_list_seq p (.inl rfl) ho hc hd (λh' c' kp e=>aa its z hz h' c' kp e) (by simp only[zm]<;>omega)
 ·obtain⟨its,z,pl,hz⟩:=I.tuple hq
  have ab:=z.length;obtain⟨o,ho,hc,n,hd⟩:=pl;exact call_list_seq p (.inr rfl) ho hc hd (λh' c' kp e=>aa its z hz h' c' kp e) (by simp only[zm]<;>omega)
def Fz:jY X (.type "tuple") (λxs H Q=>∃p ys,xs=[.ref p]/\((SqL X.K H p ys/\∀l,H l=none->Q (.ref l) (upd H l (.tup ys)))\/(SqT X.K H p ys/\Q (.ref p) H))):=by
 intro pins s σ H xs us Q I r h;obtain⟨p,ys,rfl,h⟩:=h;obtain⟨u,rfl,rx⟩:=vals1 r;cases rx;rcases h with⟨hq,q⟩|⟨hq,q⟩
 ·obtain⟨its,z,pl,hz⟩:=I.list hq
  have aa:=z.length;refine call_tuple_list pl.isList (λh' kp=>?_) (by simp only[zm]<;>omega);have I1:Inv X pins σ H {s with heap:=h'}:=I.kept (t':=s.toks) kp
  have I2:Inv X pins σ (upd H h'.objs.size (.tup ys)) {s with heap:=h'.push {cls:=.type "tuple",data:=.seq its.toArray}}:=
   I1.laid (t':=s.toks) (λb o e=>zd _ e) (zj _) (show iH X.prog X.w _ _ _ (.tup ys)from⟨hz,its,z,IsTup.new _ _⟩)
  exact⟨.ref h'.objs.size,_,I2,rfl,q _ (I1.hok.fresh (zj _))⟩
 ·obtain⟨its,z,pl,hz⟩:=I.tuple hq
  exact call_tuple_same pl ⟨.ref p,H,I,rfl,q⟩
noncomputable def tyV(K:Fg_)(T:String)(x:V)(H:Hp):Prop:=match x with
 |.str _=>T= "str"
 |.int _=>T= "int"
 | .ref p=>(T= "list" /\∃xs,SqL K H p xs)\/(T= "tuple" /\∃o,K.lookup p=some o/\o.cls=.type "tuple" /\o.dict=none)\/
   (T= "dict" /\((∃kvs,H p=some (.dK kvs))\/∃kvs,H p=some (.dT kvs)))\/(T= "set" /\∃S n,H p=some (.set S n))
 |_=>False
def Ra{pins:List (Addr×Obj)}{σ:St}{H:Hp}{s:Shared}{T:String}{x:V}{v:Value}(I:Inv X pins σ H s)(r:RelV x v)(ty:tyV X.K T x H):
  s.TypeIs v T/\∀a,v=.ref a->∃ob,s.heap.get? a=some ob/\ob.dict=none:=by
 cases x with
 |str z=>
  obtain⟨t,rfl⟩:=r;cases (show T= "str" from ty);exact⟨typeIs_str s z t,λ_ e=>nomatch e⟩
 |int i=>
  obtain⟨t,rfl⟩:=r;cases (show T= "int" from ty);exact⟨typeIs_int s i t,λ_ e=>nomatch e⟩
 |ref p=>
  cases r;rcases ty with⟨rfl,xs,hq⟩|⟨rfl,o,q,hc,hd⟩|⟨rfl,q⟩|⟨rfl,S,n,q⟩
  ·obtain⟨its,_,pl,_⟩:=I.list hq
   refine⟨pl.isList.typeIs,λa e=>?_⟩;cases e;obtain⟨o,n,e,c,hd,_⟩:=pl;exact⟨o,e,hd⟩
  ·refine⟨⟨o,I.kIn p o q,hc⟩,λa e=>?_⟩
   cases e;exact⟨o,I.kIn _ o q,hd⟩
  ·have z:∃o,s.heap.get? p=some o/\o.ExactDict:=by
    rcases q with⟨kvs,q⟩|⟨kvs,q⟩
    ·obtain⟨_,_,_,_,o,_,_,e,ex,_⟩:=I.hok p _ q
     exact⟨o,e,ex⟩
    ·obtain⟨_,_,_,_,o,_,_,e,ex,_⟩:=I.hok p _ q
     exact⟨o,e,ex⟩
   obtain⟨o,e,ex⟩:=z;refine⟨⟨o,e,ex.1⟩,λa e2=>?_⟩;cases e2;exact⟨o,e,ex.2.1⟩
  ·obtain⟨o,_,_,_,e,ex,_⟩:=I.hok p _ q
   refine⟨⟨o,e,ex.1⟩,λa e2=>?_⟩;cases e2;exact⟨o,e,ex.2.1⟩
 |_=>exact False.elim ty
noncomputable def abg(K:Fg_)(T:String)(r:V->List V->Hp->VK->Prop)(to:TE):TE:=λσ H Q=>to σ H λx H1=>tyV K T x H1/\r x [] H1 Q
noncomputable def tBM(K:Fg_)(T:String)(r:V->List V->Hp->VK->Prop)(to:TE)(t:TA):TE:=λσ H Q=>to σ H λx H1=>tyV K T x H1/\t σ H1 λxs H2=>r x xs H2 Q
variable{o e:Expr}{es:List Expr}{to:TE}{t:TA}{name:Str}{apos cpos:Pos}{T id:String}{r:V->List V->Hp->VK->Prop}
def aaf(pa:PlainAttrs T)(slot:Slot T name id)(z:typeOf (.builtin id)=pure (.type "method_descriptor")) (hm:MtR X id r) (ho:PE X o to)
  (q:attributeBase o name X.env (eval o X.env)=eval o X.env:=by rfl) (hline:(apos.endLine==cpos.line)=true:=by rfl):PE X (.Call (.Attribute o name apos) [] [] cpos) (abg X.K T r to):=by
 intro pins s σ H Q I h;refine wpAny_Call_method0_late q hline (thn (ho pins s σ H _ I h) λv s1 ⟨x,H1,I1,r1,ty,q1⟩=>?_);obtain⟨h1,h2⟩:=Ra I1 r1 ty;exact⟨T,id,pa,slot,z,h1,h2,Calls.callWith_builtin rfl (PySem.evalArgs_none (hm pins s1 σ H1 x [] v [] Q I1 r1 .nil q1))⟩
def abf(pa:PlainAttrs T)(slot:Slot T name id)(z:typeOf (.builtin id)=pure (.type "method_descriptor")) (hm:MtR X id r) (ho:PE X o to) (ha:PA X (e::es) t)
  (q:attributeBase o name X.env (eval o X.env)=eval o X.env:=by rfl)
  (hfew:((backTo cpos (starEach (e::es) X.env)).all (λx=>!x.1) && (backToKw cpos (keywordEach [] X.env)).all (λx=>x.1.isSome)
   && decide ((e::es).length+([]:List Keyword).length+(if([]:List Keyword).isEmpty then 0 else 1)<30))=true:=by rfl)
  (hline:(apos.endLine==cpos.line)=true:=by rfl) (hs:starEach (e::es) X.env=(false,eval e X.env)::starEach es X.env:=by rfl) (hplain:(backTo cpos (starEach es X.env)).any (·.1)=false:=by rfl):
  PE X (.Call (.Attribute o name apos) (e::es) [] cpos) (tBM X.K T r to t):=by
 intro pins s σ H Q I h;refine yW q hfew hline rfl (thn (ho pins s σ H _ I h) λv s1 ⟨x,H1,I1,r1,ty,q1⟩=>?_);obtain⟨h1,h2⟩:=Ra I1 r1 ty;refine⟨T,id,pa,slot,z,h1,h2,?_⟩;have hA:=ha cpos pins s1 σ H1 _ I1 q1;rw[hs]at hA⊢;refine Calls.callWith_builtin (by show(false||(backTo cpos (starEach es X.env)).any (·.1))=false;rw[hplain]<;>rfl) (Calls.evalArgs_plain ?_);exact thn hA λus s2 ⟨vs,H2,I2,r2,q2⟩=>hm pins s2 σ H2 x vs v us Q I2 r1 r2 q2
end
end L2
namespace L2
open PySem PySem.Spec PyProof.Rows
noncomputable def MtM(X:Cx)(id:String)(r:V->List V->Hp->VK->Prop):Prop:=
 ∀(pins:List (Addr×Obj)) (s:Shared) (σ:St) (H:Hp) (x:V) (xs:List V) (v:Value) (us:List Value) (Q:VK),Inv X pins σ H s->RelV x v->Vals xs us->r x xs H Q->
  wpAny (model X.prog X.w) X.A (call (.builtin id) (v::us)) (EP X pins σ Q) X.xe s
def Vals.one{x:V}{us:List Value}(h:Vals [x] us):∃u,us=[u]/\RelV x u:=by
 cases h with|cons r q=>cases q;exact⟨_,rfl,r⟩
def Vals.zero:∀{us:List Value},Vals [] us->us=[]
 |_,.nil=>rfl
theorem Vals.dropLast{xs:List V}{us:List Value}(h:Vals xs us):Vals xs.dropLast us.dropLast:=by
 induction h with
 |nil=>exact .nil
 |cons r t ih=>
  cases t with
  |nil=>exact .nil
  |cons q t'=>exact .cons r ih
theorem Vals.rep{xs:List V}{us:List Value}(h:Vals xs us):∀k:Nat,Vals (List.replicate k xs).flatten (List.replicate k us).flatten
 |0=> .nil
 |k+1=>by
  rw[yh,yh,zzs,zzs];exact Vals.append h (Vals.rep h k)
def Ox{α:Type}(l:List α):l.eraseIdx (l.length - 1)=l.dropLast:=by
 induction l with
 |nil=>rfl
 |cons a r ih=>
  cases r with
  |nil=>rfl
  |cons b r=>
   have e:(a::b::r).length - 1=((b::r).length - 1)+1:=by
    have h1:(a::b::r).length=r.length+2:=rfl;have h2:(b::r).length=r.length+1:=rfl;omega
   rw[e,List.eraseIdx_cons_succ,ih]
   all_goals rfl
theorem foldl_rep(its:List Value):∀(k:Nat)(acc:List Value),
  List.foldl (λx1 q=>x1++q) acc.toArray (List.replicate k its.toArray)=(acc++(List.replicate k its).flatten).toArray
 |0,acc=>by simp
 |k+1,acc=>by
  have e:acc.toArray++its.toArray=(acc++its).toArray:=by simp
  have e2:(acc++its)++(List.replicate k its).flatten=acc++(List.replicate (k+1) its).flatten:=by
   rw[yh,zzs,yK]
  rw[<-e2,<-foldl_rep its k (acc++its),<-e,yh,yB]
section
variable{X:Cx}{pins:List (Addr×Obj)}{σ:St}{H:Hp}{s:Shared}{l b:Addr}{xs ys zs:List V}
def Inv.lset{its its':List Value}{n:Nat}{f:Array Value->Array Value}{t':Nat}(I:Inv X pins σ H s)(hH:H l=some (.lst xs))
  (e:s.heap.get? l=some {cls:=.type "list",data:=.seq its.toArray n}) (hf:f its.toArray=its'.toArray) (hv:Vals ys its') (hz:ys.length<=sizeLine):
  Inv X pins σ (upd H l (.lst ys)) {s with heap:=s.heap.update l (Obj.mapSeq f),toks:=t'}:=by
 have q:=PySem.IsL.update e f;rw[hf]at q;refine I.write (x:=l) (e:=l) (by rw[hH];exact trivial) (.inl rfl) (λb' u hb z=>(yD s.heap (Obj.mapSeq f) (Ne.symm hb)).trans z) ⟨_,q⟩ ?_;exact⟨hz,its',_,hv,q⟩
def Inv.lnew{its:List Value}{t':Nat}(I:Inv X pins σ H s)(hv:Vals ys its)(z:ys.length<=sizeLine):
  Inv X pins σ (upd H s.heap.objs.size (.lst ys)) {s with heap:=s.heap.push {cls:=.type "list",data:=.seq its.toArray},toks:=t'}:=
 I.laid (λ_ _ q=>zd _ q) (zj _) ⟨z,its,0,hv,zP _ rfl⟩
theorem Inv.fresh(I:Inv X pins σ H s):H s.heap.objs.size=none:=I.hok.fresh (zj _)
def Inv.lstM(I:Inv X pins σ H s)(q:H l=some (.lst xs)):xs.length<=sizeLine/\∃(its:List Value)(n:Nat),Vals xs its/\xs.length=its.length/\s.heap.get? l=some {cls:=.type "list",data:=.seq its.toArray n}:=by
 obtain⟨z,its,n,r,e⟩:=I.hok l _ q;exact⟨z,its,n,r,r.length,e⟩
def Ug{n:Nat}(h:n<=sizeLine):Builtin.List.listTooLong n=false:=by
 unfold Builtin.List.listTooLong;exact zF (by omega)
end
section
variable{X:Cx}
noncomputable def Kw:V->List V->Hp->VK->Prop:=λx vs H Q=>∃l xs y,x=.ref l/\vs=[y]/\H l=some (.lst xs)/\xs.length<sizeLine/\Q .non (upd H l (.lst (xs++[y])))
def nF:MtM X "list.append" Kw:=by
 intro pins s σ H x vs v us Q I rx rv h;obtain⟨l,xs,y,rfl,rfl,hH,hz,q⟩:=h;cases rx;obtain⟨u,rfl,ru⟩:=rv.one;obtain⟨z,its,n,r,hl,e⟩:=I.lstM hH;refine zzd F.slot_list_append ⟨_,e,rfl⟩ F.entry_list_append (F.args_list_append_2 _ _) (PySem.list_append l its.toArray n u (by rw[zm];omega)) ⟨e,?_⟩;refine⟨.non,_,I.lset (its':=its++[u]) hH e (by simp) (r.append (.cons ru .nil)) ?_,rfl,q⟩;rw[zh,zM];omega
noncomputable def abU:V->List V->Hp->VK->Prop:=λx vs H Q=>∃l xs y,x=.ref l/\vs=[]/\H l=some (.lst xs)/\xs[xs.length - 1]? =some y/\Q y (upd H l (.lst xs.dropLast))
def Vz:MtM X "list.pop" abU:=by
 intro pins s σ H x vs v us Q I rx rv h;obtain⟨l,xs,y,rfl,rfl,hH,hy,q⟩:=h;cases rx;have aa:=rv.zero;subst aa;obtain⟨z,its,n,r,hl,e⟩:=I.lstM hH;obtain⟨u,hu,ru⟩:=r.get hy
 have hy':its.toArray[its.toArray.size - 1]? =some u:=by
  show its.toArray[its.length - 1]? =some u;rw[<-Array.getElem?_toList,<-hl];exact hu
 refine zzd F.slot_list_pop ⟨_,e,rfl⟩ F.entry_list_pop (F.args_list_pop_1 _) (MeetsSeq.list_pop_last l its.toArray n u hy' (by rw[zm];omega)) ⟨e,?_⟩;refine⟨y,_,I.lset (its':=its.dropLast) hH e ?_ r.dropLast ?_,ru,q⟩
 ·show its.toArray.eraseIdxIfInBounds (its.toArray.size - 1)=its.dropLast.toArray
  rw[zm,List.eraseIdxIfInBounds_toArray,Ox]
 ·rw[zza]
  omega
noncomputable def Zz:R2:=λx y H Q=>∃l b xs zs,x=.ref l/\y=.ref b/\H l=some (.lst xs)/\H b=some (.lst zs)/\xs.length+zs.length<=sizeLine/\∀p,H p=none->Q (.ref p) (upd H p (.lst (xs++zs)))
def jR:OpR X (binaryOp .Add) Zz:=by
 intro pins s σ H x y v u Q I rx ry h;obtain⟨l,b,xs,zs,rfl,rfl,hH,hB,hz,q⟩:=h;cases rx;cases ry;obtain⟨z,its,n,r,hl,e⟩:=I.lstM hH;obtain⟨z2,aa,n2,r2,ab,e2⟩:=I.lstM hB;refine PySem.P.add_list e e2 ?_ (by rw[zm,zm];omega);have ea:its.toArray++aa.toArray=(its++aa).toArray:=by simp
 rw[ea];exact⟨.ref _,_,I.lnew (t':=s.toks) (r.append r2) (by rw[zh];omega),rfl,q _ I.fresh⟩
noncomputable def aat:R2:=λx y H Q=>∃l k xs,x=.ref l/\y=.int k/\H l=some (.lst xs)/\ -(2^63)<=k/\k<2^63/\xs.length*k.toNat<=sizeLine/\
 ∀p,H p=none->Q (.ref p) (upd H p (.lst (List.replicate k.toNat xs).flatten))
def len_rep{α:Type}(xs:List α)(k:Nat):(List.replicate k xs).flatten.length=k*xs.length:=by
 induction k with
 |zero=>simp
 |succ k ih=>rw[yh,zzs,zh,ih,Nat.succ_mul,Nat.add_comm]
def Qs:OpR X (binaryOp .Mult) aat:=by
 intro pins s σ H x y v u Q I rx ry h;obtain⟨l,k,xs,rfl,rfl,hH,h1,h2,hz,q⟩:=h;cases rx;obtain⟨t,rfl⟩:=ry;obtain⟨z,its,n,r,hl,e⟩:=I.lstM hH;have ac:its.toArray.size*k.toNat<=sizeLine:=by rw[zm,<-hl];exact hz
 have ad:¬its.toArray.size*k.toNat>(2^63 - 1)/8:=by
  have:(sizeLine:Nat)<=(2^63 - 1)/8:=by decide
  omega
 have ab:¬(!Builtin.List.listFitsIndex k)=true:=by
  rw[fitsIndex_both h1 h2];exact zE
 have aa:¬Builtin.List.listTooLong (its.toArray.size*k.toNat)=true:=by
  rw[Ug ac];exact zE
 have ae:List.foldl (λx1 x2=>x1++x2) #[] (List.replicate (if its.toArray.isEmpty=true then 0 else k.toNat) its.toArray)=(List.replicate k.toNat its).flatten.toArray:=by
  have f0:∀m:Nat,List.foldl (λx1 x2=>x1++x2) #[] (List.replicate m its.toArray)=(List.replicate m its).flatten.toArray:=λm=>by
   have:=foldl_rep its m [];rw[zzi]at this;exact this
  rw[f0]
  cases its with
  |nil=>simp
  |cons a r'=>rw[zo (by simp)]
 refine wpAny_binaryOp_repeat_ref (T:= "list") (U:= "int") (by decide) ⟨_,e,rfl⟩ (λs'=>typeIs_int s' k t) noFill_list_mul F.fills_int_mul F.slot_int_rmul repeat_list F.slot_int_index.lookup
  (zzd F.slot_int_rmul (typeIs_int s k t) F.entry_int_rmul (F.args_int_rmul_2 _ _) (int___rmul___int_list k t l its.toArray n)
   ⟨e,rfl,⟨_,e,rfl⟩,zzd F.slot_list_mul ⟨_,e,rfl⟩ F.entry_list_mul (F.args_list_mul_2 _ _) (AutoListH.list___mul___list_int_3 l its.toArray n k t ab ad aa) ⟨e,?_⟩⟩)
 rw[ae];exact⟨.ref _,_,I.lnew (t':=s.toks) (r.rep k.toNat) (by rw[len_rep,Nat.mul_comm];exact hz),rfl,q _ I.fresh⟩
end
section
variable{prog:Program}{w:World}{A:Around}{E:Value->Shared->Prop}{s:Shared}
set_option maxRecDepth 100000 in
end
end L2
namespace Att
open PySem PySem.W PySem.Calls PyProof.Rows
def Dj{P:Params}{h:Heap}:∀(ns:List Int)(vs:List Value),WellAll P h vs (ns.map WData.int)->IntsAre vs ns:=by
 intro ns
 induction ns with
 |nil=>
  intro vs w;rw[yg]at w;cases w;exact .nil
 |cons n ns ih=>
  intro vs w;rw[zg]at w
  cases w with
  |cons a b=>
   cases a;exact .cons _ _ (ih _ b)
def TQ{l:OpenLaw}{n:Nat}(hn:l.most=some n){P:Params}{h:Heap}{args:List WData}{z:List Value}
  (aa:l.row.toRowW.claim.pre args=true) (ad:WellAll P h z args):
  ∃a vs ns,z=[Value.ref a]/\args=[WData.list (ns.map WData.int)]/\h.get? a=some {cls:=.type "list",data:=.seq vs.toArray}/\IntsAre vs ns/\ns.length<=n:=by
 have ac:WShape.hasAll [] args [.list .int]=true:=(pre_splitW aa).1;have hc:l.pre.holds [] {args:=args}=true:=(pre_splitW aa).2;obtain⟨d,r,rfl,h1,h2⟩:=hasAllW_cons ac;obtain rfl:=hasAllW_nil h2;obtain⟨xs,rfl,h3⟩:=hasW_list h1;obtain⟨ns,rfl⟩:=items_int h3
 have ab:ns.length<=n:=by
  unfold OpenLaw.pre at hc
  have h4:(WTm.not (.lt (.lit (.int (n:Int))) (.len (.arg 0)))).holds [] {args:=[.list (ns.map .int)]}=true:=by
   have h4:=(holds_andW hc).1;rw[hn]at h4;exact h4
  have h5:=condW_of h4 (w_not (w_lt w_lit (w_len_list (w_arg rfl))));rw[zb]at h5;refine Nat.le_of_not_lt λq=>?_;have q':(n:Int)<((ns.length:Nat):Int):=by omega
  first
   |(rw[yb q']at h5;exact absurd h5 (by decide))
   |(simp at h5;omega)
 cases ad with
 |cons w1 w2=>
  cases w2
  cases w1 with
  |list ho hall=>exact⟨_,_,ns,rfl,rfl,ho,Dj ns _ hall,ab⟩
def Tu(l:OpenLaw)(args:List WData):l.row.toRowW.claim.post args (.bool true) args=true:=
 postW_of (r:=l.row.toRowW) (X:=(true==true))
  (show WShape.has [] (.bool true) .bool=true by first|rfl|decide|simp[WShape.has,WShape.arms,WShape.armsAll])
  (show(WTm.eq .res (.lit (.bool true))).value [] {args:=args,res:=some (.bool true),after:=args}=some (.bool (true==true))from w_eq_bool (w_res rfl) w_lit) rfl
def attach_call{l:OpenLaw}{n:Nat}{q:Program}{aa:List Str}{XP:(Str->Option Value)->Heap->Prop}{YP:World->Heap->Prop}{d:DefRec}
  (hn:l.most=some n) (aj:d.params.defaults=[])
  (af:∀(w:World)(s₀ z:Shared)(mg mb:Str->Option Value)(fa:Addr)(o:Obj)(pm cd ab:Value)(a:Addr)(vs:List Value)(ns:List Int),
   Ground q aa [] XP w s₀ mg mb z.heap->YP w z.heap->
   z.heap.get? fa=some o->o.data=.func (docDef d.name d.params d.body d.scope pm cd ab)->z.heap.CodeRec cd d.name->mg d.name=some (.ref fa)->
   z.heap.get? a=some {cls:=.type "list",data:=.seq vs.toArray}->IntsAre vs ns->ns.length<=n->z.gens= #[]->
   codeAny (model l.prog w) callerA (.call (.ref fa) ⟨[.ref a],[]⟩) (λr s'=>r=.ok (.ret (.bool true))/\OldK z.heap s'.heap/\s'.os=z.os/\AllBare s'.gens) z):
  WalkO q aa XP YP l.row.toRowW d [] (λf vs=>PySem.call f vs):=by
 intro w s₀ z mg mb G Y fa o pm cd ab dV kV ho hd ai hD ak hg args al as ag am an ah ao;obtain rfl:dV=.none:=Dflts.none hD aj;obtain rfl:kV=.none:=Dflts.noKw hD;obtain⟨a,vs,ns,rfl,rfl,ad,ac,ae⟩:=TQ hn ag ah;refine enter_call (codeAny_mono (af w s₀ z mg mb fa o pm cd ab a vs ns G Y ho (fd_plain hd) ai ak ad ac ae hg) λr s' hq=>?_);obtain⟨rfl,h2,h3,h4⟩:=hq;exact⟨.inl ⟨.bool true,.bool true,[],rfl,λ_=>rfl,.bool true,Tu l _,λ_=>⟨List.Pairwise.nil,λ_ hm=>(nomatch hm)⟩⟩,h2,h3,h4⟩
end Att
namespace L2
open PySem PySem.Spec PyProof.Rows
theorem Iz:∀{vs:List Value}{ns:List Int},IntsAre vs ns->Vals (ns.map V.int) vs
 |_,_,.nil=> .nil
 |_,_,.cons n t h=> .cons ⟨t,rfl⟩ (Iz h)
noncomputable def Only(H:Hp):Prop:=∀b,H b=none\/∃o xs,H b=some (.frz o (.lst xs))
def Vc{P:Program}{w:World}{K:Fg_}{mg mb:Str->Option Value}{CX:CXT}{k:Nat}{fa a:Addr}{fd:FuncData}{x:Str}{sp:Sp}{s₁:Shared}{vs:List Value}{ns:List Int}
  (KX:K.In s₁.heap) (ag:s₁.heap.Ns mainGlobals mg) (hb:s₁.heap.Ns builtinsNs mb) (ai:∀x:Str,x≠ "__name__" ->mb x=bootBuiltins x) (af:s₁.heap.NoLimit) (hg:s₁.gens= #[])
  (ha:s₁.heap.get? a=some {cls:=.type "list",data:=.seq vs.toArray}) (hi:IntsAre vs ns) (hl:ns.length<=sizeLine) (hr:mH k callerA)
  (F:∀base:Heap,K.In base->base.Ns mainGlobals mg->jn P w K mg base CX k fa fd [x] sp) (hbind:∀(s:Shared)(u:Value),BindsTo s fd ⟨[u],[]⟩ [(x,u)])
  (hsp:∀H:Hp,Only H->SqL K H a (ns.map V.int)->sp [.ref a] H (λv _=>v=.bl true) λ_ _ _=>False)
  (hCX:∀H e s',CX [] H s₁ (λ_ _ _=>False) e s'->False):
  codeAny (model P w) callerA (.call (.ref fa) ⟨[.ref a],[]⟩) (λr s'=>r=.ok (.ret (.bool true))/\OldK s₁.heap s'.heap/\s'.os=s₁.os/\AllBare s'.gens) s₁:=by
 have rv:=Iz hi;have ah:=hi.length
 have ac:∀H:Hp,Only H->SqL K H a (ns.map V.int)->HOk P w H s₁.heap->(∀b,H b≠none->b=a)->(H a≠none->K.lookup a=none)->
   codeAny (model P w) callerA (.call (.ref fa) ⟨[.ref a],[]⟩) (λr s'=>r=.ok (.ret (.bool true))/\OldK s₁.heap s'.heap/\s'.os=s₁.os/\AllBare s'.gens) s₁:=by
  intro H hO hS hok hA hK;have aa:∀{b:Addr}{o:Obj},s₁.heap.get? b=some o->H b=none->(UT s₁.heap H).get? b=some o:=λe n=>Vg e n
  have aj:∀{b:Addr}{o:Obj}{es:Array DictEntry}{ep:Nat},s₁.heap.get? b=some o->o.data=.dict es ep->H b=none:=fun{b o es ep} e d=>by
   cases q:H b with
   |none=>rfl
   |some u=>
    have e':b=a:=hA b (by rw[q];simp);subst e';rw[ha]at e;cases e;have d':Data.seq vs.toArray _=Data.dict es ep:=d;cases d'
  have ab:∀{b:Addr}{m:Str->Option Value},s₁.heap.Ns b m->(UT s₁.heap H).Ns b m:=fun{b m}⟨o,es,ep,e,d,r⟩=>⟨o,es,ep,aa e (aj e d),d,r⟩
  have ad:K.In (UT s₁.heap H):=λb o e=>aa (KX b o e) (by
   cases q:H b with
   |none=>rfl
   |some u=>
    have e':b=a:=hA b (by rw[q];simp);subst e';rw[hK (by rw[q];simp)]at e;cases e)
  have hM:Mod K mg (UT s₁.heap H):=⟨ad,ab ag,⟨mb,ab hb,ai⟩,let⟨mc,h1,h2⟩:=af;⟨mc,ab h1,h2⟩⟩;have e0:Vy P w K mg (UT s₁.heap H) callerA [] s₁ H:=⟨rfl,hM,λb o e=>WM e,Nat.le_of_eq (SN _ _),trivial,λb hb=>absurd (show b∈([]:List Addr)from hb) (by simp),hok,.of_eq hg⟩;refine codeAny_mono ((F _ ad (ab ag)).run callerA [] s₁ H ⟨[.ref a],[]⟩ [.ref a] [.ref a] _ _ hr e0 (hbind s₁ (.ref a)) (.cons rfl .nil) (hsp H hO hS)) λr s' h=>?_
  cases r with
  |error e=>exact(hCX H e s' h).elim
  |ok fl=>
   cases fl with
   |next=>exact False.elim h
   |brk=>exact False.elim h
   |cont=>exact False.elim h
   |ret u=>
    obtain⟨v,H',os,bare,un,ae,r',q⟩:=h;have q':v=.bl true:=q;subst q';obtain rfl:u=Value.bool true:=r';refine⟨rfl,OldK.of_keep λb o e=>?_,os,bare⟩
    cases q:H b with
    |none=>exact un.keep b o e q (by intro z;exact absurd (show b∈([]:List Addr)from z) (by simp)) (by simp)
    |some u=>
     rcases hO b with z|⟨ob,xs,z⟩
     ·rw[q]at z;cases z
     ·have z2:=un.frzs b ob _ z
      obtain⟨e1,_⟩:=hok b _ z;obtain⟨e2,_⟩:=ae b _ z2;rw[e]at e1;cases e1;exact e2
 cases hk:K.lookup a with
 |some o=>
  have e:=KX a o hk;rw[ha]at e;cases e;refine ac (λ_=>none) (λ_=> .inl rfl) (.inr ⟨_,vs.toArray,_,hk,rfl,rfl,rfl,by rw[zm,ah];exact hl,by simpa using rv⟩) (λb u z=>by have z':(none:Option HO)=some u:=z;cases z') (λb z=>absurd rfl z) λz=>absurd rfl z
 |none=>
  refine ac (λb=>if b=a then some (.frz {cls:=.type "list",data:=.seq vs.toArray} (.lst (ns.map V.int)))else none) (λb=>?_) (.inl (.inr ⟨{cls:=.type "list",data:=.seq vs.toArray},zu rfl⟩)) (λb u z=>?_) (λb z=>?_) λ_=>hk
  ·by_cases hb:b=a
   ·exact .inr ⟨_,_,zu hb⟩
   ·exact .inl (zo hb)
  ·by_cases hb:b=a
   ·have z':=(zu hb).symm.trans z
    cases z';subst hb;exact⟨ha,by rw[zb];exact hl,vs,_,rv,ha⟩
   ·have z':=(zo hb).symm.trans z
    cases z'
  ·by_cases hb:b=a
   ·exact hb
   ·exact absurd (zo hb) z
end L2
namespace L2
open PySem PySem.Spec PyProof.Rows
def walk_of{l:PySem.W.OpenLaw}{n k:Nat}{q:Program}{aa:List Str}{XP:(Str->Option Value)->Heap->Prop}{YP:World->Heap->Prop}{d:DefRec}{K:Params->Fg_}{CX:World->CXT}{sp:World->Sp}{x:Str}
  (hn:l.most=some n) (ah:n<=sizeLine) (ae:d.params.defaults=[]) (hr:mH k callerA)
  (hY:∀(w:World)(h:Heap),YP w h->(K w.params).In h)
  (F:∀(w:World)(mg:Str->Option Value)(fa:Addr)(h:Heap),(K w.params).In h->h.Ns mainGlobals mg->mg d.name=some (.ref fa)->
   ∃fd:FuncData,(∀(s:Shared)(u:Value),BindsTo s fd ⟨[u],[]⟩ [(x,u)])/\
    ∀base:Heap,(K w.params).In base->base.Ns mainGlobals mg->jn l.prog w (K w.params) mg base (CX w) k fa fd [x] (sp w))
  (af:∀(w:World)(H:Hp)(a:Addr)(ns:List Int),ns.length<=n->Only H->SqL (K w.params) H a (ns.map V.int)->sp w [.ref a] H (λv _=>v=.bl true) λ_ _ _=>False)
  (ad:∀(w:World)(H:Hp)(s:Shared)(e:Value)(s':Shared),CX w [] H s (λ_ _ _=>False) e s'->False):
  PySem.W.WalkO q aa XP YP l.row.toRowW d [] (λf vs=>PySem.call f vs):=by
 refine Att.attach_call hn ae λw s₀ s₁ mg mb fa o pm cd ai a vs ns G Y ho hd aj ag ac ab z hg=>?_;have KX:=hY w _ Y;obtain⟨fd,hb,hF⟩:=F w mg fa _ KX G.T.g ag;exact Vc KX G.T.g G.T.b G.T.builtins G.T.nolimit hg ac ab (zQ z ah) hr hF hb (λH hO hS=>af w H a ns z hO hS) λH e s'=>ad w H s₁ e s'
end L2
namespace L2
open PySem PySem.Spec PyProof.Rows
noncomputable def inClass(s:Stmt)(j:Nat):Stmt:=match s with
 |.ClassDef _ _ _ body _ _ _ _ _ _ _=>body.getD j (.Pass ⟨0,0,0,0⟩)
 |_=> .Pass ⟨0,0,0,0⟩
noncomputable def jB(s:Stmt):Arguments:=match s with
 |.FunctionDef _ a _ _ _ _ _ _ _ _=>a
 |_=>{posonlyargs:=[],args:=[],vararg:=none,kwonlyargs:=[],kw_defaults:=[],kwarg:=none,defaults:=[]}
noncomputable def iC(s:Stmt):List Stmt:=match s with
 |.FunctionDef _ _ b _ _ _ _ _ _ _=>b
 |_=>[]
noncomputable def fP(s:Stmt):Scope:=match s with
 |.FunctionDef _ _ _ _ _ _ sc _ _ _=>sc
 |_=>{kind:=.function,names:=[],isGenerator:=false,isCoroutine:=false}
abbrev CX0:CXT:=λ_ _ _ _ _ _=>False
abbrev E0:XK:=λ_ _ _=>False
def Jl{X:Cx}:vN CX0 X E0:=λ_ _ _ _ _ _ _ h=>h.elim
structure Fun(K:Fg_)(x qual:Str)(st:Stmt)(f:Addr)(fd:FuncData):Prop where
 ex:∃(oc:Value)(od:Option Addr)(kV doc pm:Value)(an:Option Addr)(cdv ct:Value)(osl:Array (Option Value)),
  fd=PySem.W.fnOf x qual (jB st) (iC st) (fP st) .none kV doc pm an cdv ct/\K.lookup f=some ⟨oc,od,.func fd,osl⟩/\PySem.W.codeIn K cdv qual=true
 kp:PySem.W.keepIn K (.ref f)=true
section
variable{P:Program}{w:World}{K:Fg_}{mg:Str->Option Value}{base:Heap}
def Fun.ok{x qual:Str}{st:Stmt}{f:Addr}{fd:FuncData}{N ps:List Str}{k:Nat}{sp:Sp}(F:Fun K x qual st f fd)(S:gb N ps (fP st))(len:∀vs H Q E,sp vs H Q E->vs.length=ps.length)
  (aa:∀(z:Value)(A:Around)(outer:List Env)(s:Shared)(H:Hp)(vs:List V)(Q:VK)(E:XK),mH k (A.deeper (envOfC qual (fP st) s.heap.objs.size f z))->sp vs H Q E->
   ∃t,PSs (uD CX0 P w K mg base N qual (fP st) f z A outer s H E).nox (iC st) t/\t {nx:=λ_ H'=>Q .non H',rt:=Q} (start N vs) H):jn P w K mg base CX0 (k+1) f fd ps sp:=by
 obtain⟨oc,od,kV,ad,pm,an,z,ct,ae,rfl,lk,ab⟩:=F.ex;refine Uj lk ab S len λA outer s H vs Q E hr ac=>?_;obtain⟨t,h,q⟩:=aa z A outer s H vs Q E hr ac;exact⟨t,h.nox,q⟩
def Fun.binds{x qual:Str}{st:Stmt}{f:Addr}{fd:FuncData}{ps:List Str}(F:Fun K x qual st f fd)
  (h:∀(kV q pm:Value)(an:Option Addr)(z ct:Value)(us:List Value),us.length=ps.length->bindArgs (PySem.W.fnOf x qual (jB st) (iC st) (fP st) .none kV q pm an z ct) ⟨us,[]⟩=pure (ps.zip us)):Binds K fd ps []:=by
 obtain⟨oc,od,kV,q,pm,an,z,ct,ab,rfl,lk,aa⟩:=F.ex;exact .all (h kV q pm an z ct)
def Rq{x qual:Str}{st:Stmt}{f:Addr}{oc:Value}{od an:Option Addr}{aa:Array (Option Value)}{kV z pm q ct:Value}(l:K.lookup f=some ⟨oc,od,.func (PySem.W.fnOf x qual (jB st) (iC st) (fP st) .none kV z pm an q ct),aa⟩)
  (c:PySem.W.codeIn K q qual=true) (k:PySem.W.keepIn K (.ref f)=true):Fun K x qual st f (PySem.W.fnOf x qual (jB st) (iC st) (fP st) .none kV z pm an q ct):=⟨⟨oc,od,kV,z,pm,an,q,ct,aa,rfl,l,c⟩,k⟩
end
def Qd{A:Around}{k:Nat}(q:mH k A):A.units+1<cLine:=z9 (Nat.add_le_add_left (by decide:1<=64) _) q.units
def Qj{n:Nat}(h:n<=1000):n<sizeLine:=z9 h (by decide)
section
variable{X:Cx}
def pv(i:Nat){x:Str}{pos:Pos}(q:X.N[i]? =some x:=by rfl)(hv:Vis X.env.scope x:=by walk_at "o") (hd:(x==("__debug__" :Str))=false:=by decide)
  (hcd:(x==("__classdict__" :Str))=false:=by decide):PE X (.Name x pos) (Ij i):=Zo q hv hd hcd
end
noncomputable def Same(H H':Hp):Prop:=∀b o,H b=some o->H' b=some o
def same_refl(H:Hp):Same H H:=λ_ _ h=>h
def Same.trans{H H1 H2:Hp}(a:Same H H1)(b:Same H1 H2):Same H H2:=λc o h=>b c o (a c o h)
def Same.free{H H':Hp}(e:Same H H'){l:Addr}(h:H' l=Option.none):H l=Option.none:=by
 cases q:H l with
 |none=>rfl
 |some o=>
  rw[e l o q]at h;cases h
def Same.seq{K:Fg_}{H H':Hp}{a:Addr}{xs:List V}(e:Same H H')(h:SqL K H a xs):SqL K H' a xs:=by
 rcases h with(h|⟨o,h⟩)|h
 ·exact .inl (.inl (e _ _ h))
 ·exact .inl (.inr ⟨o,e _ _ h⟩)
 ·exact .inr h
end L2
namespace L2
open PySem PySem.Spec PyProof.Rows
noncomputable def AllIn:List (Str×Addr)->List (Str×Addr)->Prop
 |[],_=>True
 |(x,c)::r,cells=>cells.lookup x=some c/\AllIn r cells
theorem AllIn.look{aa:List (Str×Addr)}:∀{cl:List (Str×Addr)},AllIn cl aa->∀{x:Str}{c:Addr},cl.lookup x=some c->aa.lookup x=some c
 |[],_,x,c,e=>by simp at e
 |(y,d)::r,h,x,c,e=>by
  rw[List.lookup_cons]at e
  cases q:x==y with
  |true=>
   rw[q]at e;have z:d=c:=zf e;have z2:x=y:=beq_iff_eq.mp q;subst z z2;exact h.1
  |false=>
   rw[q]at e;exact AllIn.look h.2 e
noncomputable def BW(cells:List (Str×Addr)):List (Str×NameKind)->List (Str×Addr)->List (Str×Addr)
 |[],cs=>cs
 |(n,k)::r,cs=>BW cells r (match k with
  |.free=>match cells.lookup n with
   |some c=>(n,c)::cs
   |Option.none=>cs
  |_=>cs)
abbrev Bc(scope:Scope)(env:Env):List (Str×Addr):=BW env.cells scope.names []
theorem CP(z:List (Str×Addr)):∀(names:List (Str×NameKind))(cs:List (Str×Addr)),AllIn cs z->AllIn (BW z names cs) z
 |[],_,h=>h
 |(n,k)::r,cs,h=>by
  unfold BW;refine CP z r _ ?_
  cases k with
  |free=>
   cases q:z.lookup n with
   |none=>exact h
   |some c=>exact⟨q,h⟩
  |_=>exact h
def nA(scope:Scope)(env:Env):AllIn (Bc scope env) env.cells:=CP _ _ _ trivial
noncomputable def CapOk(X:Cx)(sc:Scope)(cl:List (Str×Addr)):List Str->List (Option Nat)->Prop
 |[],[]=>True
 |_::N,Option.none::r=>CapOk X sc cl N r
 |x::N,some j::r=>X.N[j]? =some x/\(X.env.kindOf x=some .cell\/X.env.kindOf x=some .free)/\(sc.names.lookup x=some .cell\/sc.names.lookup x=some .free)/\(∃c,cl.lookup x=some c)/\CapOk X sc cl N r
 |_,_=>False
noncomputable def uM(σ:St)(cap:List (Option Nat)):St:=cap.map λo=>match o with
 |Option.none=>Option.none
 |some j=>match σ[j]? with
  |some v=>v
  |Option.none=>Option.none
def CapOk.nil{X:Cx}{q:Scope}{cl:List (Str×Addr)}:CapOk X q cl [] []:=trivial
def CapOk.own{X:Cx}{q:Scope}{cl:List (Str×Addr)}{x:Str}{N:List Str}{r:List (Option Nat)}(h:CapOk X q cl N r):CapOk X q cl (x::N) (Option.none::r):=h
def CapOk.take{X:Cx}{q:Scope}{cl:List (Str×Addr)}{x:Str}{N:List Str}{j:Nat}{r:List (Option Nat)}(h1:X.N[j]? =some x)(h2:X.env.kindOf x=some .cell\/X.env.kindOf x=some .free)
  (z:q.names.lookup x=some .cell\/q.names.lookup x=some .free) (h4:(cl.lookup x).isSome=true) (h:CapOk X q cl N r):CapOk X q cl (x::N) (some j::r):=⟨h1,h2,z,yO.mp h4,h⟩
theorem CapOk.len{X:Cx}{q:Scope}{cl:List (Str×Addr)}:∀{N:List Str}{cap:List (Option Nat)},CapOk X q cl N cap->cap.length=N.length
 |[],[],_=>rfl
 |_::N,Option.none::r,h=>congrArg (·+1) (CapOk.len (N:=N) (cap:=r) h)
 |_::N,some _::r,h=>congrArg (·+1) (CapOk.len (N:=N) (cap:=r) h.2.2.2.2)
 |[],_::_,h=>h.elim
 |_::_,[],h=>h.elim
theorem CapOk.get{X:Cx}{sc:Scope}{cl:List (Str×Addr)}{σ:St}:∀{N:List Str}{cap:List (Option Nat)}{i:Nat}{x:Str}{v:V},CapOk X sc cl N cap->N[i]? =some x->(uM σ cap)[i]? =some (some v)->
  ∃j:Nat,X.N[j]? =some x/\σ[j]? =some (some v)/\(X.env.kindOf x=some .cell\/X.env.kindOf x=some .free)/\(sc.names.lookup x=some .cell\/sc.names.lookup x=some .free)/\∃c,cl.lookup x=some c
 |[],[],i,x,v,_,e,_=>by simp at e
 |y::N,Option.none::r,0,x,v,h,e1,e2=>by
  have z:(some (Option.none:Option V))=some (some v):=e2;cases z
 |y::N,Option.none::r,i+1,x,v,h,e1,e2=>CapOk.get (N:=N) (cap:=r) (i:=i) h (by simpa using e1) (by simpa [uM] using e2)
 |y::N,some j::r,0,x,v,h,e1,e2=>by
  have z:y=x:=by simpa using e1
  subst z;obtain⟨h1,h2,h3,h4,_⟩:=h;refine⟨j,h1,?_,h2,h3,h4⟩;have z2:some (match σ[j]? with|some v=>v|Option.none=>Option.none)=some (some v):=e2
  cases q:σ[j]? with
  |none=>rw[q]at z2;cases z2
  |some o=>rw[q]at z2;exact z2
 |y::N,some j::r,i+1,x,v,h,e1,e2=>CapOk.get (N:=N) (cap:=r) (i:=i) h.2.2.2.2 (by simpa using e1) (by simpa [uM] using e2)
 |[],_::_,_,_,_,h,_,_=>h.elim
 |_::_,[],_,_,_,h,_,_=>h.elim
noncomputable def cxC(X:Cx)(N':List Str)(scope:Scope)(s:Shared)(H:Hp)(fp:List Addr)(xe:Value->Shared->Prop):Cx:=
 {X with N:=N',s₀:=s,H₀:=H,env:=compEnvC scope (Bc scope X.env) s.heap.objs.size X.env,outer:=X.stack,ex:=fp,fn:=λ_=>false,pn:=[],xe:=xe}
noncomputable def PTs(X:Cx)(ifs:List Expr)(t:TT):Prop:=
 ∀(pins:List (Addr×Obj)) (s:Shared) (σ:St) (H:Hp) (Q:Bool->Hp->Prop),Inv X pins σ H s->t σ H Q->
  wpAny (model X.prog X.w) X.A (forIn ifs true λc r=>if r=true then do let ok<-isTrue c X.env (eval c X.env);pure (ForInStep.yield ok)else pure (ForInStep.yield r)) (TP X pins σ Q) X.xe s
noncomputable def Df:TT:=λ_ H Q=>Q true H
def jZ{X:Cx}:PTs X [] Df:=λ_ _ _ H _ I h=>wpAny_tests_nil ⟨H,I,h⟩
def XX{X:Cx}{c:Expr}{t:TT}(h:PT X c t):PTs X [c] t:=λpins s σ H Q I q=>wpAny_tests_one (h pins s σ H Q I q)
noncomputable def YX(cap:List (Option Nat))(wi:TI)(g:TG)(tt:TT)(te:TE):TE:=λσ H Q=>wi σ H λJ H1=>∀D,H1 D=Option.none->
 ∃W:Nat->Nat->List V->St->Hp->Prop,(∃m,W 0 m [] (uM σ cap) (upd H1 D (.lst [])))/\∀i m acc σ1 H2,W i m acc σ1 H2->H2 D=some (.lst acc)->
  (J.stop i H2/\Q (.ref D) H2)\/(J.go i H2/\∀x H3,J.yld i H2 x H3->g x σ1 H3 λσ4 H4=>tt σ4 H4 λb H5=>
   if b=true then te σ4 H5 λv H6=>∃acc',H6 D=some (.lst acc')/\acc'.length<sizeLine/\∃m',m'<m/\W (i+1) m' (acc'++[v]) σ4 (upd H6 D (.lst (acc'++[v])))
   else∃m',m'<m/\∃acc',H5 D=some (.lst acc')/\W (i+1) m' acc' σ4 H5)
section
variable{X:Cx}{elt tg iter:Expr}{ifs:List Expr}{scope:Scope}{pos:Pos}{cap:List (Option Nat)}{N':List Str}{wi:TI}{g:TG}{tt:TT}{te:TE}
structure Wr(X:Cx)(iter:Expr)(scope:Scope)(N':List Str)(cap:List (Option Nat)):Prop where
 clos:closureFor scope X.env=pure (Bc scope X.env)
 cap:CapOk X (relabel scope X.env) (Bc scope X.env) N' cap
 kind:scope.kind=.function
 nocell:∀y∈scope.names,y.2≠.cell
 names:∀y∈scope.names,y.2=.local->scope.names.lookup y.1=some .local
 has:(scope.names.all λy=>y.2 !=.free||((Bc scope X.env).lookup y.1).isSome)=true
 fold:∀x,foldedSetIterable iter X.env x=pure x
theorem Sy{f:Str×NameKind->Str×NameKind}(h1:∀y,(f y).1=y.1)(h2:∀y,y.2≠NameKind.cell->((f y).2=NameKind.cell\/(f y).2=NameKind.free)->y.2=NameKind.free){cl:List (Str×Addr)}:
  ∀{names:List (Str×NameKind)}{x:Str},(∀y∈names,y.2≠NameKind.cell)->(names.all λy=>y.2 !=NameKind.free||(cl.lookup y.1).isSome)=true->((names.map f).lookup x=some NameKind.cell\/(names.map f).lookup x=some NameKind.free)->∃c,cl.lookup x=some c
 |[],x,_,_,h=>by rcases h with h|h<;>simp at h
 |y::r,x,hc,ha,h=>by
  rw[yE,zG]at ha;rw[zg]at h;have e0:f y=(y.1,(f y).2):=by rw[<-h1 y]
  rw[e0,List.lookup_cons]at h
  cases q:x==y.1 with
  |true=>
   rw[q]at h;have e:x=y.1:=beq_iff_eq.mp q
   have hf:y.2=NameKind.free:=h2 y (hc y zi) (by
    rcases h with h|h
    ·exact .inl (zf h)
    ·exact .inr (zf h))
   have h3:(cl.lookup y.1).isSome=true:=by
    have:=ha.1;rw[hf]at this
    simpa using this
   rw[e];exact yO.mp h3
  |false=>
   rw[q]at h;exact Sy h1 h2 (λz hz=>hc z (zt _ hz)) ha.2 h
def aay{env:Env}{scope:Scope}{cl:List (Str×Addr)}{x:Str}(hc:∀y∈scope.names,y.2≠NameKind.cell)(ha:(scope.names.all λy=>y.2 !=NameKind.free||(cl.lookup y.1).isSome)=true)
  (h:(relabel scope env).names.lookup x=some NameKind.cell\/(relabel scope env).names.lookup x=some NameKind.free):∃c,cl.lookup x=some c:=by
 refine Sy (f:=fun(n,k)=>if(k==NameKind.free && env.scope.kind==.function && env.kindOf n==some .cell)then(n,NameKind.cell)else(n,k)) (λy=>?_) (λy hy q=>?_) hc ha h
 ·obtain⟨n,k⟩:=y
  dsimp only;split<;>rfl
 ·obtain⟨n,k⟩:=y
  dsimp only at q⊢hy;by_cases z:(k==NameKind.free && env.scope.kind==.function && env.kindOf n==some .cell)=true
  ·simp only[zG]at z
   exact beq_iff_eq.mp z.1.1
  ·rw[zo z]at q
   rcases q with q|q
   ·exact absurd q hy
   ·exact q
def Ji{P:Program}{w:World}{A:Around}{R:Result->Shared->Prop}{s:Shared}{it acc:Value}{env:Env}(I:Nat->Shared->Prop)
  (q:∀n s,I n s->wpAny (model P w) A (pyNext it) (λr s₁=>match r with
   |none=>R (.ok .next) s₁
   | some v=>wpAny (model P w) A (letOwnedTupleGo tg it v) (λ_ z=>wpAny (model P w) A (assign tg env v) (λ_ s₂=>
     wpAny (model P w) A (forIn ifs true λc r=>if r=true then do let ok<-isTrue c env (eval c env);pure (ForInStep.yield ok)else pure (ForInStep.yield r)) (λok s₃=>
      if ok=true then wpAny (model P w) A (eval elt env) (λx s₄=>
       wpAny (model P w) A (call (.builtin "list.append") [acc,x]) (λ_ s₅=>∃m,m<n/\I m s₅) (notedBy (model P w) A env λe s'=>R (.error e) s') s₄) (notedBy (model P w) A env λe s'=>R (.error e) s') s₃
      else∃m,m<n/\I m s₃) (notedBy (model P w) A env λe s'=>R (.error e) s') s₂) (notedBy (model P w) A env λe s'=>R (.error e) s') z) (notedBy (model P w) A env λe s'=>R (.error e) s') s₁)
    (notedBy (model P w) A env λe s'=>R (.error e) s') s)
  (n:Nat) (h:I n s):
  codeAny (model P w) A (.compLoop (.ListComp elt [⟨tg,iter,ifs,0⟩] scope pos) 0 it acc env) R s:=by
 refine codeAny_loop rfl I (λn s hI=>?_) n h;show wpAny _ A ((compTurn (.ListComp elt [⟨tg,iter,ifs,0⟩] scope pos) 0 it acc env).onRaise (λx=>do noteFrame x env;theTreesLotGoes x)) _ _ s;refine wpAny_noted ?_;rw[compTurn_list];refine ze (yF (ze (zR (q n s hI) (λr s₁ h₁=>?_) λ_ _ h'=>h')))
 cases r with
 |none=>exact zn h₁
 |some v=>
  refine ze (zR h₁ (λ_ z h₁=>?_) λ_ _ h'=>h');refine ze (zR h₁ (λ_ s₂ h₂=>ze (zR h₂ (λok s₃ h₃=>?_) λ_ _ h'=>h')) λ_ _ h'=>h')
  cases ok with
  |false=>exact zn ⟨rfl,h₃⟩
  |true=>
   exact ze (ze (zR h₃ (λx s₄ h₄=>ze (zR h₄ (λ_ s₅ h₅=>zn (zn ⟨rfl,h₅⟩)) λ_ _ h'=>h')) λ_ _ h'=>h'))
def Sh{pins:List (Addr×Obj)}{σ:St}{H2:Hp}{s2:Shared}{Q:VK}{it:Addr}{fp:List Addr}{tn:Nat->Heap->Prop}{J:It}{R:Value->Addr->Result->Shared->Prop}{E:Value->Shared->Prop}
  (hc:X.calm=true) (C:Wr X iter scope N' cap)
  (hg:∀s H fp xe,PG (cxC X N' scope s H fp xe) tg g) (ht:∀s H fp xe,PTs (cxC X N' scope s H fp xe) ifs tt) (he:∀s H fp xe,PE (cxC X N' scope s H fp xe) elt te)
  (I2:Inv X pins σ H2 s2) (T:Turn X.prog X.w X.K tg J fp it tn) (ag:tn 0 s2.heap) (f2:∀b∈fp,Qm X pins H2 b)
  (hR:∀D Cl H' s',Inv X pins σ H' s'->(∃m,s'.heap.Ns Cl m)->H' Cl=Option.none->Cl≠X.env.locals->X.s₀.heap.objs.size<=Cl->(∀x c,X.env.cells.lookup x=some c->c≠Cl)->(∀p∈X.pn++pins,p.1≠Cl)->Q (.ref D) H'->R (.ref D) Cl (.ok .next) s')
  (hw:∀D,H2 D=Option.none->∃W:Nat->Nat->List V->St->Hp->Prop,(∃m,W 0 m [] (uM σ cap) (upd H2 D (.lst [])))/\∀i m acc σ1 H2,W i m acc σ1 H2->H2 D=some (.lst acc)->
   (J.stop i H2/\Q (.ref D) H2)\/(J.go i H2/\∀x H3,J.yld i H2 x H3->g x σ1 H3 λσ4 H4=>tt σ4 H4 λb H5=>
    if b=true then te σ4 H5 λv H6=>∃aa,H6 D=some (.lst aa)/\aa.length<sizeLine/\∃m',m'<m/\W (i+1) m' (aa++[v]) σ4 (upd H6 D (.lst (aa++[v])))
    else∃m',m'<m/\∃aa,H5 D=some (.lst aa)/\W (i+1) m' aa σ4 H5)):
  wpAny (model X.prog X.w) X.A (newList []) (λacc s₃=>wpAny (model X.prog X.w) X.A (newFunctionEnv scope X.env.globals (Bc scope X.env) [] X.env.qual none .none (some X.env)) (λah s₄=>
   codeAny (model X.prog X.w) X.A (.compStart (.ListComp elt [⟨tg,iter,ifs,0⟩] scope pos) 0 (.ref it) acc {ah with scope:=relabel scope X.env}) (R acc ah.locals) s₄) E s₃) E s2:=by
 refine y8 (wpAny_newFunctionEnv C.nocell (by intro y hy;simp at hy) (λh₁ aj ak=>?_) C.kind);obtain⟨W,⟨m0,w0⟩,ai⟩:=hw s2.heap.objs.size I2.fresh;have I3:Inv X pins σ (upd H2 s2.heap.objs.size (.lst [])) {s2 with heap:=s2.heap.push {cls:=.type "list",data:=.seq ([]:List Value).toArray}}:=I2.lnew (t':=s2.toks) .nil (zV _);generalize am:({s2 with heap:=s2.heap.push {cls:=.type "list",data:=.seq ([]:List Value).toArray}}:Shared)=s3 at I3 aj ak⊢;generalize hD:s2.heap.objs.size=D at I3 w0 ai⊢;have bh:H2 D=Option.none:=by rw[<-hD];exact I2.fresh
 have av:s3.os=s2.os:=by rw[<-am]
 have as:Un (frs X.stack) fp H2 (upd H2 D (.lst [])) s2.heap s3.heap:=by
  rw[<-am,<-hD];exact Un.laid (λb u q=>zd _ q) (zj _) I2.fresh
 have ab:∀b o,s3.heap.get? b=some o->h₁.get? b=some o:=λb o e=>(ak.2 b (zN (zq e))).trans (zd _ e);have af:∀b o,s2.heap.get? b=some o->s3.heap.get? b=some o:=λb o e=>by rw[<-am];exact zd _ e
 have hR':∀(r:Result)(s':Shared),R (.ref D) s3.heap.objs.size r s'->R (.ref D) s3.heap.objs.size r s':=λ_ _ h=>h
 have f3:∀b∈fp,Qm X pins (upd H2 D (.lst [])) b:=λb hb=>by
  obtain⟨q0,q1⟩:=f2 b hb;refine⟨?_,q1⟩;obtain⟨o,e,_⟩:=T.obj _ _ ag b hb;rw[fY (by rw[<-hD];exact zN (zq e))];exact q0
 let XC:Cx:=cxC X N' scope s3 (upd H2 D (.lst [])) fp (notedBy (model X.prog X.w) X.A (compEnvC scope (Bc scope X.env) s3.heap.objs.size X.env) λe s'=>R (.ref D) s3.heap.objs.size (.error e) s')
 have ok:XC.Ok:=by
  refine⟨I3.ok.mod,C.kind,I3.ok.glob,I3.ok.blt,zj _,λx y c e1 e2=>I3.ok.inj x y c ((nA scope X.env).look e1) ((nA scope X.env).look e2),λx hx=>aay C.nocell C.has hx,λx c hf=>(nomatch hf),λ_=>I3.ok.hd hc,I3.ok.frames,.inl rfl,λb hb=>?_,I3.bs,zQ I3.ok.bsz I3.sz,λb o e hb=>?_,λb hb hf=>?_,I3.stack,I3.stkFree⟩
  ·obtain⟨q0,q1,q2,q3,q4,q5⟩:=f3 b hb
   refine⟨?_,λx c e=>q4 x c ((nA scope X.env).look e)⟩;obtain⟨o,e,_⟩:=T.obj _ _ ag b hb;exact zN (zq (af _ _ e))
  ·obtain⟨q0,q1,q2,q3,q4,q5⟩:=f3 b hb
   rcases q3 with q3|q3
   ·exact I3.ok.noex b o e q3
   ·exact absurd (zK (zq e) (zQ I3.ok.bsz q3)) (yj _)
  ·obtain⟨q0,q1,q2,q3,q4,q5⟩:=f3 b hb
   rcases zp.mp (I3.stkSub b hf)with z|z
   ·exact q1 z
   ·exact q2 z
 have I4:Inv XC [] (uM σ cap) (upd H2 D (.lst [])) {s3 with heap:=h₁,toks:=s3.toks+([]:List (Str×Value)).length}:=by
  refine⟨ok,rfl,I3.bare,Un.kept ab,⟨_,aj,λi x v e1 e2 e3=>?_⟩,λx c e=>?_,I3.hok.fresh (zj _),λx c e=>I3.freeC x c ((nA scope X.env).look e),λp hp=>absurd (show p∈([]:List (Addr×Obj))from hp) (by simp),I3.hok.kept ab,by rw[show(uM σ cap).length=cap.length from by simp[uM]];exact C.cap.len⟩
  ·obtain⟨j,g1,g2,g3,g4,c,g5⟩:=C.cap.get e1 e2
   obtain⟨m,_,hl⟩:=I3.loc
   obtain ⟨u,r,l⟩:=hl j x v g1 g2 (by
    rcases g3 with z|z
    ·exact .inr (.inl z)
    ·exact .inr (.inr z))
   refine⟨u,r,.inr ⟨g4,c,g5,?_⟩⟩;rcases l with⟨k,_⟩|⟨_,c',e,z⟩
   ·rcases g3 with q|q
    ·rw[k]at q;cases q
    ·rw[k]at q;cases q
   ·have e':=(nA scope X.env).look g5
    rw[e]at e';cases e';obtain⟨o,ho,hd⟩:=z;exact⟨o,ab _ _ ho,hd⟩
  ·obtain⟨v,o,ho,hd⟩:=I3.cell x c ((nA scope X.env).look e)
   exact⟨v,o,ab _ _ ho,hd⟩
 have au:tn 0 h₁:=T.keep _ _ _ ag λb _ o e=>ab b o (af b o e)
 have ao:∀{ac:List (Addr×Obj)}{H':Hp},(∀b∈fp,H' b=Option.none)->(∀p∈ac,p.1∉fp)->∀b∈fp,Qm XC ac H' b:=fun{ac H'} hn hp b hb=>by
  obtain⟨q1,q2⟩:=ok.exf b hb;exact⟨hn b hb,q1,ok.exfs b hb,.inl hb,q2,λp ba z=>hp p (by simpa [XC,cxC] using ba) (by rw[z];exact hb)⟩
 have bi:D∉fp:=λhb=>by
  obtain⟨o,e,_⟩:=T.obj _ _ ag D hb;rw[<-hD]at e;exact absurd (zq e) (yj _)
 have out:∀{σ':St}{H':Hp}{s':Shared},Inv XC [] σ' H' s'->Inv X pins σ H' s':=fun{σ' H' s'} J'=>
  I2.call' (ch:=fp) (J'.os.trans av) (as.trans J'.base) J'.hok J'.bare λb hb=>by
   obtain⟨q0,q1,q2,q3,q4,q5⟩:=f2 b hb;exact⟨q3,q1,q4,q5⟩
 have al:∀s₄:Shared,s₄={s3 with heap:=h₁,toks:=s3.toks+([]:List (Str×Value)).length}->
   codeAny (model X.prog X.w) X.A (.compLoop (.ListComp elt [⟨tg,iter,ifs,0⟩] scope pos) 0 (.ref it) (.ref D) (compEnvC scope (Bc scope X.env) s3.heap.objs.size X.env)) (R (.ref D) s3.heap.objs.size) s₄:=by
  rintro s₄ rfl
  refine Ji (λn s'=>∃i acc σ' H',Inv XC [] σ' H' s'/\tn i s'.heap/\(∀b∈fp,H' b=Option.none)/\H' D=some (.lst acc)/\W i n acc σ' H') ?_ m0
   ⟨0,[],uM σ cap,upd H2 D (.lst []),I4,au,λb hb=>(f3 b hb).1,fK,w0⟩
  rintro n s5 ⟨i,acc,σ5,H5,I5,ar,ap,hA,w5⟩;rcases ai i n acc σ5 H5 w5 hA with⟨stop,q⟩|⟨go,aq⟩
  ·refine thn (T.done XC rfl rfl rfl hc i [] s5 σ5 H5 _ I5 (ao ap (by simp)) ar stop) λr s6 ⟨hr,I6⟩=>?_
   subst hr;obtain⟨m,hn,_⟩:=I6.loc
   exact hR D s3.heap.objs.size H5 s6 (out I6) ⟨m,hn⟩ I6.free (yye I3.lt) I3.sz (λx c e z=>by
    obtain⟨v,o,ho,_⟩:=I3.cell x c e;rw[z]at ho;exact absurd (zq ho) (yj _)) (λp hp z=>by
    have e:=(I3.pin p hp).1;rw[z]at e;exact absurd (zq e) (yj _)) q
  ·refine thn (T.item XC rfl rfl rfl hc i [] s5 σ5 H5 _ I5 (ao ap (by simp)) ar go) λr s6 ⟨u,hr,h6⟩=>?_
   subst hr;refine thn h6 λ_ s7 ⟨x,H7,I7,r7,y7,an,ax⟩=>?_;have I7':=I7.pinned (ao ax (by simp)) (T.obj _ _ an)
   have ad:∀{σ8:St}{H8:Hp}{s8:Shared},Inv XC ([]++Hq fp s7.heap) σ8 H8 s8->(∃aa,H8 D=some (.lst aa)/\∃m',m'<n/\W (i+1) m' aa σ8 H8)->
     ∃m,m<n/\∃i acc σ' H',Inv XC [] σ' H' s8/\tn i s8.heap/\(∀b∈fp,H' b=Option.none)/\H' D=some (.lst acc)/\W i m acc σ' H':=fun{σ8 H8 s8} I8⟨aa,ae,m',hm,w8⟩=>by
    refine⟨m',hm,i+1,aa,σ8,H8,I8.unpinned,T.keep _ _ _ an λb hb o e=>(I8.pin (b,o) (zL _ (zL _ (vI hb e)))).1,λb hb=>?_,ae,w8⟩;obtain⟨o,e,d⟩:=T.obj _ _ an b hb;exact(I8.pin (b,o) (zL _ (zL _ (vI hb e)))).2.1
   refine thn (hg s3 _ fp _ _ s7 σ5 H7 x u _ I7' r7 (aq x H7 y7)) λ_ s8 ⟨σ8,H8,I8,q8⟩=>?_;refine thn (ht s3 _ fp _ _ s8 σ8 H8 _ I8 q8) λb s9 ⟨H9,I9,q9⟩=>?_
   cases b with
   |false=>
    rw[zo zE]at q9⊢;obtain⟨m',hm,aa,ae,w9⟩:=q9;exact ad I9 ⟨aa,ae,m',hm,w9⟩
   |true=>
    rw[zu rfl]at q9⊢;refine thn (he s3 _ fp _ _ s9 σ8 H9 _ I9 q9) λv az ⟨y,aw,bc,bb,aa,ae,hz,m',hm,bd⟩=>?_;refine thn (nF (X:=XC) _ az σ8 aw (.ref D) [y] (.ref D) [v] (λ_ Hz=>Hz=upd aw D (.lst (aa++[y]))) bc rfl (.cons bb .nil) ⟨D,aa,y,rfl,rfl,ae,hz,rfl⟩) λ_ bg ⟨_,bf,be,_,ay⟩=>?_;subst ay;exact ad be ⟨aa++[y],fK,m',hm,bd⟩
 exact codeAny_compStart_list (al _ rfl) (T.self _ 0 _ _ _ au (al _ rfl))
def jO(hc:X.calm=true)(C:Wr X iter scope N' cap)(hi:PI X tg iter wi)
  (hg:∀s H z xe,PG (cxC X N' scope s H z xe) tg g) (ht:∀s H z xe,PTs (cxC X N' scope s H z xe) ifs tt) (he:∀s H z xe,PE (cxC X N' scope s H z xe) elt te):
  PE X (.ListComp elt [⟨tg,iter,ifs,0⟩] scope pos) (YX cap wi g tt te):=by
 intro pins s σ H Q I h;rw[eval_ListComp];refine wpAny_comprehension_free (use:=none) rfl C.fold C.clos C.kind C.names (thn (hi pins s σ H _ I h) λv s1 h1=>thn h1 λac s2 h2=>?_);obtain⟨it,z,tn,J,H2,e,I2,T,ab,f2,hw⟩:=h2;subst e;refine Sh (R:=λacc Cl=>compPost (model X.prog X.w) X.A X.xe none (EP X pins σ Q) acc Cl) hc C hg ht he I2 T ab f2 ?_ hw;intro D Cl H' s' I' ⟨m,hn⟩ hf h1 h2 h3 h4 q;exact⟨m,hn,λh' aa=>⟨.ref D,H',I'.turned (t':=s'.toks) (λb o hb e=>(aa.2 b hb).trans e) hf h1 (.inr h2) h3 h4,rfl,q⟩⟩
end
end L2
namespace L2
open PySem PySem.Spec PyProof.Rows
section
variable{X:Cx}{a b c:Expr}{ta tb tc:TE}{pos:Pos}
noncomputable def WT(i j:Int):Prop:=i.natAbs<2^2000/\j.natAbs<2^2000
def WT.ok{i j:Int}(h:WT i j):IntMulOk i j:=
 IntMulOk.of_bits (zQ (intBits_le h.1) (by decide)) (zQ (intBits_le h.2) (by decide))
noncomputable def Py(_ j:Int):Prop:=0<j/\j.natAbs<2^2000
def jm:OpR X (binaryOp .FloorDiv) (rI Py λi j=> .int (i/j)):=opI λi j _ _ _ _ _ z q=>by
 have h1:(0:Int)<j:=z.1;have h0:j.natAbs≠0:=by omega
 have h2:j.natAbs.log2<2000:=(Nat.log2_lt h0).mpr z.2;exact floordiv_int (by omega) (by rw[Int.fdiv_eq_ediv_of_nonneg i (by omega)];exact q) (.inl (PyProof.noPylong_of_log2 (by omega)))
def Ru(hc:X.calm=true):jY X (.builtin "sum") (λxs H Q=>∃(a:Addr)(ns:List Int),xs=[.ref a]/\SqL X.K H a (ns.map V.int)/\Q (.int ns.sum) H):=by
 intro pins s σ H xs us Q I r h;obtain⟨a,ns,rfl,hq,q⟩:=h;obtain⟨u,rfl,r1⟩:=vals1 r;cases r1;obtain⟨its,rv,pl,hz⟩:=I.list hq;have hi:IntsAre its ns:=intsAre_of rv;obtain⟨xs,e⟩:=hi.allInts.items;have z:=pl.isList;rw[e]at z;refine sum_intListG (I.ok.hd hc) z λh' tk t' hk=>?_;have e1:its=(intItems xs).toList:=by rw[<-e]
 have e2:xs.toList.map (·.1)=ns:=by rw[<-nums_intItems,<-e1,hi.numsOf]
 have es:preSum (numAt xs) xs.size=ns.sum:=by rw[preSum_eq,ya (by simp),e2]
 rw[es];exact⟨.int ns.sum,H,I.kept hk,⟨_,rfl⟩,q⟩
def Nz{pins:List (Addr×Obj)}{σ:St}{H:Hp}{s:Shared}{l:Addr}{bs:List Bool}(I:Inv X pins σ H s)(hq:SqL X.K H l (bs.map V.bl)):
  ∃its:List Value,its.length=bs.length/\s.heap.IsList l its.toArray/\l≠s.heap.objs.size/\∀(i:Nat)(v:Value),its.toArray[i]? =some v->v=.bool (bs.getD i false):=by
 obtain⟨its,q,pl,hz⟩:=I.list hq;refine⟨its,by rw[<-q.length,zb],pl.isList,?_,λi v e=>?_⟩
 ·obtain⟨o,n,e,_⟩:=pl
  exact zN (zq e)
 ·have e':its[i]? =some v:=by simpa using e
  have hi:i<its.length:=(zr.mp e').1;have hb:i<bs.length:=by have:=q.length;rw[zb]at this;omega
  obtain⟨u,z,ru⟩:=q.get (i:=i) (x:=.bl bs[i]) (by simp[hb]);rw[e']at z;cases z;have:v=Value.bool bs[i]:=ru;rw[this];simp[List.getD,hb]
def range_all(bs:List Bool):(List.range bs.length).all (λi=>bs.getD i false)=bs.all id:=by
 rw[yX];simp only[yG,List.mem_range,id];constructor
 ·intro h x q
  obtain⟨i,hi,rfl⟩:=List.mem_iff_getElem.mp q
  simpa [List.getD,hi] using h i hi
 ·intro h i hi
  have:=h bs[i] (List.getElem_mem hi)
  simpa [List.getD,hi] using this
def RV(hc:X.calm=true):jY X (.builtin "all") (λxs H Q=>∃(a:Addr)(bs:List Bool),xs=[.ref a]/\SqL X.K H a (bs.map V.bl)/\Q (.bl (bs.all id)) H):=by
 intro pins s σ H xs us Q I r h;obtain⟨a,bs,rfl,hq,q⟩:=h;obtain⟨u,rfl,r1⟩:=vals1 r;cases r1;obtain⟨its,aa,hl,ab,ac⟩:=Nz I hq;refine call_all_walk (yN hl ?_);refine⟨s.heap.objs.size,_,_,_,_,_,λi=>bs.getD i false,rfl,Walks.list (A:=X.A.in1) (I.ok.hd hc) s.heap.objs.size a ab its.toArray,⟨⟨_,zP _ rfl,rfl,rfl⟩,hl.at λo e=>zd _ e⟩,λi v s' Q' E' e hQ=>?_,λh' tk hk=>?_⟩
 ·rw[ac i v e]
  exact yM hQ
 ·have e:(List.range its.toArray.size).all (λi=>bs.getD i false)=bs.all id:=by rw[zm,aa];exact range_all bs
  rw[e];refine⟨.bl (bs.all id),H,I.kept λb o e=>hk b o ?_ (zd _ e),rfl,q⟩;intro z;have z':b=s.heap.objs.size:=by simpa using z
  rw[z']at e;exact absurd (zq e) (yj _)
end
section
variable{prog:Program}{w:World}{A:Around}{E:Value->Shared->Prop}
theorem IV{it t:Addr}{items:Array Value}(q:t≠it):∀(n i:Nat)(s:Shared)(Q:List Value->Shared->Prop),s.heap.IsListIter it t i->s.heap.IsList t items->i+n<=items.size->
  (∀h',h'.IsListIter it t (i+n)->Heap.SameBut it s.heap h'->Q ((items.toList.drop i).take n) {s with heap:=h'})->wpAny (model prog w) A (draw (.ref it) n) Q E s
 |0,i,s,Q,hit,_,_,hQ=>by
  show wpAny _ _ (pure []) Q E s;exact zn (by simpa using hQ s.heap hit (Heap.SameBut.refl ..))
 |n+1,i,s,Q,hit,ht,hle,hQ=>by
  have ab:i<items.size:=by omega
  show wpAny _ _ (pyNext (.ref it)>>=_) Q E s;refine ze (wpAny_pyNext_list_item hit ht (x:=items[i]) (by simp[ab]) λh₁ ac z=>?_);refine ze (yn (IV q n (i+1) _ _ ac (ht.extBut z.extBut q) (by omega) λh₂ aa ad=>zn ?_));have hd:items.toList.drop i=items[i]::items.toList.drop (i+1):=by simp[List.drop_eq_getElem_cons,ab]
  have:=hQ h₂ (by rw[show i+(n+1)=i+1+n by omega];exact aa) (z.trans ad);rw[hd,zzR]at this;exact this
def Bg{s:Shared}{t:Addr}{items:Array Value}{Q:List Value->Shared->Prop}(hh:A.handled=none)(ht:s.heap.IsList t items)
  (hQ:∀h',Heap.ExtBut s.heap.objs.size s.heap h'->Q items.toList {s with heap:=h'}):wpAny (model prog w) A (unpackItems (.ref t) items.size none) Q E s:=by
 have aa:t≠s.heap.objs.size:=by obtain⟨o,ho,_⟩:=ht;exact zN (zq ho)
 unfold unpackItems;refine ze ?_
 ·unfold notIterableAtAll
  refine ze (wpAny_specialOf ht.typeIs slot_list_iter.lookup ?_);refine zn ?_;simp only[yt,if_false];refine ze (yn (yN ht ?_));have z:(s.heap.push {cls:=.type "list_iterator",data:=.fields #[.ref t,.int 0 0]}).IsList t items:=ht.at λo e=>zd _ e;refine ze (yn (IV aa items.size 0 _ _ ⟨_,zP _ rfl,rfl,rfl⟩ z (by omega) λh₁ ac q=>?_))
  have ab:List.take items.size (List.drop 0 items.toList)=items.toList:=by
   rw[zzt];exact ya (by simp)
  rw[ab];rw[zo (by simp)];have ae:h₁.IsList t items:=z.extBut q.extBut aa;refine ze (yn (wpAny_pyNext_list_end hh ac ae (by simp) λh₂ ad=>?_));simp only[Option.isSome_none,yt,if_false];refine zn (hQ h₂ λb o hb e=>ad b o hb (q.extBut b o hb (zd _ e)))
def Ai{env:Env}{elts:List Expr}{x1}{pos:Pos}{s:Shared}{t:Addr}{items:Array Value}{Q:Unit->Shared->Prop}(z:A.handled=none)(ht:s.heap.IsList t items)
  (hn:(assignEach elts env).length=items.size) (q:(assignEach elts env).findIdx? (·.1)=none)
  (h:∀h',Heap.ExtBut s.heap.objs.size s.heap h'->wpAny (model prog w) A (assignInOrder ((assignEach elts env).map (·.2)) items.toList) Q E {s with heap:=h'}):
  wpAny (model prog w) A (assign (.Tuple elts x1 pos) env (.ref t)) Q E s:=by
 rw[assign_Tuple];refine ze (yF ?_);unfold unpack;rw[hn,q];exact ze (yn (Bg z ht h))
end
section
variable{X:Cx}{pos:Pos}
noncomputable def aaX(K:Fg_)(n:Nat)(t:TGs):TG:=λv σ H Q=>∃a xs,v=.ref a/\SqL K H a xs/\xs.length=n/\t xs σ H Q
def ZJ{es:List Expr}{k:Nat}{t:TGs}{n:Nat}(hc:X.calm=true)(h:PGs X es t)
  (hn:(assignEach es X.env).length=n:=by rfl) (hst:(assignEach es X.env).findIdx? (·.1)=none:=by rfl):PG X (.Tuple es k pos) (aaX X.K n t):=by
 intro pins s σ H v u Q I r q;obtain⟨a,xs,e1,hq,hl,q⟩:=q;subst e1;cases r;obtain⟨its,z,ht,hz⟩:=I.list hq;refine Ai (I.ok.hd hc) ht.isList (by simp[hn,<-hl,z.length]) hst λh' hx=>?_;have I1:Inv X pins σ H {s with heap:=h'}:=I.kept (t':=s.toks) λb o e=>hx b o (zN (zq e)) e;exact h pins _ σ H xs _ Q I1 (by simpa using z) q
end
end L2
namespace L2
open PySem PySem.Spec PyProof.Rows
section
variable{X:Cx}{a b c:Expr}{ta tb tc:TE}{pos:Pos}
noncomputable def KH(i j:Int):Prop:=abm i j\/WT i j
def lC:OpR X (binaryOp .Mult) (rI KH λi j=> .int (i*j)):=opI λ_ _ _ _ _ _ _ z q=>mul_int q (z.elim (λh=>h.ok) λh=>h.ok)
def Er{i j:Int}(h1: -(2^64)<i)(h2:i<2^64):KH i j:=.inl (.inl ⟨h1,h2⟩)
def Lw{i j:Int}(h1: -(2^64)<j)(h2:j<2^64):KH i j:=.inl (.inr ⟨h1,h2⟩)
def KH.big{i j:Int}(h1:i.natAbs<2^2000)(h2:j.natAbs<2^2000):KH i j:=.inr ⟨h1,h2⟩
def Jv:jY X (.builtin "isinstance") (λxs H Q=>∃x n t k,xs=[x,.ty n]/\JQ X.K H x t/\PySem.W.kitOne X.K t (.type n)=some k/\Q (.bl k) H):=by
 intro pins s σ H xs us Q I r h;obtain⟨x,n,t,k,rfl,ty,e,q⟩:=h;obtain⟨u,w',rfl,rx,z⟩:=vals2 r;cases z;exact QV I rx ty e λtk=>⟨.bl k,H,I.tok _,rfl,q⟩
def QX{x:Str}(T:String)(z:Gl X x)(hm:X.mg x=none)(q:bootBuiltins x=some (.type T))(hn:x≠ "__name__" :=by decide) (hd:(x==("__debug__" :Str))=false:=by decide):PE X (.Name x pos) (tC (.ty T)):=Xv z hm q rfl hn hd
end
section
variable{D:Ends}{σ:St}{H:Hp}{t u:TS}{te ta tb tc:TE}{tt tu:TT}{Q:VK}{QB:Bool->Hp->Prop}{QA:List V->Hp->Prop}{QG:St->Hp->Prop}{v x y:V}{vs:List V}{i j:Nat}{g:TG}{gs:TGs}{A:TA}{K:Fg_}
def ap_seq:Zv t u D σ H=t {D with nx:=u D} σ H:=rfl
def ap_next:aac D σ H=D.nx σ H:=rfl
def ap_asg:abh te g D σ H=te σ H λx H1=>g x σ H1 D.nx:=rfl
def ap_name:KC i v σ H QG=QG (σ.set i (some v)) H:=rfl
def ap_var:Ij i σ H Q=∃v,σ[i]? =some (some v)/\Q v H:=rfl
def ap_c:tC v σ H Q=Q v H:=rfl
def ap_op{r:R2}:tOp r ta tb σ H Q=ta σ H λx H1=>tb σ H1 λy H2=>r x y H2 Q:=rfl
def ap_un{r:V->Hp->VK->Prop}:tUn r ta σ H Q=ta σ H λx H1=>r x H1 Q:=rfl
def ap_rI{C:Int->Int->Prop}{f:Int->Int->V}:rI C f x y H Q=∃i j,x=.int i/\y=.int j/\C i j/\Q (f i j) H:=rfl
def ap_rI0{f:Int->Int->V}:rI0 f x y H Q=∃i j,x=.int i/\y=.int j/\Q (f i j) H:=rfl
def ap_rU{f:Int->V}:rU f x H Q=∃i,x=.int i/\Q (f i) H:=rfl
def ap_rEq:rEq x y H Q=(Yi x y=true/\Q (.bl (decide (x=y))) H):=rfl
def ap_rNe:rNe x y H Q=(Yi x y=true/\Q (.bl (!decide (x=y))) H):=rfl
def ap_ret:abG te D σ H=te σ H D.rt:=rfl
def ap_retN:YW D σ H=D.rt .non H:=rfl
def ap_drop:YQ te D σ H=te σ H λ_ H1=>D.nx σ H1:=rfl
def ap_if:aaJ tt t u D σ H=tt σ H λb H1=>if b=true then t D σ H1 else u D σ H1:=rfl
def ap_test:ZP te σ H QB=te σ H λx H'=>∃k,x=.bl k/\QB k H':=rfl
def ap_tB:tB te σ H QB=te σ H λx H1=>∃c,x=.bl c/\QB c H1:=rfl
def ap_and:abD tt tu σ H QB=tt σ H λc H1=>if c=true then tu σ H1 QB else QB false H1:=rfl
def ap_or:tOr tt tu σ H QB=tt σ H λc H1=>if c=true then QB true H1 else tu σ H1 QB:=rfl
def ap_not:abV tt σ H QB=tt σ H λc H1=>QB (!c) H1:=rfl
def ap_andV:Ze ta tb σ H Q=ta σ H λx H1=>∃c,x=.bl c/\if c=true then tb σ H1 Q else Q (.bl false) H1:=rfl
def ap_notV:YK ta σ H Q=ta σ H λx H1=>∃c,x=.bl c/\Q (.bl (!c)) H1:=rfl
def ap_ifE:tIf tt ta tb σ H Q=tt σ H λc H1=>if c=true then ta σ H1 Q else tb σ H1 Q:=rfl
def ap_call{sp:Sp}{dvs:List V}{E:XK}:Vd sp dvs E A σ H Q=A σ H λvs H1=>sp (vs++dvs) H1 Q E:=rfl
def ap_nil:Ro σ H QA=QA [] H:=rfl
def ap_cons:uy ta A σ H QA=ta σ H λx H1=>A σ H1 λxs H2=>QA (x::xs) H2:=rfl
def ap_cb{r:List V->Hp->VK->Prop}:tCB r A σ H Q=A σ H λvs H1=>r vs H1 Q:=rfl
def ap_lst:ZG A σ H Q=A σ H λxs H1=>xs.length<=sizeLine/\∀p,H1 p=none->Q (.ref p) (upd H1 p (.lst xs)):=rfl
def ap_tup:abR A σ H Q=A σ H λxs H1=>xs.length<=sizeLine/\∀p,H1 p=none->Q (.ref p) (upd H1 p (.tup xs)):=rfl
def ap_chain{r r':R2}:Rp r r' ta tb tc σ H Q=ta σ H λx H1=>tb σ H1 λy H2=>r x y H2 λz q=>∃k,z=.bl k/\(if k=true then tc σ q λw' H4=>r' y w' H4 Q else Q (.bl false) q):=rfl
def ap_sl{r:V->Option Int->Option Int->Hp->VK->Prop}{tl th:TO}:tSl r te tl th σ H Q=te σ H λx H1=>tl σ H1 λl H2=>th σ H2 λu q=>r x l u q Q:=rfl
def ap_noPart{QO:Option Int->Hp->Prop}:SJ σ H QO=QO none H:=rfl
def ap_part{QO:Option Int->Hp->Prop}:aap te σ H QO=te σ H λx H1=>∃i,x=.int i/\QO (some i) H1:=rfl
def ap_gNil:abX vs σ H QG=(vs=[]/\QG σ H):=rfl
def ap_gCons{u:TGs}:Zw g u vs σ H QG=∃v r,vs=v::r/\g v σ H λq H'=>u r q H' QG:=rfl
def ap_gLst{n:Nat}:aaX K n gs v σ H QG=∃a xs,v=.ref a/\SqL K H a xs/\xs.length=n/\gs xs σ H QG:=rfl
def ap_gTup{n:Nat}:abj K n gs v σ H QG=∃a xs,v=.ref a/\SqT K H a xs/\xs.length=n/\gs xs σ H QG:=rfl
def ap_bm{T:String}{r:V->List V->Hp->VK->Prop}:tBM K T r te A σ H Q=te σ H λx H1=>tyV K T x H1/\A σ H1 λxs H2=>r x xs H2 Q:=rfl
def ap_bm0{T:String}{r:V->List V->Hp->VK->Prop}:abg K T r te σ H Q=te σ H λx H1=>tyV K T x H1/\r x [] H1 Q:=rfl
def ap_ixL{x y:V}:YH K x y H Q=∃p xs i v,x=.ref p/\y=.int i/\SqL K H p xs/\atI xs i=some v/\Q v H:=rfl
def ap_slL{lo hi:Option Int}:aaS K x lo hi H Q=∃a xs,x=.ref a/\SqL K H a xs/\∀p,H p=none->Q (.ref p) (upd H p (.lst (uN xs lo hi))):=rfl
def scal_int(i j:Int):Yi (.int i) (.int j)=true:=rfl
def scal_str(i j:Str):Yi (.str i) (.str j)=true:=rfl
def scal_bl(i j:Bool):Yi (.bl i) (.bl j)=true:=rfl
def start_eq(N:List Str)(vs:List V):start N vs=vs.map some++List.replicate (N.length - vs.length) none:=rfl
end
end L2
namespace L2
open PySem PySem.Spec PyProof.Rows
def nU{α:Type}(l:List α):l.filter (λ_=>true)=l:=by simp
theorem Same.upd{H H':Hp}{a:Addr}{o:HO}(h:Same H H')(hn:H a=Option.none):Same H (upd H' a o):=λb u e=>by
 rw[fY (gH e hn)];exact h b u e
def fM{H:Hp}{a:Addr}{o:HO}(hn:H a=Option.none):Same H (L2.upd H a o):=Same.upd (same_refl H) hn
section
variable{K:Fg_}{a D:Addr}{xs:List V}{g:TG}{tt:TT}{te:TE}{σ0:St}{H1:Hp}{Q:VK}
def wW{xs:List V}(J:It)(Sσ:St->Prop)(p:V->Bool)(F:V->V)(hD:H1 D=Option.none)(h0:Sσ σ0)(hz:xs.length<=sizeLine)
  (ae:∀(i:Nat) x H,xs[i]? =some x->Same H1 H->J.go i H/\∀y H',J.yld i H y H'->y=x/\H'=H) (ac:∀H,Same H1 H->J.stop xs.length H)
  (hs:∀x∈xs,∀(σ:St)(H:Hp)(R1:St->VK)(R2:St->Hp->Prop),Sσ σ->Same H1 H->(p x=true->∀z H6,Sσ z->Same H H6->R1 z (F x) H6)->(p x=false->∀z H6,Sσ z->Same H H6->R2 z H6)->
   g x σ H λz H4=>tt z H4 λb H5=>if b=true then te z H5 (R1 z)else R2 z H5)
  (k:∀H',Same H1 H'->H' D=some (.lst ((xs.filter p).map F))->Q (.ref D) H'):
  ∃W:Nat->Nat->List V->St->Hp->Prop,(∃m,W 0 m [] σ0 (upd H1 D (.lst [])))/\∀i m acc σ1 H2,W i m acc σ1 H2->H2 D=some (.lst acc)->
   (J.stop i H2/\Q (.ref D) H2)\/(J.go i H2/\∀x H3,J.yld i H2 x H3->g x σ1 H3 λz H4=>tt z H4 λb H5=>
    if b=true then te z H5 λv H6=>∃q,H6 D=some (.lst q)/\q.length<sizeLine/\∃m',m'<m/\W (i+1) m' (q++[v]) z (upd H6 D (.lst (q++[v])))
    else∃m',m'<m/\∃q,H5 D=some (.lst q)/\W (i+1) m' q z H5):=by
 refine⟨λi m acc σ H=>m=xs.length - i/\i<=xs.length/\Sσ σ/\Same H1 H/\acc=((xs.take i).filter p).map F,⟨xs.length,rfl,zV _,h0,fM hD,by simp⟩,?_⟩;rintro i m acc σ H ⟨rfl,hi,hσ,sm,rfl⟩ hA;by_cases ab:i<xs.length
 ·have hx:xs[i]? =some xs[i]:=by simp[ab]
  obtain⟨go,yl⟩:=ae i xs[i] H hx sm;refine .inr ⟨go,λy H' hy=>?_⟩;obtain⟨rfl,rfl⟩:=yl y H' hy;have aa:xs.take (i+1)=xs.take i++[xs[i]]:=by rw[y4,hx];rfl
  have af:(((xs.take i).filter p).map F).length<=i:=by
   rw[zb];exact zQ (List.length_filter_le _ _) (by rw[zv];exact Nat.min_le_left _ _)
  refine hs xs[i] (List.getElem_mem ab) σ H' _ _ hσ sm (λhp z H6 ad s6=>?_) (λhp z H6 ad s6=>?_)
  ·refine⟨_,s6 _ _ hA,by omega,xs.length - (i+1),by omega,rfl,ab,ad,(sm.trans s6).upd hD,?_⟩
   rw[aa,List.filter_append,zk];simp[hp]
  ·refine⟨xs.length - (i+1),by omega,_,s6 _ _ hA,rfl,ab,ad,sm.trans s6,?_⟩
   rw[aa,List.filter_append,zk];simp[hp]
 ·have e:i=xs.length:=by omega
  subst e;refine .inl ⟨ac H sm,k H sm ?_⟩;rw[hA,zzB]
def Qq(Sσ:St->Prop)(p:V->Bool)(F:V->V)(hS:SqL K H1 a xs)(hD:H1 D=Option.none)(h0:Sσ σ0)(hz:xs.length<=sizeLine)
  (hs:∀x∈xs,∀(σ:St)(H:Hp)(R1:St->VK)(R2:St->Hp->Prop),Sσ σ->Same H1 H->(p x=true->∀z H6,Sσ z->Same H H6->R1 z (F x) H6)->(p x=false->∀z H6,Sσ z->Same H H6->R2 z H6)->
   g x σ H λz H4=>tt z H4 λb H5=>if b=true then te z H5 (R1 z)else R2 z H5)
  (k:∀H',Same H1 H'->H' D=some (.lst ((xs.filter p).map F))->Q (.ref D) H'):
  ∃W:Nat->Nat->List V->St->Hp->Prop,(∃m,W 0 m [] σ0 (upd H1 D (.lst [])))/\∀i m acc σ1 H2,W i m acc σ1 H2->H2 D=some (.lst acc)->
   ((Itl K a).stop i H2/\Q (.ref D) H2)\/((Itl K a).go i H2/\∀x H3,(Itl K a).yld i H2 x H3->g x σ1 H3 λz H4=>tt z H4 λb H5=>
    if b=true then te z H5 λv H6=>∃q,H6 D=some (.lst q)/\q.length<sizeLine/\∃m',m'<m/\W (i+1) m' (q++[v]) z (upd H6 D (.lst (q++[v])))
    else∃m',m'<m/\∃q,H5 D=some (.lst q)/\W (i+1) m' q z H5):=
 wW (Itl K a) Sσ p F hD h0 hz (λi x H hx sm=>⟨⟨xs,x,sm.seq hS,hx⟩,λy H' hy=>⟨zf ((hy.2 xs (sm.seq hS)).symm.trans hx),hy.1⟩⟩) (λH sm=>⟨xs,sm.seq hS,zj _⟩) hs k
def Oh{lo:Int}{n:Nat}(Sσ:St->Prop)(p:V->Bool)(F:V->V)(hD:H1 D=Option.none)(h0:Sσ σ0)(hz:n<=sizeLine)
  (hs:∀i:Nat,i<n->∀(σ:St)(H:Hp)(R1:St->VK)(R2:St->Hp->Prop),Sσ σ->Same H1 H->(p (.int (lo+i))=true->∀z H6,Sσ z->Same H H6->R1 z (F (.int (lo+i))) H6)->(p (.int (lo+i))=false->∀z H6,Sσ z->Same H H6->R2 z H6)->
   g (.int (lo+i)) σ H λz H4=>tt z H4 λb H5=>if b=true then te z H5 (R1 z)else R2 z H5)
  (k:∀H',Same H1 H'->H' D=some (.lst ((((List.range n).map fun(i:Nat)=>V.int (lo+i)).filter p).map F))->Q (.ref D) H'):
  ∃W:Nat->Nat->List V->St->Hp->Prop,(∃m,W 0 m [] σ0 (upd H1 D (.lst [])))/\∀i m acc σ1 H2,W i m acc σ1 H2->H2 D=some (.lst acc)->
   ((Itr lo n).stop i H2/\Q (.ref D) H2)\/((Itr lo n).go i H2/\∀x H3,(Itr lo n).yld i H2 x H3->g x σ1 H3 λz H4=>tt z H4 λb H5=>
    if b=true then te z H5 λv H6=>∃q,H6 D=some (.lst q)/\q.length<sizeLine/\∃m',m'<m/\W (i+1) m' (q++[v]) z (upd H6 D (.lst (q++[v])))
    else∃m',m'<m/\∃q,H5 D=some (.lst q)/\W (i+1) m' q z H5):=by
 refine wW (xs:=(List.range n).map fun(i:Nat)=>V.int (lo+i)) (Itr lo n) Sσ p F hD h0 (by simpa using hz) (λi x H hx sm=>?_) (λH sm=>?_) (λx hx σ H R1 R2 h1 h2 h3 h4=>?_) k
 ·have hi:i<n:=by simpa using (zr.mp hx).1
  have e:x=.int (lo+i):=by
   rw[zB,List.getElem?_range hi]at hx;exact(zf hx).symm
  exact⟨hi,λy H' hy=>⟨hy.2.trans e.symm,hy.1⟩⟩
 ·show n<=_
  simp
 ·obtain⟨i,hi,rfl⟩:=zO.mp hx
  exact hs i (List.mem_range.mp hi) σ H R1 R2 h1 h2 h3 h4
end
end L2
namespace L2
open PySem PySem.Spec PyProof.Rows
inductive DV where
 |non|bl (b:Bool)|int (i:Int)|str (x:Str)|lst (xs:List DV)|tup (xs:List DV)
mutual
inductive Ac(K:Fg_)(H:Hp):V->DV->Prop
 |non:Ac K H .non .non
 |bl (b:Bool):Ac K H (.bl b) (.bl b)
 |int (i:Int):Ac K H (.int i) (.int i)
 |str (x:Str):Ac K H (.str x) (.str x)
 |lst {a:Addr} {vs:List V} {ds:List DV} (h:SqL K H a vs) (hs:lJ K H vs ds):Ac K H (.ref a) (.lst ds)
 |tup {a:Addr} {vs:List V} {ds:List DV} (h:SqT K H a vs) (hs:lJ K H vs ds):Ac K H (.ref a) (.tup ds)
inductive lJ(K:Fg_)(H:Hp):List V->List DV->Prop
 |nil:lJ K H [] []
 |cons {v:V} {d:DV} {vs:List V} {ds:List DV} (h:Ac K H v d) (hs:lJ K H vs ds):lJ K H (v::vs) (d::ds)
end
mutual
noncomputable def jb:DV->DV->Bool
 |.non,.non=>true
 |.bl a,.bl b=>a==b
 |.int a,.int b=>a==b
 |.bl a,.int b=>(if a then 1 else 0)==b
 |.int a,.bl b=>a==(if b then 1 else 0)
 |.str a,.str b=>a==b
 |.lst xs,.lst ys=>xM xs ys
 |.tup xs,.tup ys=>xM xs ys
 |_,_=>false
noncomputable def xM:List DV->List DV->Bool
 |[],[]=>true
 |x::xs,y::ys=>jb x y && xM xs ys
 |_,_=>false
end
mutual
noncomputable def uI:DV->Nat
 |.lst xs=>kW xs+1
 |.tup xs=>kW xs+1
 |_=>0
noncomputable def kW:List DV->Nat
 |[]=>0
 |x::xs=>max (uI x) (kW xs)
end
theorem lJ.length{K:Fg_}{H:Hp}:∀{vs:List V}{ds:List DV},lJ K H vs ds->vs.length=ds.length
 |_,_,.nil=>rfl
 |_,_,.cons _ hs=>congrArg (·+1) (lJ.length hs)
theorem lJ.get{K:Fg_}{H:Hp}:∀{vs:List V}{ds:List DV}{j:Nat}{v:V}{d:DV},lJ K H vs ds->vs[j]? =some v->ds[j]? =some d->Ac K H v d
 |_,_,_,_,_,.nil,h,_=>by simp at h
 |_,_,0,_,_,.cons h _,e1,e2=>by simp at e1 e2;subst e1 e2;exact h
 |_,_,j+1,_,_,.cons _ hs,e1,e2=>lJ.get (j:=j) hs (by simpa using e1) (by simpa using e2)
theorem IW:∀{ds:List DV}{j:Nat}{d:DV},ds[j]? =some d->uI d<=kW ds
 |[],_,_,h=>by simp at h
 |x::xs,0,d,h=>by simp at h;subst h;unfold kW;exact Nat.le_max_left _ _
 |x::xs,j+1,d,h=>by unfold kW;exact zQ (IW (j:=j) (by simpa using h)) (Nat.le_max_right _ _)
theorem lZ:∀(xs ys:List DV),xs.length=ys.length->xM xs ys=(List.range xs.length).all λj=>jb (xs.getD j .non) (ys.getD j .non)
 |[],[],_=>rfl
 |x::xs,y::ys,h=>by
  unfold xM;rw[lZ xs ys (by simpa using h),zA,List.range_succ_eq_map,yE,List.all_map];rfl
 |[],_::_,h=>by simp at h
 |_::_,[],h=>by simp at h
theorem mz:∀(xs ys:List DV),xs.length≠ys.length->xM xs ys=false
 |[],[],h=>absurd rfl h
 |x::xs,y::ys,h=>by
  unfold xM;rw[mz xs ys (by simpa using h),zzb]
 |[],_::_,_=>by unfold xM;rfl
 |_::_,[],_=>by unfold xM;rfl
def MJ(xs ys:List DV):jb (.lst xs) (.lst ys)=xM xs ys:=by unfold jb;rfl
def LR(xs ys:List DV):jb (.tup xs) (.tup ys)=xM xs ys:=by unfold jb;rfl
mutual
theorem CV:∀d:DV,jb d d=true
 |.non=>by unfold jb;rfl
 |.bl a=>by unfold jb;simp
 |.int a=>by unfold jb;simp
 |.str a=>by unfold jb;simp
 |.lst xs=>by unfold jb;exact nJ xs
 |.tup xs=>by unfold jb;exact nJ xs
theorem nJ:∀ds:List DV,xM ds ds=true
 |[]=>by unfold xM;rfl
 |x::xs=>by unfold xM;rw[CV x,nJ xs];rfl
end
section
variable{X:Cx}{pins:List (Addr×Obj)}{σ:St}{H:Hp}{s:Shared}
def Inv.noboth(I:Inv X pins σ H s){a:Addr}{xs ys:List V}(h:SqL X.K H a xs)(h':SqT X.K H a ys):False:=by
 obtain⟨its,r,⟨o,n,e,c,_⟩,_⟩:=I.list h;obtain⟨its',r',⟨o',q,z,_⟩,_⟩:=I.tuple h';rw[e]at q;cases q;rw[c]at z;exact absurd z (by decide)
mutual
theorem Ac.inj(I:Inv X pins σ H s):∀{v:V}{d d':DV},Ac X.K H v d->Ac X.K H v d'->d=d'
 |_,_,_,.non,.non=>rfl
 |_,_,_,.bl _,.bl _=>rfl
 |_,_,_,.int _,.int _=>rfl
 |_,_,_,.str _,.str _=>rfl
 |_,_,_,.lst h hs,.lst h' hs'=>by
  have e:=I.list_inj h h';subst e;rw[lJ.inj I hs hs']
 |_,_,_,.tup h hs,.tup h' hs'=>by
  have e:=I.tuple_inj h h';subst e;rw[lJ.inj I hs hs']
 |_,_,_,.lst h _,.tup h' _=>(I.noboth h h').elim
 |_,_,_,.tup h _,.lst h' _=>(I.noboth h' h).elim
theorem lJ.inj(I:Inv X pins σ H s):∀{vs:List V}{ds ds':List DV},lJ X.K H vs ds->lJ X.K H vs ds'->ds=ds'
 |_,_,_,.nil,.nil=>rfl
 |_,_,_,.cons h hs,.cons h' hs'=>by rw[Ac.inj I h h',lJ.inj I hs hs']
end
def in1_units(A:Around):A.in1.units=A.units+1:=rfl
def nT(I:Inv X pins σ H s){A:Around}{d1 d2:DV}{v1 v2:V}{u1 z:Value}(hd:uI d1<=0)(aa:A.units<cLine)(h1:Ac X.K H v1 d1)(h2:Ac X.K H v2 d2)(r1:RelV v1 u1)(q:RelV v2 z):SeqAt.EqAt A s u1 z (jb d1 d2):=by
 cases h1 with
 |lst h hs=>unfold uI at hd;omega
 |tup h hs=>unfold uI at hd;omega
 |non=>
  cases (show u1=Value.none from r1)
  cases h2 with
  |non=>cases (show z=Value.none from q);unfold jb;exact SeqAt.EqAt.same _
  |bl b=>cases (show z=Value.bool b from q);unfold jb;exact SeqAt.EqAt.none_bool b
  |int i=>obtain⟨t,e⟩:=(show∃t,z=Value.int i t from q);subst e;unfold jb;exact SeqAt.EqAt.none_int i t
  |str x=>obtain⟨t,e⟩:=(show∃t,z=Value.str x t from q);subst e;unfold jb;exact SeqAt.EqAt.none_str x t
  |lst h hs=>obtain⟨its,_,p,_⟩:=I.list h;cases q;unfold jb;exact SeqAt.EqAt.none_list p.isList aa
  |tup h hs=>obtain⟨its,_,p,_⟩:=I.tuple h;cases q;unfold jb;exact SeqAt.EqAt.none_tuple p aa
 |bl a=>
  cases (show u1=Value.bool a from r1)
  cases h2 with
  |non=>cases (show z=Value.none from q);unfold jb;exact SeqAt.EqAt.bool_none a
  |bl b=>cases (show z=Value.bool b from q);unfold jb;exact SeqAt.EqAt.bool_bool a b
  |int i=>obtain⟨t,e⟩:=(show∃t,z=Value.int i t from q);subst e;unfold jb;exact SeqAt.EqAt.bool_int a i t
  |str x=>obtain⟨t,e⟩:=(show∃t,z=Value.str x t from q);subst e;unfold jb;exact SeqAt.EqAt.bool_str a x t
  |lst h hs=>obtain⟨its,_,p,_⟩:=I.list h;cases q;unfold jb;exact SeqAt.EqAt.bool_list a p.isList aa
  |tup h hs=>obtain⟨its,_,p,_⟩:=I.tuple h;cases q;unfold jb;exact SeqAt.EqAt.bool_tuple a p aa
 |int a=>
  obtain⟨t1,e1⟩:=(show∃t,u1=Value.int a t from r1);subst e1
  cases h2 with
  |non=>cases (show z=Value.none from q);unfold jb;exact SeqAt.EqAt.int_none a t1
  |bl b=>cases (show z=Value.bool b from q);unfold jb;exact SeqAt.EqAt.int_bool a t1 b
  |int i=>obtain⟨t,e⟩:=(show∃t,z=Value.int i t from q);subst e;unfold jb;exact SeqAt.EqAt.int_int a t1 i t
  |str x=>obtain⟨t,e⟩:=(show∃t,z=Value.str x t from q);subst e;unfold jb;exact SeqAt.EqAt.int_str a t1 x t
  |lst h hs=>obtain⟨its,_,p,_⟩:=I.list h;cases q;unfold jb;exact SeqAt.EqAt.int_list a t1 p.isList aa
  |tup h hs=>obtain⟨its,_,p,_⟩:=I.tuple h;cases q;unfold jb;exact SeqAt.EqAt.int_tuple a t1 p aa
 |str a=>
  obtain⟨t1,e1⟩:=(show∃t,u1=Value.str a t from r1);subst e1
  cases h2 with
  |non=>cases (show z=Value.none from q);unfold jb;exact SeqAt.EqAt.str_none a t1
  |bl b=>cases (show z=Value.bool b from q);unfold jb;exact SeqAt.EqAt.str_bool a t1 b
  |int i=>obtain⟨t,e⟩:=(show∃t,z=Value.int i t from q);subst e;unfold jb;exact SeqAt.EqAt.str_int a t1 i t
  |str x=>obtain⟨t,e⟩:=(show∃t,z=Value.str x t from q);subst e;unfold jb;exact SeqAt.EqAt.str_str a t1 x t
  |lst h hs=>obtain⟨its,_,p,_⟩:=I.list h;cases q;unfold jb;exact SeqAt.EqAt.str_list a t1 p.isList aa
  |tup h hs=>obtain⟨its,_,p,_⟩:=I.tuple h;cases q;unfold jb;exact SeqAt.EqAt.str_tuple a t1 p aa
def lM{A:Around}{ac ad:List V}{aa ab:List DV}{q z:List Value}(r1:Vals ac q)(r2:Vals ad z)(h1:lJ X.K H ac aa)(h2:lJ X.K H ad ab)
  (ih:∀(d1 d2:DV)(v1 v2:V)(u1 u2:Value),uI d1<=kW aa->Ac X.K H v1 d1->Ac X.K H v2 d2->RelV v1 u1->RelV v2 u2->SeqAt.EqAt A s u1 u2 (jb d1 d2)):
  ∀(j:Nat)(a:j<q.toArray.size)(b:j<z.toArray.size),SeqAt.EqAt A s q.toArray[j] z.toArray[j] (jb (aa.getD j .non) (ab.getD j .non)):=by
 intro j a b;have l1:=r1.length;have l2:=r2.length;have m1:=h1.length;have m2:=h2.length;simp only[zm]at a b;have a1:j<ac.length:=by omega
 have a2:j<ad.length:=by omega
 have b1:j<aa.length:=by omega
 have b2:j<ab.length:=by omega
 obtain⟨w1,e1,q1⟩:=r1.get (i:=j) (x:=ac[j]) (by simp[a1]);obtain⟨w2,e2,q2⟩:=r2.get (i:=j) (x:=ad[j]) (by simp[a2]);have z1:q.toArray[j]=w1:=by simpa [a] using e1
 have z2:z.toArray[j]=w2:=by simpa [b] using e2
 have y1:aa.getD j .non=aa[j]:=by simp[List.getD,b1]
 have y2:ab.getD j .non=ab[j]:=by simp[List.getD,b2]
 rw[z1,z2,y1,y2];exact ih _ _ _ _ _ _ (IW (j:=j) (by simp[b1])) (h1.get (j:=j) (by simp[a1]) (by simp[b1])) (h2.get (j:=j) (by simp[a2]) (by simp[b2])) q1 q2
def Nr(I:Inv X pins σ H s):∀(n:Nat)(A:Around)(d1 d2:DV)(v1 v2:V)(u1 q:Value),uI d1<=n->A.units+n<cLine->Ac X.K H v1 d1->Ac X.K H v2 d2->RelV v1 u1->RelV v2 q->SeqAt.EqAt A s u1 q (jb d1 d2):=by
 intro n
 induction n with
 |zero=>exact λA d1 d2 v1 v2 u1 q hd hu h1 h2 r1 z=>nT I hd (by omega) h1 h2 r1 z
 |succ n ih=>
  intro A d1 d2 v1 v2 u1 q hd hu h1 h2 r1 z;have hu':A.units<cLine:=by omega
  have ad:A.in1.units+n<cLine:=by rw[in1_units];omega
  cases h1 with
  |non=>exact nT I (by unfold uI;omega) hu' .non h2 r1 z
  |bl a=>exact nT I (by unfold uI;omega) hu' (.bl a) h2 r1 z
  |int a=>exact nT I (by unfold uI;omega) hu' (.int a) h2 r1 z
  |str a=>exact nT I (by unfold uI;omega) hu' (.str a) h2 r1 z
  | @lst a vs ds h hs=>
   obtain⟨its,rv,p,_⟩:=I.list h;cases (show u1=Value.ref a from r1);have hd':kW ds<=n:=by unfold uI at hd;omega
   cases h2 with
   |non=>cases (show q=Value.none from z);unfold jb;exact SeqAt.EqAt.list_none p.isList hu'
   |bl b=>cases (show q=Value.bool b from z);unfold jb;exact SeqAt.EqAt.list_bool b p.isList hu'
   |int i=>obtain⟨t,e⟩:=(show∃t,q=Value.int i t from z);subst e;unfold jb;exact SeqAt.EqAt.list_int i t p.isList hu'
   |str x=>obtain⟨t,e⟩:=(show∃t,q=Value.str x t from z);subst e;unfold jb;exact SeqAt.EqAt.list_str x t p.isList hu'
   | @lst a2 vs2 ds2 h' hs'=>
    obtain⟨aa,ab,p2,_⟩:=I.list h';cases (show q=Value.ref a2 from z);unfold jb;by_cases ac:a=a2
    ·subst ac
     have e:=I.list_inj h h';subst e;rw[lJ.inj I hs hs',nJ];exact SeqAt.EqAt.same _
    ·have l1:=rv.length
     have l2:=ab.length;have m1:=hs.length;have m2:=hs'.length;by_cases hz:ds.length=ds2.length
     ·rw[lZ _ _ hz]
      have:=SeqAt.EqAt.of_refs ac (SeqAt.RcAt.lists (A:=A) (e:=λj=>jb (ds.getD j .non) (ds2.getD j .non)) p.isList p2.isList (by simp only[zm];omega) hu'
       (lM rv ab hs hs' λd1 d2 v1 v2 u1 q ae g1 g2 q1 q2=>ih A.in1 d1 d2 v1 v2 u1 q (by omega) ad g1 g2 q1 q2))
      rw[zm,show its.length=ds.length by omega]at this;exact this
     ·rw[mz _ _ hz]
      exact SeqAt.EqAt.of_refs ac (SeqAt.RcAt.lists_lengths p.isList p2.isList (by simp only[zm,bne_iff_ne];omega) hu')
   | @tup a2 vs2 ds2 h' hs'=>
    obtain⟨aa,ab,p2,_⟩:=I.tuple h';cases (show q=Value.ref a2 from z);unfold jb;exact SeqAt.EqAt.list_tuple p.isList p2 hu'
  | @tup a vs ds h hs=>
   obtain⟨its,rv,p,_⟩:=I.tuple h;cases (show u1=Value.ref a from r1);have hd':kW ds<=n:=by unfold uI at hd;omega
   cases h2 with
   |non=>cases (show q=Value.none from z);unfold jb;exact SeqAt.EqAt.tuple_none p hu'
   |bl b=>cases (show q=Value.bool b from z);unfold jb;exact SeqAt.EqAt.tuple_bool b p hu'
   |int i=>obtain⟨t,e⟩:=(show∃t,q=Value.int i t from z);subst e;unfold jb;exact SeqAt.EqAt.tuple_int i t p hu'
   |str x=>obtain⟨t,e⟩:=(show∃t,q=Value.str x t from z);subst e;unfold jb;exact SeqAt.EqAt.tuple_str x t p hu'
   | @lst a2 vs2 ds2 h' hs'=>
    obtain⟨aa,ab,p2,_⟩:=I.list h';cases (show q=Value.ref a2 from z);unfold jb;exact SeqAt.EqAt.tuple_list p p2.isList hu'
   | @tup a2 vs2 ds2 h' hs'=>
    obtain⟨aa,ab,p2,_⟩:=I.tuple h';cases (show q=Value.ref a2 from z);unfold jb;by_cases ac:a=a2
    ·subst ac
     have e:=I.tuple_inj h h';subst e;rw[lJ.inj I hs hs',nJ];exact SeqAt.EqAt.same _
    ·have l1:=rv.length
     have l2:=ab.length;have m1:=hs.length;have m2:=hs'.length
     have:=SeqAt.EqAt.of_refs ac (SeqAt.RcAt.tuples (A:=A) (e:=λj=>jb (ds.getD j .non) (ds2.getD j .non)) p p2 hu'
       (lM rv ab hs hs' λd1 d2 v1 v2 u1 q ae g1 g2 q1 q2=>ih A.in1 d1 d2 v1 v2 u1 q (by omega) ad g1 g2 q1 q2))
     simp only[zm]at this;by_cases hz:ds.length=ds2.length
     ·rw[lZ _ _ hz]
      rw[show its.length=ds.length by omega,show aa.length=ds.length by omega,Nat.min_self,beq_self_eq_true,zzH]at this;exact this
     ·rw[mz _ _ hz]
      rw[show(its.length==aa.length)=false from beq_eq_false_iff_ne.mpr (by omega),zzb]at this;exact this
noncomputable def abx(K:Fg_):R2:=λx y H Q=>∃d1 d2,Ac K H x d1/\Ac K H y d2/\1<=uI d1/\uI d1<=20/\Q (.bl (jb d1 d2)) H
noncomputable def aaP(K:Fg_):R2:=λx y H Q=>∃d1 d2,Ac K H x d1/\Ac K H y d2/\1<=uI d1/\uI d1<=20/\Q (.bl (!jb d1 d2)) H
def Zq{k:Nat}(hr:mH k X.A):OpR X (compareOp .Eq) (abx X.K):=by
 intro pins s σ H x y v u Q I rx ry h;obtain⟨d1,d2,h1,h2,ad,hd,q⟩:=h;have hr':=hr.units;have hu':X.A.units<cLine:=by omega
 have ae:X.A.in1.units+20<cLine:=by rw[in1_units];omega
 have aa:∀b,SeqAt.RcAt X.A s v u b->b=(jb d1 d2)->wpAny (model X.prog X.w) X.A (compareOp .Eq v u) (EP X pins σ Q) X.xe s:=λb hb e=>by
  subst e;exact hb X.prog X.w X.xe _ ⟨.bl _,H,I,rfl,q⟩
 cases h1 with
 |non=>unfold uI at ad;omega
 |bl a=>unfold uI at ad;omega
 |int a=>unfold uI at ad;omega
 |str a=>unfold uI at ad;omega
 | @lst a vs ds h hs=>
  obtain⟨its,rv,p,_⟩:=I.list h;cases (show v=Value.ref a from rx);have hd':kW ds<=20:=by unfold uI at hd;omega
  cases h2 with
  |non=>cases (show u=Value.none from ry);exact aa _ (SeqAt.RcAt.list_none p.isList hu') (by unfold jb;rfl)
  |bl b=>cases (show u=Value.bool b from ry);exact aa _ (SeqAt.RcAt.list_bool b p.isList hu') (by unfold jb;rfl)
  |int i=>obtain⟨t,e⟩:=(show∃t,u=Value.int i t from ry);subst e;exact aa _ (SeqAt.RcAt.list_int i t p.isList hu') (by unfold jb;rfl)
  |str z=>obtain⟨t,e⟩:=(show∃t,u=Value.str z t from ry);subst e;exact aa _ (SeqAt.RcAt.list_str z t p.isList hu') (by unfold jb;rfl)
  | @tup a2 vs2 ds2 h' hs'=>
   obtain⟨ab,ac,p2,_⟩:=I.tuple h';cases (show u=Value.ref a2 from ry);exact aa _ (SeqAt.RcAt.list_tuple p.isList p2 hu') (by unfold jb;rfl)
  | @lst a2 vs2 ds2 h' hs'=>
   obtain⟨ab,ac,p2,_⟩:=I.list h';cases (show u=Value.ref a2 from ry);have l1:=rv.length;have l2:=ac.length;have m1:=hs.length;have m2:=hs'.length;by_cases hz:ds.length=ds2.length
   ·refine aa _ (SeqAt.RcAt.lists (A:=X.A) (e:=λj=>jb (ds.getD j .non) (ds2.getD j .non)) p.isList p2.isList (by simp only[zm];omega) hu'
     (lM rv ac hs hs' λd1 d2 v1 v2 u1 u2 af g1 g2 q1 q2=>Nr I 20 X.A.in1 d1 d2 v1 v2 u1 u2 (by omega) ae g1 g2 q1 q2)) ?_
    rw[MJ,lZ _ _ hz,zm,show its.length=ds.length by omega]
   ·refine aa _ (SeqAt.RcAt.lists_lengths p.isList p2.isList (by simp only[zm,bne_iff_ne];omega) hu') ?_
    unfold jb;rw[mz _ _ hz]
    all_goals rfl
 | @tup a vs ds h hs=>
  obtain⟨its,rv,p,_⟩:=I.tuple h;cases (show v=Value.ref a from rx);have hd':kW ds<=20:=by unfold uI at hd;omega
  cases h2 with
  |non=>cases (show u=Value.none from ry);exact aa _ (SeqAt.RcAt.tuple_none p hu') (by unfold jb;rfl)
  |bl b=>cases (show u=Value.bool b from ry);exact aa _ (SeqAt.RcAt.tuple_bool b p hu') (by unfold jb;rfl)
  |int i=>obtain⟨t,e⟩:=(show∃t,u=Value.int i t from ry);subst e;exact aa _ (SeqAt.RcAt.tuple_int i t p hu') (by unfold jb;rfl)
  |str z=>obtain⟨t,e⟩:=(show∃t,u=Value.str z t from ry);subst e;exact aa _ (SeqAt.RcAt.tuple_str z t p hu') (by unfold jb;rfl)
  | @lst a2 vs2 ds2 h' hs'=>
   obtain⟨ab,ac,p2,_⟩:=I.list h';cases (show u=Value.ref a2 from ry);exact aa _ (SeqAt.RcAt.tuple_list p p2.isList hu') (by unfold jb;rfl)
  | @tup a2 vs2 ds2 h' hs'=>
   obtain⟨ab,ac,p2,_⟩:=I.tuple h';cases (show u=Value.ref a2 from ry);have l1:=rv.length;have l2:=ac.length;have m1:=hs.length;have m2:=hs'.length
   refine aa _ (SeqAt.RcAt.tuples (A:=X.A) (e:=λj=>jb (ds.getD j .non) (ds2.getD j .non)) p p2 hu'
     (lM rv ac hs hs' λd1 d2 v1 v2 u1 u2 af g1 g2 q1 q2=>Nr I 20 X.A.in1 d1 d2 v1 v2 u1 u2 (by omega) ae g1 g2 q1 q2)) ?_
   rw[LR];simp only[zm];by_cases hz:ds.length=ds2.length
   ·rw[lZ _ _ hz,show its.length=ds.length by omega,show ab.length=ds.length by omega,Nat.min_self,beq_self_eq_true,zzH]
   ·rw[mz _ _ hz,show(its.length==ab.length)=false from beq_eq_false_iff_ne.mpr (by omega),zzb]
def aal{k:Nat}(hr:mH k X.A):OpR X (compareOp .NotEq) (aaP X.K):=by
 intro pins s σ H x y v u Q I rx ry h;obtain⟨d1,d2,h1,h2,ad,hd,q⟩:=h;have hr':=hr.units;have hu':X.A.units<cLine:=by omega
 have ae:X.A.in1.units+20<cLine:=by rw[in1_units];omega
 have aa:∀b,SeqAt.RcNeAt X.A s v u b->b=(!jb d1 d2)->wpAny (model X.prog X.w) X.A (compareOp .NotEq v u) (EP X pins σ Q) X.xe s:=λb hb e=>by
  subst e;exact hb X.prog X.w X.xe _ ⟨.bl _,H,I,rfl,q⟩
 cases h1 with
 |non=>unfold uI at ad;omega
 |bl a=>unfold uI at ad;omega
 |int a=>unfold uI at ad;omega
 |str a=>unfold uI at ad;omega
 | @lst a vs ds h hs=>
  obtain⟨its,rv,p,_⟩:=I.list h;cases (show v=Value.ref a from rx);have hd':kW ds<=20:=by unfold uI at hd;omega
  cases h2 with
  |non=>cases (show u=Value.none from ry);exact aa _ (SeqAt.RcNeAt.list_none p.isList hu') (by unfold jb;rfl)
  |bl b=>cases (show u=Value.bool b from ry);exact aa _ (SeqAt.RcNeAt.list_bool b p.isList hu') (by unfold jb;rfl)
  |int i=>obtain⟨t,e⟩:=(show∃t,u=Value.int i t from ry);subst e;exact aa _ (SeqAt.RcNeAt.list_int i t p.isList hu') (by unfold jb;rfl)
  |str z=>obtain⟨t,e⟩:=(show∃t,u=Value.str z t from ry);subst e;exact aa _ (SeqAt.RcNeAt.list_str z t p.isList hu') (by unfold jb;rfl)
  | @tup a2 vs2 ds2 h' hs'=>
   obtain⟨ab,ac,p2,_⟩:=I.tuple h';cases (show u=Value.ref a2 from ry);exact aa _ (SeqAt.RcNeAt.list_tuple p.isList p2 hu') (by unfold jb;rfl)
  | @lst a2 vs2 ds2 h' hs'=>
   obtain⟨ab,ac,p2,_⟩:=I.list h';cases (show u=Value.ref a2 from ry);have l1:=rv.length;have l2:=ac.length;have m1:=hs.length;have m2:=hs'.length;by_cases hz:ds.length=ds2.length
   ·refine aa _ (SeqAt.RcNeAt.lists (A:=X.A) (e:=λj=>jb (ds.getD j .non) (ds2.getD j .non)) p.isList p2.isList (by simp only[zm];omega) hu'
     (lM rv ac hs hs' λd1 d2 v1 v2 u1 u2 af g1 g2 q1 q2=>Nr I 20 X.A.in1 d1 d2 v1 v2 u1 u2 (by omega) ae g1 g2 q1 q2)) ?_
    rw[MJ,lZ _ _ hz,zm,show its.length=ds.length by omega]
   ·refine aa _ (SeqAt.RcNeAt.lists_lengths p.isList p2.isList (by simp only[zm,bne_iff_ne];omega) hu') ?_
    unfold jb;rw[mz _ _ hz]
    all_goals rfl
 | @tup a vs ds h hs=>
  obtain⟨its,rv,p,_⟩:=I.tuple h;cases (show v=Value.ref a from rx);have hd':kW ds<=20:=by unfold uI at hd;omega
  cases h2 with
  |non=>cases (show u=Value.none from ry);exact aa _ (SeqAt.RcNeAt.tuple_none p hu') (by unfold jb;rfl)
  |bl b=>cases (show u=Value.bool b from ry);exact aa _ (SeqAt.RcNeAt.tuple_bool b p hu') (by unfold jb;rfl)
  |int i=>obtain⟨t,e⟩:=(show∃t,u=Value.int i t from ry);subst e;exact aa _ (SeqAt.RcNeAt.tuple_int i t p hu') (by unfold jb;rfl)
  |str z=>obtain⟨t,e⟩:=(show∃t,u=Value.str z t from ry);subst e;exact aa _ (SeqAt.RcNeAt.tuple_str z t p hu') (by unfold jb;rfl)
  | @lst a2 vs2 ds2 h' hs'=>
   obtain⟨ab,ac,p2,_⟩:=I.list h';cases (show u=Value.ref a2 from ry);exact aa _ (SeqAt.RcNeAt.tuple_list p p2.isList hu') (by unfold jb;rfl)
  | @tup a2 vs2 ds2 h' hs'=>
   obtain⟨ab,ac,p2,_⟩:=I.tuple h';cases (show u=Value.ref a2 from ry);have l1:=rv.length;have l2:=ac.length;have m1:=hs.length;have m2:=hs'.length
   refine aa _ (SeqAt.RcNeAt.tuples (A:=X.A) (e:=λj=>jb (ds.getD j .non) (ds2.getD j .non)) p p2 hu'
     (lM rv ac hs hs' λd1 d2 v1 v2 u1 u2 af g1 g2 q1 q2=>Nr I 20 X.A.in1 d1 d2 v1 v2 u1 u2 (by omega) ae g1 g2 q1 q2)) ?_
   rw[LR];simp only[zm];by_cases hz:ds.length=ds2.length
   ·rw[lZ _ _ hz,show its.length=ds.length by omega,show ab.length=ds.length by omega,Nat.min_self,beq_self_eq_true,zzH]
   ·rw[mz _ _ hz,show(its.length==ab.length)=false from beq_eq_false_iff_ne.mpr (by omega),zzb]
end
end L2
namespace L2
open PySem PySem.Spec PyProof.Rows
section
variable{X:Cx}{K:Fg_}{a b o e:Expr}{ta tb to te:TE}{pos:Pos}{tg:Expr}
def fV(q:X.K=K:=by rfl):IxR X (YH K):=q▸Yz
def mC(q:X.K=K:=by rfl):IxR X (aaV K):=q▸Zy
def gR(q:X.K=K:=by rfl):SlR X (aaS K):=q▸Ym
def Rk(q:X.K=K:=by rfl):SlR X (abd K):=q▸aaF
def VP(q:X.K=K:=by rfl):OpR X (compareOp .In) (rIn K false):=q▸Qv
def Jm(q:X.K=K:=by rfl):OpR X (compareOp .NotIn) (rIn K true):=q▸Ih
def Xb{k:Nat}(z:mH k X.A)(q:X.K=K:=by rfl):OpR X (compareOp .Eq) (abx K):=q▸Zq z
def Di{k:Nat}(z:mH k X.A)(q:X.K=K:=by rfl):OpR X (compareOp .NotEq) (aaP K):=q▸aal z
def UV(q:X.K=K:=by rfl):OpR X (binaryOp .Add) (aaz K):=q▸WX
noncomputable def abq(K:Fg_):List V->Hp->VK->Prop:=λxs H Q=>∃p ys,xs=[.ref p]/\(SqL K H p ys\/SqT K H p ys)/\Q (.int ys.length) H
def jf(q:X.K=K:=by rfl):jY X (.builtin "len") (abq K):=q▸Jo
noncomputable def abo(K:Fg_):List V->Hp->VK->Prop:=λxs H Q=>∃(a:Addr)(ns:List Int),xs=[.ref a]/\SqL K H a (ns.map V.int)/\Q (.int ns.sum) H
def Rx(z:X.calm=true)(q:X.K=K:=by rfl):jY X (.builtin "sum") (abo K):=q▸Ru z
noncomputable def aaL(K:Fg_):List V->Hp->VK->Prop:=λxs H Q=>∃(a:Addr)(bs:List Bool),xs=[.ref a]/\SqL K H a (bs.map V.bl)/\Q (.bl (bs.all id)) H
def Iw(z:X.calm=true)(q:X.K=K:=by rfl):jY X (.builtin "all") (aaL K):=q▸RV z
noncomputable def Li(K:Fg_):List V->Hp->VK->Prop:=λxs H Q=>∃p ys,xs=[.ref p]/\(SqL K H p ys\/SqT K H p ys)/\∀l,H l=none->Q (.ref l) (upd H l (.lst ys))
def Ew(q:X.K=K:=by rfl):jY X (.type "list") (Li K):=q▸Jj
noncomputable def RG(K:Fg_):List V->Hp->VK->Prop:=λxs H Q=>∃p ys,xs=[.ref p]/\((SqL K H p ys/\∀l,H l=none->Q (.ref l) (upd H l (.tup ys)))\/(SqT K H p ys/\Q (.ref p) H))
def DR(q:X.K=K:=by rfl):jY X (.type "tuple") (RG K):=q▸Fz
noncomputable def abI(K:Fg_):List V->Hp->VK->Prop:=λxs H Q=>∃x n t k,xs=[x,.ty n]/\JQ K H x t/\PySem.W.kitOne K t (.type n)=some k/\Q (.bl k) H
def wX(q:X.K=K:=by rfl):jY X (.builtin "isinstance") (abI K):=q▸Jv
noncomputable def abH:List V->Hp->VK->Prop:=λxs H Q=>∃i j,xs=[.int i,.int j]/\Q (.int (if j>i then j else i)) H
def Qg(q:X.calm=true):jY X (.builtin "max") abH:=TV q
noncomputable def abW:List V->Hp->VK->Prop:=λxs H Q=>∃i j,xs=[.int i,.int j]/\Q (.int (if j<i then j else i)) H
def JD(q:X.calm=true):jY X (.builtin "min") abW:=PN q
def vC(z:PE X o to)(q:X.K=K:=by rfl):PI X tg o (RW K to):=q▸Yk z
def Xz(z:PE X o to)(q:X.K=K:=by rfl):PI X tg o (abv K to):=q▸aad z
def Tt{es:List Expr}{k:Nat}{t:TGs}{n:Nat}(q:X.calm=true)(h:PGs X es t)(hn:(assignEach es X.env).length=n:=by rfl)(hst:(assignEach es X.env).findIdx? (·.1)=none:=by rfl)(hK:X.K=K:=by rfl):PG X (.Tuple es k pos) (aaX K n t):=hK▸ZJ q h hn hst
def FW{es:List Expr}{k:Nat}{t:TGs}{n:Nat}(q:X.calm=true)(h:PGs X es t)(hn:(assignEach es X.env).length=n:=by rfl)(hst:(assignEach es X.env).findIdx? (·.1)=none:=by rfl)(hK:X.K=K:=by rfl):PG X (.Tuple es k pos) (abj K n t):=hK▸ZK q h hn hst
def XH{f:Str}(he:PE X e ta)(q:attributeBase e f X.env (eval e X.env)=eval e X.env)(z:X.K=K:=by rfl):PE X (.Attribute e f pos) (aaH K ta f):=z▸aau he q
def jD{T:String}{name:Str}{id:String}{r:V->List V->Hp->VK->Prop}{es:List Expr}{t:TA}{apos cpos:Pos}(pa:PlainAttrs T)(slot:Slot T name id)(z:typeOf (.builtin id)=pure (.type "method_descriptor")) (hm:MtR X id r) (ho:PE X o to) (ha:PA X (e::es) t)
  (q:attributeBase o name X.env (eval o X.env)=eval o X.env:=by rfl)
  (hfew:((backTo cpos (starEach (e::es) X.env)).all (λx=>!x.1) && (backToKw cpos (keywordEach [] X.env)).all (λx=>x.1.isSome)
   && decide ((e::es).length+([]:List Keyword).length+(if([]:List Keyword).isEmpty then 0 else 1)<30))=true:=by rfl)
  (hline:(apos.endLine==cpos.line)=true:=by rfl) (hs:starEach (e::es) X.env=(false,eval e X.env)::starEach es X.env:=by rfl) (hplain:(backTo cpos (starEach es X.env)).any (·.1)=false:=by rfl) (hK:X.K=K:=by rfl):
  PE X (.Call (.Attribute o name apos) (e::es) [] cpos) (tBM K T r to t):=hK▸abf pa slot z hm ho ha q hfew hline hs hplain
def Kf{T:String}{name:Str}{id:String}{r:V->List V->Hp->VK->Prop}{apos cpos:Pos}(pa:PlainAttrs T)(slot:Slot T name id)(z:typeOf (.builtin id)=pure (.type "method_descriptor")) (hm:MtR X id r) (ho:PE X o to)
  (q:attributeBase o name X.env (eval o X.env)=eval o X.env:=by rfl) (hline:(apos.endLine==cpos.line)=true:=by rfl) (hK:X.K=K:=by rfl):PE X (.Call (.Attribute o name apos) [] [] cpos) (abg K T r to):=hK▸aaf pa slot z hm ho q hline
end
section
variable{K:Fg_}{H:Hp}{Q:VK}{p:Addr}{x y:V}
def ap_noIf{σ:St}{QB:Bool->Hp->Prop}:Df σ H QB=QB true H:=rfl
def ap_rLen:abq K [.ref p] H Q=∃ys,(SqL K H p ys\/SqT K H p ys)/\Q (.int (ys.length:Int)) H:=by simp[abq]
def ap_rSum:abo K [.ref p] H Q=∃ns:List Int,SqL K H p (ns.map V.int)/\Q (.int ns.sum) H:=by simp[abo]
def ap_rAll:aaL K [.ref p] H Q=∃bs:List Bool,SqL K H p (bs.map V.bl)/\Q (.bl (bs.all id)) H:=by simp[aaL]
def ap_rListOf:Li K [.ref p] H Q=∃ys,(SqL K H p ys\/SqT K H p ys)/\∀l,H l=none->Q (.ref l) (upd H l (.lst ys)):=by simp[Li]
def ap_rIsT{n:String}:abI K [x,.ty n] H Q=∃t k,JQ K H x t/\PySem.W.kitOne K t (.type n)=some k/\Q (.bl k) H:=propext ⟨fun⟨q,z,t,k,e,h⟩=>by
  injection e with e1 e2
  injection e2 with e2 _
  injection e2 with e2
  subst e1 e2;exact⟨t,k,h⟩,fun⟨t,k,h⟩=>⟨x,n,t,k,rfl,h⟩⟩
def ap_append:Kw (.ref p) [y] H Q=∃xs,H p=some (.lst xs)/\xs.length<sizeLine/\Q .non (upd H p (.lst (xs++[y]))):=by simp[Kw]
def ap_rCat{l b:Addr}:Zz (.ref l) (.ref b) H Q=∃xs zs,H l=some (.lst xs)/\H b=some (.lst zs)/\xs.length+zs.length<=sizeLine/\∀p,H p=none->Q (.ref p) (upd H p (.lst (xs++zs))):=by simp[Zz]
def ap_rMax{i j:Int}:abH [.int i,.int j] H Q=Q (.int (if j>i then j else i)) H:=propext ⟨fun⟨q,z,e,h⟩=>by cases e;exact h,λh=>⟨i,j,rfl,h⟩⟩
def ap_rMin{i j:Int}:abW [.int i,.int j] H Q=Q (.int (if j<i then j else i)) H:=propext ⟨fun⟨q,z,e,h⟩=>by cases e;exact h,λh=>⟨i,j,rfl,h⟩⟩
end
end L2
namespace L2
open PySem PySem.Spec PyProof.Rows
section
variable{K:Fg_}{a:Addr}{xs:List V}{g:TG}{tb:TS}{D:Ends}{σ:St}{H:Hp}{wi:TI}{cap:List (Option Nat)}{tt:TT}{te tl:TE}{Q:VK}{ta:TA}{R:It->Hp->Prop}
noncomputable def Kc(J:It)(g:TG)(tb:TS)(D:Ends)(σ:St)(H1:Hp):Prop:=∃W:Nat->Nat->St->Hp->Prop,(∃m,W 0 m σ H1)/\∀i m σ H,W i m σ H->
 (J.stop i H/\D.nx σ H)\/(J.go i H/\∃N:St->Hp->Prop,(∀σ' H',N σ' H'->∃m',m'<m/\W (i+1) m' σ' H')/\∀x H',J.yld i H x H'->g x σ H' λσ2 H2=>tb {D with nx:=N,ct:=N,bk:=D.nx} σ2 H2)
def ap_for:aaI wi g tb D σ H=wi σ H λJ H1=>Kc J g tb D σ H1:=rfl
def wV(q:Nat->St->Hp->Prop)(z:q 0 σ H)(hl:∀i σ H,i<=xs.length->q i σ H->SqL K H a xs)
  (hs:∀i x σ H,xs[i]? =some x->q i σ H->g x σ H λσ2 H2=>tb {D with nx:=q (i+1),ct:=q (i+1),bk:=D.nx} σ2 H2) (hd:∀σ H,q xs.length σ H->D.nx σ H):Kc (Itl K a) g tb D σ H:=Vs q z hl hs hd
def Kc.range{lo:Int}{n:Nat}(q:Nat->St->Hp->Prop)(z:q 0 σ H)
  (hs:∀i σ H,i<n->q i σ H->g (.int (lo+i)) σ H λσ2 H2=>tb {D with nx:=q (i+1),ct:=q (i+1),bk:=D.nx} σ2 H2) (hd:∀σ H,q n σ H->D.nx σ H):Kc (Itr lo n) g tb D σ H:=QR q z hs hd
def ap_iList:RW K tl σ H R=tl σ H λx H1=>∃a,x=.ref a/\(∃xs,SqL K H1 a xs)/\R (Itl K a) H1:=rfl
def ap_iTup:abv K tl σ H R=tl σ H λx H1=>∃a,x=.ref a/\(∃xs,SqT K H1 a xs)/\R (Itt K a) H1:=rfl
def ap_iRng1:YT ta σ H R=ta σ H λvs H1=>∃j:Int,vs=[.int j]/\ -(2^62)<=j/\j<2^62/\R (Itr 0 j.toNat) H1:=rfl
noncomputable def jP(cap:List (Option Nat))(J:It)(g:TG)(tt:TT)(te:TE)(σ:St)(H1:Hp)(Q:VK):Prop:=∀D,H1 D=Option.none->
 ∃W:Nat->Nat->List V->St->Hp->Prop,(∃m,W 0 m [] (uM σ cap) (upd H1 D (.lst [])))/\∀i m acc σ1 H2,W i m acc σ1 H2->H2 D=some (.lst acc)->
  (J.stop i H2/\Q (.ref D) H2)\/(J.go i H2/\∀x H3,J.yld i H2 x H3->g x σ1 H3 λσ4 H4=>tt σ4 H4 λb H5=>
   if b=true then te σ4 H5 λv H6=>∃acc',H6 D=some (.lst acc')/\acc'.length<sizeLine/\∃m',m'<m/\W (i+1) m' (acc'++[v]) σ4 (upd H6 D (.lst (acc'++[v])))
   else∃m',m'<m/\∃acc',H5 D=some (.lst acc')/\W (i+1) m' acc' σ4 H5)
def ap_comp:YX cap wi g tt te σ H Q=wi σ H λJ H1=>jP cap J g tt te σ H1 Q:=rfl
def jP.list(Sσ:St->Prop)(p:V->Bool)(F:V->V)(hS:SqL K H a xs)(h0:Sσ (uM σ cap))(hz:xs.length<=sizeLine)
  (hs:∀x∈xs,∀(σ:St)(z:Hp)(R1:St->VK)(R2:St->Hp->Prop),Sσ σ->Same H z->(p x=true->∀q H6,Sσ q->Same z H6->R1 q (F x) H6)->(p x=false->∀q H6,Sσ q->Same z H6->R2 q H6)->
   g x σ z λq H4=>tt q H4 λb z=>if b=true then te q z (R1 q)else R2 q z)
  (k:∀D H',H D=Option.none->Same H H'->H' D=some (.lst ((xs.filter p).map F))->Q (.ref D) H'):jP cap (Itl K a) g tt te σ H Q:=
 λD hD=>Qq Sσ p F hS hD h0 hz hs λH' s e=>k D H' hD s e
theorem jP.range{lo:Int}{n:Nat}(Sσ:St->Prop)(p:V->Bool)(F:V->V)(h0:Sσ (uM σ cap))(hz:n<=sizeLine)
  (hs:∀i:Nat,i<n->∀(σ:St)(z:Hp)(R1:St->VK)(R2:St->Hp->Prop),Sσ σ->Same H z->(p (.int (lo+i))=true->∀q H6,Sσ q->Same z H6->R1 q (F (.int (lo+i))) H6)->(p (.int (lo+i))=false->∀q H6,Sσ q->Same z H6->R2 q H6)->
   g (.int (lo+i)) σ z λq H4=>tt q H4 λb z=>if b=true then te q z (R1 q)else R2 q z)
  (k:∀D H',H D=Option.none->Same H H'->H' D=some (.lst ((((List.range n).map fun(i:Nat)=>V.int (lo+i)).filter p).map F))->Q (.ref D) H'):jP cap (Itr lo n) g tt te σ H Q:=
 λD hD=>Oh Sσ p F hD h0 hz hs λH' s e=>k D H' hD s e
def jo(xs:List V)(n:Nat):uN xs none (some (n:Int))=xs.take n:=by
 unfold uN;rw[HT.sIx_none,HT.sIx_nat,zzt,Nat.sub_zero];rcases Nat.le_total n xs.length with h|h
 ·rw[yyf h]
 ·rw[Nat.min_eq_right h,ya h,ya (zj _)]
end
end L2
namespace L2
open PySem PySem.Spec PyProof.Rows
structure LeE(D D':Ends):Prop where
 nx:∀σ H,D.nx σ H->D'.nx σ H
 rt:∀v H,D.rt v H->D'.rt v H
 bk:∀σ H,D.bk σ H->D'.bk σ H
 ct:∀σ H,D.ct σ H->D'.ct σ H
end L2
namespace L2
open PySem PySem.Spec PyProof.Rows
section
variable{X:Cx}{pins:List (Addr×Obj)}{σ:St}{H:Hp}{s:Shared}{h':Heap}
def Inv.turnedN{t':Nat}{fp:List Addr}(I:Inv X pins σ H s)(hf:∀b∈fp,Qm X pins H b)(k:∀b o,b∉fp->s.heap.get? b=some o->h'.get? b=some o):Inv X pins σ H {s with heap:=h',toks:=t'}:=by
 have aa:∀b u,H b=some u->b∉fp:=λb u e z=>by rw[(hf b z).1]at e;cases e
 refine I.step (g':=s.gens) (d':=s.drawn) (ch:=fp) (λb hb=>⟨(hf b hb).2.2.2.1,(hf b hb).2.1,(hf b hb).2.2.2.2.1,(hf b hb).2.2.2.2.2⟩) (λb o _ _ hc e _=>k b o hc e) (λb o _ _ hc e _=>⟨o.slots,k b o hc e⟩) (λ_ _ _ _ n=>n)
  (λb o hc e=>⟨o,k b o hc e⟩) (λ_ _ e=>e) (λ_ _ _ e=>e) (λb ps e=>⟨#[],by rw[e];simp⟩) (λm hm=>?_) (λb u e=>?_) I.bare
 ·obtain⟨o,es,ep,ho,r⟩:=hm
  exact⟨o,es,ep,k _ o (λz=>(hf _ z).2.1 rfl) ho,r⟩
 ·refine(I.hok b u e).stay (λc v hc q=>k c v ?_ q) (λ_ q=>q) λ_ _ q=>q
  rcases hc with z|z
  ·rw[z];exact aa b u e
  ·exact aa c _ z
def Inv.turnedT{t':Nat}{fp:List Addr}{T:Addr}{o:HO}(I:Inv X pins σ H s)(hf:∀b∈fp,Qm X pins H b)(hT:s.heap.objs.size<=T)(k:∀b o,b∉fp->s.heap.get? b=some o->h'.get? b=some o)
  (ab:iH X.prog X.w (upd H T o) h' T o):Inv X pins σ (upd H T o) {s with heap:=h',toks:=t'}:=by
 have aa:∀b u,H b=some u->b∉fp:=λb u e z=>by rw[(hf b z).1]at e;cases e
 have hn:H T=none:=I.hok.fresh hT
 refine I.step (g':=s.gens) (d':=s.drawn) (ch:=fp) (λb hb=>⟨(hf b hb).2.2.2.1,(hf b hb).2.1,(hf b hb).2.2.2.2.1,(hf b hb).2.2.2.2.2⟩) (λb o _ _ hc e _=>k b o hc e) (λb o _ _ hc e _=>⟨o.slots,k b o hc e⟩)
  (λb o _ e n=>by rw[fY (zN (zK (zq e) hT))];exact n)
  (λb o hc e=>⟨o,k b o hc e⟩) (λb xs e=>by rw[fY (gH e hn)];exact e) (λb o xs e=>by rw[fY (gH e hn)];exact e) (λb ps e=>⟨#[],by rw[fY (gH e hn),e];simp⟩) (λm hm=>?_) (λb u e=>?_) I.bare
 ·obtain⟨o,es,ep,ho,r⟩:=hm
  exact⟨o,es,ep,k _ o (λz=>(hf _ z).2.1 rfl) ho,r⟩
 ·by_cases hb:b=T
  ·subst hb;rw[fK]at e;cases e;exact ab
  ·rw[fY hb]at e
   refine(I.hok b u e).stay (λc v hc q=>k c v ?_ q) (λc q=>by rw[fY (gH q hn)];exact q) λc xs q=>by rw[fY (gH q hn)];exact q
   rcases hc with z|z
   ·rw[z];exact aa b u e
   ·exact aa c _ z
end
noncomputable def Ite(K:Fg_)(a:Addr):It:=
 ⟨λi H=>∃xs x,SqL K H a xs/\xs[i]? =some x,
   λi H v H'=>∃p x,H p=none/\v=.ref p/\H'=upd H p (.tup [.int i,x])/\∀xs,SqL K H a xs->xs[i]? =some x,
   λi H=>∃xs,SqL K H a xs/\xs.length<=i⟩
def Qu{P:Program}{w:World}{K:Fg_}{elts:List Expr}{x1:Nat}{pos:Pos}(a e it:Addr)(ag:e≠it):
  Turn P w K (.Tuple elts x1 pos) (Ite K a) [e,it] e (λi h=>(∃aa,IsEnum h e it i aa)/\h.IsListIter it a i) where
 mem:=by simp
 obj:=λi h st c hb=>by
  obtain⟨⟨aa,he⟩,⟨o1,e1,c1,d1⟩⟩:=st;simp only[zp,zw,or_false]at hb;rcases hb with rfl|rfl
  ·exact⟨_,he,λv z=>by cases z⟩
  ·exact⟨_,e1,λv z=>by rw[d1]at z;cases z⟩
 keep:=λi h h' st k=>by
  obtain⟨⟨aa,he⟩,h1⟩:=st;exact⟨⟨aa,k _ (by simp) _ he⟩,h1.at λo e=>k _ (by simp) o e⟩
 item:=by
  intro X hP hw hK hc i pins s σ H E I hf st hg;subst hP hw hK;obtain⟨xs,x,ab,hx⟩:=hg;obtain⟨ae,ac,p1,_⟩:=I.list ab;obtain⟨u1,ai,ah⟩:=ac.get hx;obtain⟨⟨aa,he⟩,h1⟩:=st;refine wpAny_pyNext_enum_item he h1 p1.isList (x:=u1) (by simpa using ai) ag λh' a1 a2 a3 a4 a5=>?_;refine⟨_,rfl,zz8 (s:={s with heap:=h',toks:=s.toks+1}) a1 λad b1 b2=>?_⟩;have ne:s.heap.objs.size≠e:=yye (zq he)
  have k:∀c o,c∉[e,it]->s.heap.get? c=some o->ad.get? c=some o:=λc o hc q=>by
   simp only[zp,zw,or_false,not_or]at hc;exact(b2.2 c hc.1).trans (a5 c o hc.1 hc.2 q)
  have af:ad.get? s.heap.objs.size=some {cls:=.type "tuple",data:=.seq #[.int i s.toks,u1]}:=(b2.2 _ ne).trans a3
  refine ⟨.ref s.heap.objs.size,upd H s.heap.objs.size (.tup [.int i,x]),I.turnedT (t':=s.toks+1) hf (zj _) k ⟨by rw[zc];simp,[.int i s.toks,u1],.cons ⟨_,rfl⟩ (.cons ah .nil),_,af,rfl,_,rfl⟩,rfl,
   ⟨_,x,I.hok.fresh (zj _),rfl,rfl,λaj q=>by rw[I.list_inj q ab];exact hx⟩,⟨⟨u1,by simpa using b1⟩,a2.at λo q=>(b2.2 _ (Ne.symm ag)).trans q⟩,λc hb=>?_⟩
  obtain ⟨o,q⟩:∃o,s.heap.get? c=some o:=by
   simp only[zp,zw,or_false]at hb;rcases hb with rfl|rfl
   ·exact⟨_,he⟩
   ·obtain⟨o,q,_⟩:=h1;exact⟨o,q⟩
  rw[fY (zN (zq q))];exact(hf c hb).1
 done:=by
  intro X hP hw hK hc i pins s σ H E I hf st hg;subst hP hw hK;obtain⟨xs,ab,hx⟩:=hg;obtain⟨ae,ac,p1,_⟩:=I.list ab;obtain⟨⟨aa,he⟩,h1⟩:=st;have l1:=ac.length;refine wpAny_pyNext_enum_end (I.ok.hd hc) he h1 p1.isList (by simp;omega) λh' k=>⟨rfl,I.turnedN (t':=s.toks) hf λc o hc q=>?_⟩;simp only[zp,zw,or_false,not_or]at hc;exact k c o hc.2 q
 self:=λ_ _ _ _ _ st h=>by
  obtain⟨⟨aa,he⟩,_⟩:=st;exact zzw he h
section
variable{X:Cx}{K:Fg_}{ta:TA}{elts:List Expr}{x1:Nat}{tpos:Pos}
noncomputable def ZS(K:Fg_)(ta:TA):TI:=λσ H R=>ta σ H λvs H1=>∃a,vs=[.ref a]/\(∃xs,SqL K H1 a xs)/\R (Ite K a) H1
def WP{a:Expr}{p pos:Pos}(hg:Gl X "enumerate") (hm:X.mg "enumerate" =none) (ha:PA X [a] ta) (hs:starEach [a] X.env=[(false,eval a X.env)]:=by rfl) (hK:X.K=K:=by rfl):
  PI X (.Tuple elts x1 tpos) (.Call (.Name "enumerate" p) [a] [] pos) (ZS K ta):=by
 subst hK;intro pins s σ H R I h;refine Call_ (Ep I hg hm (by decide+kernel) (PyProof.Rows.callWith_type1 (T:= "enumerate") (thn (ha pos pins s σ H _ I h) λus z ⟨vs,H1,I1,r1,q1⟩=>?_) (by rw[hs];rfl) rfl));obtain⟨l1,e,⟨xs,hx⟩,q⟩:=q1;subst e;obtain⟨u,rfl,ru⟩:=vals1 r1;cases ru;obtain⟨ab,_,p1,_⟩:=I1.list hx;refine call_enumerate_list p1.isList λh' g1 g2 g3 k=>?_;have I2:Inv X pins σ H1 {z with heap:=h'}:=I1.kept (t':=z.toks) k;refine zzw (s:={z with heap:=h'}) g1 ⟨_,[z.heap.objs.size+1,z.heap.objs.size],_,_,H1,rfl,I2,Qu l1 _ _ (show((z.heap.objs.size:Nat)+1≠z.heap.objs.size) by omega),⟨⟨_,g1⟩,g2⟩,λc hc=>?_,q⟩
 have hc':z.heap.objs.size<=c:=by
  simp only[zp,zw,or_false]at hc
  have aa:∃k:Nat,c=z.heap.objs.size+k:=by
   rcases hc with rfl|rfl
   ·exact⟨1,rfl⟩
   ·exact⟨0,rfl⟩
  obtain⟨k,rfl⟩:=aa;exact zzC _ k
 exact I1.fpOk hc' (I1.hok.fresh hc')
variable{σ:St}{H:Hp}{R:It->Hp->Prop}{g:TG}{tb:TS}{D:Ends}{a b:Addr}{xs ys:List V}
def ap_iEnum:ZS K ta σ H R=ta σ H λvs H1=>∃a,vs=[.ref a]/\(∃xs,SqL K H1 a xs)/\R (Ite K a) H1:=rfl
def Kc.enum(q:Nat->St->Hp->Prop)(h0:q 0 σ H)(hl:∀i σ H,i<=xs.length->q i σ H->SqL K H a xs)
  (hs:∀i x σ H p,xs[i]? =some x->q i σ H->H p=none->g (.ref p) σ (upd H p (.tup [.int i,x])) λσ2 H2=>tb {D with nx:=q (i+1),ct:=q (i+1),bk:=D.nx} σ2 H2) (hd:∀σ H,q xs.length σ H->D.nx σ H):Kc (Ite K a) g tb D σ H:=by
 refine⟨λi m σ H=>m=xs.length - i/\i<=xs.length/\q i σ H,⟨xs.length,by simp,zV _,h0⟩,?_⟩;rintro i m σ H ⟨rfl,hi,p⟩;have q1:=hl i σ H hi p;by_cases z:i<xs.length
 ·refine .inr ⟨⟨xs,xs[i],q1,by simp[z]⟩,q (i+1),λσ' H' p'=>⟨xs.length - (i+1),by omega,rfl,z,p'⟩,λv H' y=>?_⟩
  obtain⟨pp,x,hp,rfl,rfl,e1⟩:=y;exact hs i x σ _ pp (e1 xs q1) p hp
 ·have e:i=xs.length:=by omega
  subst e;exact .inl ⟨⟨xs,q1,zj _⟩,hd σ H p⟩
end
end L2
namespace L2
open PySem PySem.Spec PyProof.Rows
noncomputable def C0(o:Obj):Prop:=∀vs,o.data=.fields vs->vs[2]? =some .none
noncomputable def DK(h h':Heap):Prop:=∀b o,h.get? b=some o->∃o',h'.get? b=some o'/\o'.dict=o.dict/\(C0 o->C0 o')
def DK.refl{h:Heap}:DK h h:=λb o e=>⟨o,e,rfl,λz=>z⟩
theorem DK.trans{h h1 h2:Heap}(a:DK h h1)(b:DK h1 h2):DK h h2:=λc o e=>by
 obtain⟨o1,e1,d1,c1⟩:=a c o e;obtain⟨o2,e2,d2,q⟩:=b c o1 e1;exact⟨o2,e2,d2.trans d1,λz=>q (c1 z)⟩
structure KD{α:Type}(t:Sem α):Prop where
 out:∀(M:Model)(Γ:PySem.Ctx)(P:α->Pos->Shared->Prop)(E:Value->Pos->Shared->Prop)(p:Pos)(s:Shared),Sem.wp M Γ t P E p s->Sem.wp M Γ t (λa p' s'=>P a p' s'/\DK s.heap s'.heap) E p s
theorem KD.bind{α β:Type}{m:Sem α}{f:α->Sem β}(h:KD m)(k:∀a,KD (f a)):KD (m>>=f):=⟨λM Γ P E p s q=>by
 have q:Sem.wp M Γ (m.bind f) P E p s:=q;show Sem.wp M Γ (m.bind f) _ E p s;rw[Sem.wp_bind]at q⊢;refine Sem.wp_mono M Γ m (λa p1 s1 h1=>?_) (λ_ _ _ z=>z) p s (h.out M Γ _ E p s q);exact Sem.wp_mono M Γ (f a) (λb p2 s2 h2=>⟨h2.1,h1.2.trans h2.2⟩) (λ_ _ _ z=>z) p1 s1 ((k a).out M Γ P E p1 s1 h1.1)⟩
theorem KD.pure{α:Type}(a:α):KD (Pure.pure a:Sem α):=⟨λM Γ P E p s h=>⟨h,DK.refl⟩⟩
def KD.uns{α:Type}(w:String):KD (unsupported w:Sem α):=⟨λM Γ P E p s h=>h⟩
theorem KD.load(a:Addr):KD (load a):=⟨λM Γ P E p s ⟨o,e,h⟩=>⟨o,e,h,DK.refl⟩⟩
theorem KD.stack:KD PySem.stack:=⟨λM Γ P E p s h=>⟨h,DK.refl⟩⟩
theorem KD.alloc(o:Obj):KD (alloc o):=⟨λM Γ P E p s h=>⟨h,λb o' e=>⟨o',zd o e,rfl,λz=>z⟩⟩⟩
def ZQ{h:Heap}{a:Addr}{o:Obj}(e:h.get? a=some o):o.isFreed=false:=by
 unfold Heap.get? at e;split at e
 ·cases e
 ·rename_i hn
  obtain⟨c,dd,q,z⟩:=o;cases q<;>first|rfl|exact(hn _ _ _ e).elim
theorem KD.update(a:Addr)(f:Obj->Obj)(hf:∀o,o.isFreed=false->(f o).isFreed=false/\(f o).dict=o.dict/\(C0 o->C0 (f o))):KD (update a f):=⟨λM Γ P E p s ⟨e,h⟩=>⟨e,h,λb o q=>by
 by_cases hb:b=a
 ·subst hb
  obtain⟨f1,f2⟩:=hf o (ZQ q);exact⟨f o,yi f q f1,f2⟩
 ·exact⟨o,yT f (Ne.symm hb) q,rfl,λz=>z⟩⟩⟩
def jN{α:Type}{M:Model}{A:Around}{t:Sem α}{Q:α->Shared->Prop}{E:Value->Shared->Prop}{s:Shared}(k:KD t)(h:wpAny M A t Q E s):wpAny M A t (λa s'=>Q a s'/\DK s.heap s'.heap) E s:=λΓ p q=>k.out M Γ _ _ p s (h Γ p q)
theorem KD.fieldsOf(v:Value):KD (fieldsOf v):=by
 unfold PySem.fieldsOf;split
 ·refine(KD.load _).bind λo=>?_
  split
  ·exact .pure _
  ·exact .uns _
 ·exact .uns _
theorem KD.field(v:Value)(i:Nat):KD (field v i):=by
 unfold PySem.field;refine(KD.fieldsOf v).bind λo=>?_;split
 ·exact .pure _
 ·exact .uns _
theorem KD.updateField(a:Addr)(i:Nat)(v:Value)(hi:i≠2):KD (updateField a i v):=by
 unfold PySem.updateField;refine(KD.load _).bind λo=>?_;split
 ·split
  ·refine KD.update _ _ λo h=>?_
   unfold Obj.mapFields;split
   ·exact ⟨rfl,rfl,λz ws q=>by
     cases q;rw[Array.getElem?_setIfInBounds_ne hi];exact z _ rfl⟩
   ·exact⟨h,rfl,λz=>z⟩
  ·exact .uns _
 ·exact .uns _
theorem KD.setField(v:Value)(i:Nat)(x:Value)(hi:i≠2:=by decide):KD (setField v i x):=by
 unfold PySem.setField;split
 ·exact KD.updateField _ _ _ hi
 ·exact .uns _
theorem KD.setFlight(e:Value)(f:Option Addr):KD (setFlight e f):=by
 unfold PySem.setFlight;refine(KD.field _ _).bind λtb=>?_;split
 ·exact KD.setField _ _ _
 ·exact .pure _
theorem KD.readyFrames:∀l,KD (readyFrames l)
 |[]=>by rw[readyFrames.eq_1];exact .pure _
 |env::l=>by
  rw[readyFrames.eq_2];split
  ·refine(KD.load _).bind λo=>?_
   split
   ·exact .pure _
   ·refine KD.bind ?_ λim=>KD.bind ?_ λbk=>KD.bind (KD.update _ _ λo h=>⟨by obtain⟨c,dd,q,sl⟩:=o;cases q<;>first|rfl|exact h,rfl,λz=>z⟩) λ_=>KD.readyFrames l
    ·unfold behindIsImport
     split
     ·exact .pure _
     ·split
      ·exact .pure _
      ·exact(KD.field _ _).bind λ_=> .pure _
    ·unfold keptBack
     split
     ·split
      ·exact .pure _
      ·refine KD.bind ?_ λ_=> .pure _
       unfold underTheClaimsCaller;exact KD.stack.bind λ_=> .pure _
     ·exact .pure _
  ·exact .uns _
theorem KD.frameOf(env:Env):KD (frameOf env):=by
 unfold PySem.frameOf;refine KD.bind ?_ λl=>KD.bind ?_ λf=>?_
 ·unfold frameEnvs
  exact KD.stack.bind λ_=> .pure _
 ·unfold frameObject
  split
  ·exact .pure _
  ·exact(KD.readyFrames _).bind λ_=> .pure _
 ·split
  ·exact .pure _
  ·exact .uns _
theorem KD.entryPlaceOf(f:Addr)(b:Bool):KD (entryPlaceOf f b):=by
 unfold PySem.entryPlaceOf;refine KD.stack.bind λq=>?_;split<;>exact .pure _
def KD.newRec(ty:String)(vs:Array Value):KD (newObj (.type ty) (.fields vs)):=by
 have h:KD (newObjAsIs (.type ty) (.fields vs)):=(KD.alloc _).bind λ_=> .pure _;unfold newObj;dsimp only;split
 ·exact KD.bind (.uns _) λ_=>h
 ·exact h
theorem KD.newEntry(a b c d e:Value)(l:List Value):KD (EntryCells.newEntry a b c d e l):=by
 unfold EntryCells.newEntry newFields;exact KD.newRec _ _
theorem KD.noteFrame(e:Value)(env:Env):KD (noteFrame e env):=by
 unfold PySem.noteFrame;split
 ·refine(KD.field _ _).bind λq=>?_
  have z:∀f,KD (do
   let a<-PySem.frameOf env
   let pl<-PySem.entryPlaceOf f (q !=Value.none)
   let b<-EntryCells.newEntry q a Value.none (rawInt f) Value.none pl
   PySem.setField e 1 b):=λf=>(KD.frameOf env).bind λ_=>(KD.entryPlaceOf _ _).bind λ_=>(KD.newEntry _ _ _ _ _ _).bind λ_=>KD.setField _ _ _
  dsimp only;split
  ·refine(KD.field _ _).bind λx=>?_
   split
   ·exact .pure _
   ·exact(KD.setField _ _ _).bind λ_=>z _
  ·exact z _
 ·exact .uns _
theorem KD.leaving(env:Env)(e:Value):KD (leaving env e):=by
 unfold PySem.leaving;exact(KD.noteFrame _ _).bind λ_=>KD.setFlight _ _
noncomputable def xO(h:Heap)(e:Addr)(dd:Option Addr):Prop:=∃o,h.get? e=some o/\o.dict=dd/\(dd=none->C0 o)
def xO.dk{h h':Heap}{e:Addr}{dd:Option Addr}(x:xO h e dd)(k:DK h h'):xO h' e dd:=by
 obtain⟨o,e1,e2,c1⟩:=x;obtain⟨o',e3,e4,q⟩:=k e o e1;exact⟨o',e3,e4.trans e2,λz=>q (c1 z)⟩
end L2
namespace L2
open PySem PySem.Spec PyProof.Rows
def iH.there{P:Program}{w:World}{H:Hp}{h:Heap}{a:Addr}{o:HO}(x:iH P w H h a o):∃u,h.get? a=some u:=by
 induction o with
 |lst xs=>obtain⟨z,its,n,r,e⟩:=x;exact⟨_,e⟩
 |tup xs=>obtain⟨z,its,r,ob,e,c⟩:=x;exact⟨_,e⟩
 |dK kvs=>obtain⟨z,y,vs,r,ob,es,ep,e,c⟩:=x;exact⟨_,e⟩
 |dT kvs=>obtain⟨z,y,xs,r,ob,es,ep,e,c⟩:=x;exact⟨_,e⟩
 |set S n=>obtain⟨ob,es,ep,t,e,c⟩:=x;exact⟨_,e⟩
 |ins C dx fs=>obtain⟨d,z,ne,e,mA,_⟩:=x;exact⟨_,e⟩
 |own y=>exact x
 |xd fs=>obtain⟨mA,⟨od,es,ep,e,c⟩,r⟩:=x;exact⟨_,e⟩
 |rng lo hi=>obtain⟨t,u,v,e⟩:=x;exact⟨_,e⟩
 |frz ob u ih=>obtain⟨e,q⟩:=x;exact⟨_,e⟩
 |tbl ps=>exact⟨_,(show h.get? a=some _ from x)⟩
 |met f y=>exact⟨_,(show h.get? a=some _ from x)⟩
 |ext φ=>obtain⟨p,e,st⟩:=x;exact e
def Inv.untracked{X:Cx}{pins:List (Addr×Obj)}{σ:St}{H:Hp}{s:Shared}{a:Addr}(I:Inv X pins σ H s)(e:s.heap.get? a=none):H a=none:=by
 cases q:H a with
 |none=>rfl
 |some o=>
  obtain⟨u,z⟩:=(I.hok a o q).there;rw[e]at z;cases z
noncomputable def CX1(P:Program)(w:World):CXT:=λouter H s E e s'=>∃(ea C:Addr)(a0:Value)(H':Hp)(B:Heap)(dd:Option Addr),e=.ref ea/\s'.os=s.os/\AllBare s'.gens/\Un (frs outer) [] H H' s.heap s'.heap/\HOk P w H' B/\
 Heap.FlyingW B outer ea (.ref C) a0 s'.heap/\(∀b o,s.heap.get? b=some o->H b=none->b∉frs outer->B.get? b=some o)/\(∀b o,s.heap.get? b=some o->b∉frs outer->∃o',B.get? b=some o')/\H' ea=none/\xO s'.heap ea dd/\E (.ref C) dd H'
def abt{P:Program}{w:World}{X:Cx}:vN (CX1 P w) X E0:=λ_ _ _ _ _ _ _ ⟨_,_,_,_,_,_,_,_,_,_,_,_,_,_,_,_,h⟩=>h.elim
section
variable{P:Program}{w:World}{K:Fg_}{mg:Str->Option Value}{base:Heap}{N:List Str}{qual:Str}{scope:Scope}{f:Addr}{cd:Value}{A:Around}{outer:List Env}{s₀:Shared}{H₀:Hp}{E:XK}
noncomputable def Raises(X:Cx)(E:XK):Prop:=∀(pins:List (Addr×Obj))(σ:St)(H:Hp)(s:Shared)(e C:Addr)(args:List Value)(h':Heap),Inv X pins σ H s->Heap.MadeExcOf s.heap h' e (.ref C) args->E (.ref C) none H->X.xe (.ref e) {s with heap:=h'}
def Fo{pins:List (Addr×Obj)}{σ:St}{H:Hp}{s:Shared}{e C:Addr}{oe:Obj}{vs:Array Value}{a0:Value}{h2:Heap}(I:Inv (uD (CX1 P w) P w K mg base N qual scope f cd A outer s₀ H₀ E) pins σ H s)(he:s.heap.get? e=some oe)(ae:oe.cls=.ref C)(ak:oe.data=.fields vs)(h1:vs[1]? =some .none)(h0:vs[0]? =some a0)
  (hH:H e=none) (ac:s₀.heap.get? e=none) (hE:E (.ref C) oe.dict H) (ag:oe.dict=none->C0 oe) (z:Heap.LeftW (PySem.W.hideAll s.heap (e::frs (envOfC qual scope s₀.heap.objs.size f cd::outer))) (envOfC qual scope s₀.heap.objs.size f cd::outer) e oe.cls a0 s.heap h2) (dk:DK s.heap h2):CX1 P w outer H₀ s₀ E (.ref e) {s with heap:=h2}:=by
 have ai:(uD (CX1 P w) P w K mg base N qual scope f cd A outer s₀ H₀ E).stack=envOfC qual scope s₀.heap.objs.size f cd::outer:=rfl;have fr:=I.ok.frames
 have ab:∀b o,s₀.heap.get? b=some o->b∉frs outer->b∉frs (envOfC qual scope s₀.heap.objs.size f cd::outer):=λb o q n hb=>by
  rcases zp.mp (I.stkSub b hb)with z|z
  ·exact absurd (zq q) (by rw[z];exact yj _)
  ·exact n z
 have ad:∀env∈(envOfC qual scope s₀.heap.objs.size f cd::outer),∀b,env.frame=some b->b∈e::frs (envOfC qual scope s₀.heap.objs.size f cd::outer):=λenv he b hb=>zt _ (yd.mpr ⟨env,he,hb⟩);have stk:s.heap.FunFrames (PySem.W.hideAll s.heap (e::frs (envOfC qual scope s₀.heap.objs.size f cd::outer))) (envOfC qual scope s₀.heap.objs.size f cd::outer):=zzu I.stack ad;have hB:∀b o,s.heap.get? b=some o->b≠e->b∉frs (envOfC qual scope s₀.heap.objs.size f cd::outer)->(PySem.W.hideAll s.heap (e::frs (envOfC qual scope s₀.heap.objs.size f cd::outer))).get? b=some o:=λb o q ne n=>PySem.W.hideAll_get _ q λz=>(zp.mp z).elim ne n;have ah:(PySem.W.hideAll s.heap (e::frs (envOfC qual scope s₀.heap.objs.size f cd::outer))).get? e=none:=y9 _ zi;obtain⟨st,ff,tr,af⟩:=z;rw[ae]at tr;have aa:∀b o,s₀.heap.get? b=some o->b≠e:=λb o q z=>by rw[z,ac]at q;cases q
 have k1:∀b o,s₀.heap.get? b=some o->H₀ b=none->b∉frs outer->(PySem.W.hideAll s.heap (e::frs (envOfC qual scope s₀.heap.objs.size f cd::outer))).get? b=some o:=λb o q n hb=>hB b o (I.base.keep b o q n hb (by simp[uD])) (aa b o q) (ab b o q hb)
 have k2:∀b o,s₀.heap.get? b=some o->b∉frs outer->∃o',(PySem.W.hideAll s.heap (e::frs (envOfC qual scope s₀.heap.objs.size f cd::outer))).get? b=some o':=λb o q hb=>by
  obtain⟨o',q'⟩:=I.base.there b o q (by simp[uD]);exact⟨o',hB b o' q' (aa b o q) (ab b o q hb)⟩
 have k3:∀b o,s₀.heap.get? b=some o->b∈frs outer->∃o1,s.heap.get? b=some o1/\(H₀ b=none->∃sl,o1={o with slots:=sl})/\∃sl,h2.get? b=some {o1 with slots:=sl}:=λb o q hb=>by
  obtain⟨o1,q1⟩:=I.base.there b o q (by simp[uD])
  have hm:b∈frs (envOfC qual scope s₀.heap.objs.size f cd::outer):=by
   obtain⟨env,he,hf⟩:=yd.mp hb;exact yd.mpr ⟨env,zt _ he,hf⟩
  obtain⟨_,o2,q2,nd⟩:=stk.mem hm;rw[q1]at q2;cases q2;refine⟨o1,q1,λn=>?_,af b o1 q1 nd⟩;obtain⟨sl,q3⟩:=I.base.slot b o q n hb (by simp[uD]);rw[q1]at q3;exact⟨sl,zf q3⟩
 have fo:h2.FunFrames (PySem.W.hideAll s.heap (e::frs (envOfC qual scope s₀.heap.objs.size f cd::outer))) outer:=ff.2.2;refine⟨e,C,a0,H,_,oe.dict,rfl,I.os,I.bare,⟨λb o q n hb _=>st b o (k1 b o q n hb),λb o q n hb _=>?_,λb o q n _=>I.base.free b o q n (by simp[uD]),λb o q _=>?_,I.base.tups,I.base.frzs,I.base.tbls⟩,λa o q=>?_,⟨st,ah,fo,tr⟩,k1,k2,hH,xO.dk ⟨oe,he,rfl,ag⟩ dk,hE⟩
 ·obtain⟨o1,_,e1,sl,e2⟩:=k3 b o q hb
  obtain⟨aj,rfl⟩:=e1 n;exact⟨sl,e2⟩
 ·by_cases hb:b∈frs outer
  ·obtain⟨o1,_,_,sl,e2⟩:=k3 b o q hb
   exact⟨_,e2⟩
  ·obtain⟨o',q'⟩:=k2 b o q hb
   exact⟨o',st b o' q'⟩
 ·have nf:∀b u,H b=some u->b∉frs (envOfC qual scope s₀.heap.objs.size f cd::outer):=λb u z hb=>by
   have:=I.stkFree b hb;rw[this]at z;cases z
  have nn:∀b u,H b=some u->b≠e:=λb u z hb=>by rw[hb,hH]at z;cases z
  refine(I.hok a o q).stay (λb u hb z=>?_) (λ_ z=>z) λ_ _ z=>z;rcases hb with z1|z1
  ·subst z1;exact hB b u z (nn b o q) (nf b o q)
  ·exact hB b u z (nn b _ z1) (nf b _ z1)
def Et{pins:List (Addr×Obj)}{σ:St}{H:Hp}{s:Shared}{e C:Addr}{oe:Obj}{vs:Array Value}{a0:Value}(I:Inv (uD (CX1 P w) P w K mg base N qual scope f cd A outer s₀ H₀ E) pins σ H s)(he:s.heap.get? e=some oe)(ab:oe.cls=.ref C)(aa:oe.data=.fields vs)(h1:vs[1]? =some .none)(h0:vs[0]? =some a0)
  (hH:H e=none) (ac:s₀.heap.get? e=none) (hE:E (.ref C) oe.dict H) (ad:oe.dict=none->C0 oe):(uD (CX1 P w) P w K mg base N qual scope f cd A outer s₀ H₀ E).xe (.ref e) s:=by
 have fr:=I.ok.frames;have ae:∀env∈(envOfC qual scope s₀.heap.objs.size f cd::outer),∀b,env.frame=some b->b∈e::frs (envOfC qual scope s₀.heap.objs.size f cd::outer):=λenv he b hb=>zt _ (yd.mpr ⟨env,he,hb⟩);have stk:s.heap.FunFrames (PySem.W.hideAll s.heap (e::frs (envOfC qual scope s₀.heap.objs.size f cd::outer))) (envOfC qual scope s₀.heap.objs.size f cd::outer):=zzu I.stack ae;have af:(PySem.W.hideAll s.heap (e::frs (envOfC qual scope s₀.heap.objs.size f cd::outer))).get? e=none:=y9 _ zi;refine zR (jN (KD.leaving _ _) (wpAny_leaving_firstW (base:=PySem.W.hideAll s.heap (e::frs (envOfC qual scope s₀.heap.objs.size f cd::outer))) (Q:=λ_ s2=>∃h2,s2={s with heap:=h2}/\Heap.LeftW (PySem.W.hideAll s.heap (e::frs (envOfC qual scope s₀.heap.objs.size f cd::outer))) (envOfC qual scope s₀.heap.objs.size f cd::outer) e oe.cls a0 s.heap h2) fr stk rfl he (λb o q=>zzZ _ q) af aa h1 h0 λh2 lw=>⟨h2,rfl,lw⟩)) (λ_ s2 z=>?_) (λ_ _ z=>z);obtain⟨⟨h2,rfl,lw⟩,dk⟩:=z;exact Fo I he ab aa h1 h0 hH ac hE ad lw dk
def kZ:Raises (uD (CX1 P w) P w K mg base N qual scope f cd A outer s₀ H₀ E) E:=by
 intro pins σ H s e C args h' I z hE;obtain⟨t,g1,g2,g3⟩:=z.there;have I':Inv (uD (CX1 P w) P w K mg base N qual scope f cd A outer s₀ H₀ E) pins σ H {s with heap:=h'}:=I.kept (t':=s.toks) z.keeps;refine Et I' g1 rfl rfl rfl rfl (I.untracked z.new) ?_ hE (λ_ vs hv=>by cases hv;rfl)
 cases q:s₀.heap.get? e with
 |none=>rfl
 |some o=>
  obtain⟨o',q'⟩:=I.base.there e o q (by simp[uD]);have:=z.new;rw[q']at this;cases this
def gj:vN (CX1 P w) (uD (CX1 P w) P w K mg base N qual scope f cd A outer s₀ H₀ E) E:=by
 intro pins σ H s e s' I h;obtain⟨ea,C,a0,H',B,dd,rfl,os,bare,un,hok,fl,k1,k2,hn,af,hE⟩:=h;have ac:(uD (CX1 P w) P w K mg base N qual scope f cd A outer s₀ H₀ E).stack=envOfC qual scope s₀.heap.objs.size f cd::outer:=rfl;rw[ac]at un fl k1 k2
 have ad:∀b o,s₀.heap.get? b=some o->b∉frs outer->b∉frs (envOfC qual scope s₀.heap.objs.size f cd::outer):=λb o q n hb=>by
  rcases zp.mp (I.stkSub b hb)with z|z
  ·exact absurd (zq q) (by rw[z];exact yj _)
  ·exact n z
 refine zR (jN (KD.leaving _ _) (wpAny_leaves_onW (Q:=λ_ s2=>∃h2,s2={s' with heap:=h2}/\Heap.FlyingW B outer ea (.ref C) a0 h2/\Heap.UpToSlots s'.heap h2) I.ok.frames rfl fl λh2 aa ab=>⟨h2,rfl,aa,ab⟩)) (λ_ s2 z=>?_) (λ_ _ z=>z);obtain⟨⟨h2,rfl,aa,ab⟩,dk⟩:=z;have st:∀b o,B.get? b=some o->h2.get? b=some o:=aa.1;have q1:∀b o,s₀.heap.get? b=some o->H₀ b=none->b∉frs outer->B.get? b=some o:=λb o q n hb=>k1 b o (I.base.keep b o q n hb (by simp[uD])) (I.base.free b o q n (by simp[uD])) (ad b o q hb)
 have q2:∀b o,s₀.heap.get? b=some o->b∉frs outer->∃o',B.get? b=some o':=λb o q hb=>by
  obtain⟨o',q'⟩:=I.base.there b o q (by simp[uD]);exact k2 b o' q' (ad b o q hb)
 have q3:∀b o,s₀.heap.get? b=some o->b∈frs outer->∃o1,s'.heap.get? b=some o1/\(H₀ b=none->∃sl,o1={o with slots:=sl})/\∃sl,h2.get? b=some {o1 with slots:=sl}:=λb o q hb=>by
  have hm:b∈frs (envOfC qual scope s₀.heap.objs.size f cd::outer):=by
   obtain⟨env,he,hf⟩:=yd.mp hb;exact yd.mpr ⟨env,zt _ he,hf⟩
  obtain⟨_,o1,z1,nd⟩:=fl.2.2.1.mem hm;refine⟨o1,z1,λn=>?_,ab b o1 z1 nd⟩;obtain⟨sl,y1⟩:=I.base.slot b o q n hb (by simp[uD]);obtain⟨ae,y2⟩:=un.slot b _ y1 (I.base.free b o q n (by simp[uD])) hm (by simp);rw[z1]at y2;exact⟨ae,zf y2⟩
 refine⟨ea,C,a0,H',B,dd,rfl,os.trans I.os,bare,⟨λb o q n hb _=>st b o (q1 b o q n hb),λb o q n hb _=>?_,λb o q n _=>?_,λb o q _=>?_,λb xs z=>un.tups b xs (I.base.tups b xs z),λb o xs z=>un.frzs b o xs (I.base.frzs b o xs z),λb ps z=>?_⟩,hok,aa,q1,q2,hn,af.dk dk,hE⟩
 ·obtain⟨o1,_,e1,sl,e2⟩:=q3 b o q hb
  obtain⟨ag,rfl⟩:=e1 n;exact⟨sl,e2⟩
 ·obtain⟨o',q'⟩:=I.base.there b o q (by simp[uD])
  exact un.free b o' q' (I.base.free b o q n (by simp[uD])) (by simp)
 ·by_cases hb:b∈frs outer
  ·obtain⟨o1,_,_,sl,e2⟩:=q3 b o q hb
   exact⟨_,e2⟩
  ·obtain⟨o',q'⟩:=q2 b o q hb
   exact⟨o',st b o' q'⟩
 ·obtain⟨m1,e1⟩:=I.base.tbls b ps z
  obtain⟨m2,e2⟩:=un.tbls b _ e1;exact⟨m1++m2,by rw[e2,zzl]⟩
end
end L2
namespace L2
open PySem PySem.Spec PyProof.Rows
structure aaG(K:Fg_)(C:Addr):Prop where
 ex:PySem.W.excIn K C [.type "ValueError",.type "Exception",.type "BaseException",.type "object"] "ValueError.__new__" =true
def aaG.obj{K:Fg_}{C:Addr}{h:Heap}(c:aaG K C)(X:K.In h):∃bm N nm qn bs ac sn sub ab col dd k0 k1 k2 k3 k5 mN,h.get? C=some (excClassObj nm qn C N bs bm ac sn sub ab col dd k0 k1 k2 k3 k5 "ValueError.__new__")/\h.Ns N mN/\mN "__init__" =none/\
  OwnTail h [.type "ValueError",.type "Exception",.type "BaseException",.type "object"] bm:=by
 have z:=c.ex;unfold PySem.W.excIn at z;split at z
 ·rename_i dd cd sl aa
  split at z
  ·rename_i C2 tl k0 k1 k2 k3 nn k5 q ad
   simp only[zG,beq_iff_eq,Bool.not_eq_true']at z;obtain⟨⟨⟨⟨⟨e1,e2⟩,e3⟩,e4⟩,e5⟩,e6⟩:=z;subst e1 e2;obtain⟨nm,bs,ae,ns,qn,ac,sn,sub,ab,col,del⟩:=cd;dsimp only at q e3 e5 e6;subst q e3;obtain⟨af⟩:=sl;dsimp only at ad;subst ad;exact⟨tl,ns,nm,qn,bs,ac,sn,sub,ab,col,dd,k0,k1,k2,k3,k5,_,X _ _ aa,.of_isNs (PySem.W.isNs_of_in X e5),PySem.W.nsMap_none_of_in X e5 e6,PySem.W.tail_of_in X e4⟩
  ·cases z
 ·cases z
noncomputable def Wj(C:Addr)(E:XK)(t:TA):TS:=λ_ σ H=>t σ H λvs H1=>vs.length<=sizeLine/\E (.ref C) none H1
section
variable{X:Cx}{x:Str}{C:Addr}{E:XK}{e:Expr}{es:List Expr}{t:TA}{np cpos pos:Pos}
def mL(hr:Raises X E)(hc:X.calm=true)(c:aaG X.K C)(hg:Gl X x)(hm:X.mg x=some (.ref C))(ha:PA X (e::es) t)(hd:(x==("__debug__" :Str))=false:=by decide)
  (he:starEach (e::es) X.env=(false,eval e X.env)::starEach es X.env:=by rfl) (hpl:(backTo cpos (starEach es X.env)).any (·.1)=false:=by rfl):
  PS X (.Raise (some (.Call (.Name x np) (e::es) [] cpos)) none pos) (Wj C E t):=by
 intro pins s σ H D I h;obtain⟨bm,N,nm,qn,bs,aa,sn,sub,ab,col,dd,k0,k1,k2,k3,k5,mN,g1,g2,g3,g4⟩:=c.obj I.ok.mod.kin
 refine wpAny_Raise_call_subT (C:=C) (nm:=nm) (q:=qn) (N:=N) (bs:=bs) (bm:=bm) (hdct:=aa) (sn:=sn) (sub:=sub) (ab:=ab) (col:=col) (dd:=dd) (k0:=k0) (k1:=k1) (k2:=k2) (k3:=k3) (k5:=k5)
  yo (mN:=mN) (g4.hasType yo.hasBase) (I.ok.hd hc) (by rw[he];show(false||(backTo cpos (starEach es X.env)).any (·.1))=false;rw[hpl];rfl) g3 (lQ I hg hm ⟨rfl,?_⟩ hd)
 have ha':=ha cpos pins s σ H _ I h;rw[he]at ha'⊢;refine Calls.evalArgs_plain (thn ha' λus s2 ⟨vs,H2,I2,rv,hz,hE⟩=>⟨rfl,by show us.length<=sizeLine;rw[<-rv.length];exact hz,I2.bk _ _ g1,g2.keeps I2.bk,g4.keeps I2.bk,λh' ea z=>?_⟩);exact hr pins σ H2 s2 ea C us h' I2 z hE
def Fun.okX{P:Program}{w:World}{K:Fg_}{mg:Str->Option Value}{base:Heap}{x qual:Str}{st:Stmt}{f:Addr}{fd:FuncData}{N ps:List Str}{k:Nat}{sp:Sp}(F:Fun K x qual st f fd)(S:gb N ps (fP st))(len:∀vs H Q E,sp vs H Q E->vs.length=ps.length)
  (z:∀(q:Value)(A:Around)(outer:List Env)(s:Shared)(H:Hp)(vs:List V)(Q:VK)(E:XK),mH k (A.deeper (envOfC qual (fP st) s.heap.objs.size f q))->sp vs H Q E->
   ∃t,PSs (uD (CX1 P w) P w K mg base N qual (fP st) f q A outer s H E) (iC st) t/\t {nx:=λ_ H'=>Q .non H',rt:=Q} (start N vs) H):jn P w K mg base (CX1 P w) (k+1) f fd ps sp:=by
 obtain⟨oc,od,kV,ac,pm,an,q,ct,ad,rfl,lk,aa⟩:=F.ex;exact Uj lk aa S len λA outer s H vs Q E hr ab=>z q A outer s H vs Q E hr ab
end
end L2
namespace L2
open PySem PySem.Spec PyProof.Rows
section
variable{prog:Program}{w:World}{A:Around}{E:Value->Shared->Prop}{h:Heap}{g:Array GenState}{d:Drawn}{t:Nat}{os:OsState}{a:Addr}{o:Obj}
 {nm q:Str} {C N:Addr} {bs bm:List Value} {hdct:Bool} {sn:List Str} {sub:List Value} {ab:Bool} {col:Option Bool} {dd:Option Addr} {k0 k1 k2 k3 k5:Option Value} {newId:String} {K:Fg_}
def aao{R:Result->Shared->Prop}(hC:h.get? C=some (excClassObj nm q C N bs bm hdct sn sub ab col dd k0 k1 k2 k3 k5 newId))(ac:bm.contains (.type "object")=true)
  (hx:h.get? a=some o) (hc:o.cls=.ref C) (hq:R (.ok (.ret (.ref C))) ⟨h,g,d,t,os⟩):
  codeAny (model prog w) A (.call (.builtin "getset_descriptor.__get__") ⟨[.builtin "object.__class__",.ref a,.ref C],[]⟩) R ⟨h,g,d,t,os⟩:=by
 have z:(⟨h,g,d,t,os⟩:Shared).TypeIs (.builtin "object.__class__") "getset_descriptor" :=F.typeOf_object_class
 have aa:(Value.ref C::bm).contains (.type (".".intercalate ("object.__class__".cutAt '.').dropLast))=true:=by
  rw[show(".".intercalate ("object.__class__".cutAt '.').dropLast)= "object" by decide+kernel,yu,ac,zzv]
 refine codeAny_call_builtin F.slot_gs_get.plain F.entry_gs_get (F.slot_gs_get.check _ _ _ _ _ _ _ _ z (F.args_gs_get _ _ _) ?_)
 repeat (any_goals (first|assumption|(with_reducible refine zD hx ?_;rw[hc])|(with_reducible refine yq hC ?_;rw[aa])|wp_step))
 refine⟨Code.quiet_builtin _ (by decide+kernel),codeAny_builtin F.entry_object_class ?_⟩
 repeat (any_goals (first|assumption|(with_reducible refine zD hx ?_;rw[hc])|wp_step))
structure OD(K:Fg_)(C:Addr):Prop where
 cl:PySem.W.findIn K (.ref C) "__class__" =some (some (.builtin "object.__class__"))
 ga:PySem.W.findIn K (.ref C) "__getattribute__" =some (some (.builtin "BaseException.__getattribute__"))
 gh:PySem.W.findIn K (.ref C) "__getattr__" =some none
def Vw{tk:Tok}{Q:Fin->Shared->Prop}(KX:K.In h)(Z:OD K C)(hC:h.get? C=some (excClassObj nm q C N bs bm hdct sn sub ab col dd k0 k1 k2 k3 k5 newId))(z:bm.contains (.type "object")=true)
  (hx:h.get? a=some o) (hc:o.cls=.ref C) (hq:Q (.done (.ret (.ref C))) ⟨h,g,d,t,os⟩):
  wpAny (model prog w) A (Builtin.«object.__getattribute__» ⟨[.ref a,.str "__class__" tk],[]⟩) Q E ⟨h,g,d,t,os⟩:=by
 have aa:(⟨h,g,d,t,os⟩:Shared).TypeIs (.builtin "object.__class__") "getset_descriptor" :=F.typeOf_object_class;have f5:=F.typeOf_object_class;have f6:=F.slot_gs_get.lookup;have f7:=F.slot_gs_set.lookup;have LK:=zZ (M:=model prog w) KX Z.cl
 repeat (any_goals (first|assumption|(with_reducible refine zD hx ?_;rw[hc])|with_reducible refine LK.at ?_|wp_step))
 refine aao hC z hx hc ?_
 repeat (any_goals (first|assumption|wp_step))
def Yu{tk:Tok}{R:Result->Shared->Prop}(KX:K.In h)(Z:OD K C)(hC:h.get? C=some (excClassObj nm q C N bs bm hdct sn sub ab col dd k0 k1 k2 k3 k5 newId))(ac:bm.contains (.type "object")=true) (af:bm.contains (.type "BaseException")=true)
  (hx:h.get? a=some o) (hc:o.cls=.ref C) (hq:R (.ok (.ret (.ref C))) ⟨h,g,d,t,os⟩):
  codeAny (model prog w) A (.call (.builtin "BaseException.__getattribute__") ⟨[.ref a,.str "__class__" tk],[]⟩) R ⟨h,g,d,t,os⟩:=by
 have ad:(Value.ref C::bm).contains (.type "BaseException")=true:=by rw[yu,af,zzv]
 have hk:builtinKind "BaseException.__getattribute__" =some .slot:=by decide+kernel
 have z:splitId "BaseException.__getattribute__" =some ("BaseException", "__getattribute__"):=by decide+kernel
 have aa:=F.args_bexc_ga (.ref a) (.str "__class__" tk)
 have ck:∀{M:Model}{A':Around}{E':Value->Shared->Prop}{Q':Unit->Shared->Prop},Q' () ⟨h,g,d,t,os⟩->wpAny M A' (checkBuiltinCall "BaseException.__getattribute__" ⟨[.ref a,.str "__class__" tk],[]⟩) Q' E' ⟨h,g,d,t,os⟩:=by
  intro M A' E' Q' ae;simp only[checkBuiltinCall,hk,z];refine ze ?_;unfold isInstance
  repeat (first|(with_reducible refine zD hx ?_;rw[hc])|(with_reducible refine yq hC ?_;rw[ad])|wp_step)
  exact ae
 exact codeAny_call_builtin (by decide+kernel) F.entry_bexc_ga (ck (Vw KX Z hC ac hx hc hq))
def aaU{tk:Tok}{Q:Value->Shared->Prop}(KX:K.In h)(Z:OD K C)(hC:h.get? C=some (excClassObj nm q C N bs bm hdct sn sub ab col dd k0 k1 k2 k3 k5 newId))(z:bm.contains (.type "object")=true) (ac:bm.contains (.type "BaseException")=true)
  (hx:h.get? a=some o) (hc:o.cls=.ref C) (hq:Q (.ref C) ⟨h,g,d,t,os⟩):
  wpAny (model prog w) A (getAttrBy (.ref a) (.str "__class__" tk) false) Q E ⟨h,g,d,t,os⟩:=by
 have f3:=PySem.F.excAttr_ValueError.ga.bind (.ref a);have ad:(false && onTheHeap (Value.builtin "BaseException.__getattribute__"))=false:=rfl;have aa:(Value.builtin "BaseException.__getattribute__" ==Value.builtin "object.__getattribute__")=false:=by decide+kernel
 have ae:(onTheHeap (Value.ref C) && Value.builtin "BaseException.__getattribute__" ==Value.builtin "object.__getattribute__")=false:=by rw[aa];rfl
 have L1:=zZ (M:=model prog w) KX Z.ga;have L2:=zZ (M:=model prog w) KX Z.gh
 repeat (any_goals (first|assumption|(with_reducible refine zD hx ?_;rw[hc])|with_reducible refine L1.at ?_|with_reducible refine L2.at ?_|wp_step))
 refine Yu KX Z hC z ac hx hc ?_
 repeat (any_goals (first|assumption|wp_step))
def XR{Q:Option Value->Shared->Prop}(KX:K.In h)(Z:OD K C)(hC:h.get? C=some (excClassObj nm q C N bs bm hdct sn sub ab col dd k0 k1 k2 k3 k5 newId))(z:bm.contains (.type "object")=true) (aa:bm.contains (.type "BaseException")=true)
  (hx:h.get? a=some o) (hc:o.cls=.ref C) (hq:Q (some (.ref C)) ⟨h,g,d,t+1,os⟩):wpAny (model prog w) A (getAttr? (.ref a) "__class__") Q E ⟨h,g,d,t,os⟩:=by
 unfold getAttr? getAttrBy?
 repeat (any_goals (first|assumption|with_reducible apply aaU KX Z hC z aa hx hc|wp_step))
end
end L2
namespace L2
open PySem PySem.Spec PyProof.Rows
abbrev TX:=St->Hp->VK->XK->Prop
noncomputable def PEx(X:Cx)(CX:CXT)(e:Expr)(t:TX):Prop:=
 ∀(pins:List (Addr×Obj))(s:Shared)(σ:St)(H:Hp)(Q:VK)(E:XK),Inv X pins σ H s->t σ H Q E->wpAny (model X.prog X.w) X.A (eval e X.env) (EP X pins σ Q) (λev s'=>∃H1 s1,Inv X pins σ H1 s1/\CX X.stack H1 s1 E ev s') s
noncomputable def aan(sp:Sp)(dvs:List V)(t:TA):TX:=λσ H Q E=>t σ H λvs H1=>sp (vs++dvs) H1 Q E
section
variable{X:Cx}{CX:CXT}{k:Nat}{f C:Addr}{fd:FuncData}{ps:List Str}{sp:Sp}{dvs:List V}{ds:List Value}{x:Str}{p pos:Pos}{e:Expr}{es:List Expr}{t:TA}
def Yw{pins:List (Addr×Obj)}{σ:St}{H:Hp}{s:Shared}{Q:VK}{E:XK}{us:List Value}{vs:List V}(F:jn X.prog X.w X.K X.mg X.base CX k f fd ps sp)(hr:mH k X.A)(hb:Binds X.K fd ps ds)(hd:Vals dvs ds)
  (I:Inv X pins σ H s) (r:Vals vs us) (h:sp (vs++dvs) H Q E):wpAny (model X.prog X.w) X.A (call (.ref f) us) (EP X pins σ Q) (λev s'=>∃H1 s1,Inv X pins σ H1 s1/\CX X.stack H1 s1 E ev s') s:=by
 have z:Vals (vs++dvs) (us++ds):=r.append hd;have hl:(us++ds).length=ps.length:=by rw[<-z.length];exact F.len _ _ _ _ h
 refine zz6 (codeAny_mono (F.run X.A X.stack s H ⟨us,[]⟩ (us++ds) (vs++dvs) Q E hr I.env0 (hb s us I.kIn hl) z h) λr s' q=>?_)
 cases r with
 |error e=>exact⟨H,s,I,q⟩
 |ok fl=>
  cases fl with
  |ret u=>exact I.after q
  |next=>exact False.elim q
  |brk=>exact False.elim q
  |cont=>exact False.elim q
def Ly(F:jn X.prog X.w X.K X.mg X.base CX k f fd ps sp)(hr:mH k X.A)(hg:Gl X x)(hm:X.mg x=some (.ref f))(hk:PySem.W.keepIn X.K (.ref f)=true)(hb:Binds X.K fd ps ds)(hd:Vals dvs ds)
  (ha:PA X.nox (e::es) t) (aa:(x==("__debug__" :Str))=false:=by decide) (he:starEach (e::es) X.env=(false,eval e X.env)::starEach es X.env:=by rfl) (hpl:(backTo pos (starEach es X.env)).any (·.1)=false:=by rfl):
  PEx X CX (.Call (.Name x p) (e::es) [] pos) (aan sp dvs t):=by
 intro pins s σ H Q E I h;refine ym (lQ I hg hm ?_ aa);refine yH (h₀:=X.base) I.ok.mod.kin hk (zR (ha pos pins s σ H _ (I.wish _) h) (λus s1 ⟨vs,H1,I1,r,q⟩=>⟨I1.unwish.kIn,?_⟩) λ_ _ z=>False.elim z) he hpl;exact Yw F hr hb hd I1.unwish r q
noncomputable def abN(C ea:Addr):HO:=.ext λh=>∃o,h.get? ea=some o/\o.cls=.ref C
abbrev Cx.inSuite(X:Cx)(ea:Addr):Cx:={X with A:=X.A.mark (some (.ref ea)),calm:=false,xe:=λ_ _=>False}
theorem Inv.inSuite{pins:List (Addr×Obj)}{σ:St}{H:Hp}{s:Shared}(I:Inv X pins σ H s)(ea:Addr):Inv (X.inSuite ea) pins σ H s:=
 ⟨⟨I.ok.mod,I.ok.kind,I.ok.glob,I.ok.blt,I.ok.above,I.ok.inj,I.ok.has,I.ok.cab,λz=>(nomatch z),I.ok.frames,I.ok.stk,I.ok.exf,I.ok.bs,I.ok.bsz,I.ok.noex,I.ok.exfs,I.ok.funs,I.ok.frf⟩,I.os,I.bare,I.base,I.loc,I.cell,I.free,I.freeC,I.pin,I.hok,I.len⟩
def Inv.outSuite{pins:List (Addr×Obj)}{σ:St}{H:Hp}{s:Shared}{ea:Addr}(ok:X.Ok)(I:Inv (X.inSuite ea) pins σ H s):Inv X pins σ H s:=
 ⟨ok,I.os,I.bare,I.base,I.loc,I.cell,I.free,I.freeC,I.pin,I.hok,I.len⟩
def Inv.gone{pins:List (Addr×Obj)}{σ:St}{H:Hp}{s:Shared}{i:Nat}{n:Str}{Q:Unit->Shared->Prop}{M:Model}{A:Around}{E:Value->Shared->Prop}{hpos:Pos}(I:Inv X pins σ H s)(hN:X.N.Nodup)(hi:X.N[i]? =some n)(hk:X.env.kindOf n=some .local)
  (h:∀s',Inv X pins (σ.set i none) H s'->Q () s'):wpAny M A (do bindName X.env n .none;unbindBehindTheSuite X.env n hpos) Q E s:=by
 obtain⟨m,hn,hl⟩:=id I.loc;obtain⟨oL,_,_,ab,_⟩:=id hn;refine wpAny_nameGoes_keeps hk hn (by rw[I.ok.kind];rfl) λh' v aa hs=>h _ ?_;have iL:∀b o,X.s₀.heap.get? b=some o->b≠X.env.locals:=λb o e=>zN (zK (zq e) I.ok.above);refine⟨I.ok,I.os,I.bare,⟨λb o e n hb hx=>(hs.2 b (iL b o e)).trans (I.base.keep b o e n hb hx),λb o e n hb hx=>?_,I.base.free,λb o e hx=>?_,I.base.tups,I.base.frzs,I.base.tbls⟩,⟨_,aa,λj y v' e1 e2 e3=>?_⟩,λy c e=>?_,I.free,I.freeC,λp hp=>?_,λb ob e=>?_,by simpa using I.len⟩
 ·obtain⟨sl,e1⟩:=I.base.slot b o e n hb hx
  exact⟨sl,(hs.2 b (iL b o e)).trans e1⟩
 ·obtain⟨o',e1⟩:=I.base.there b o e hx
  exact⟨o',(hs.2 b (iL b o e)).trans e1⟩
 ·by_cases hj:j=i
  ·subst hj
   by_cases hz:j<σ.length
   ·rw[zzo hz]at e2;cases e2
   ·rw[zzy (by simpa using hz)]at e2;cases e2
  ·rw[zzI (Ne.symm hj)]at e2
   obtain⟨u',r',q⟩:=hl j y v' e1 e2 e3;refine⟨u',r',?_⟩;have ny:y≠n:=λe=>hj (Gh hN e1 (e▸hi));rcases q with⟨k,e⟩|⟨k,c,e,z⟩
   ·exact .inl ⟨k,by show(if y=n then v else m y)=some u';rw[zo ny];exact e⟩
   ·exact .inr ⟨k,c,e,z.sameBut hs (I.cne y c e)⟩
 ·obtain⟨w',z⟩:=I.cell y c e
  exact⟨w',z.sameBut hs (I.cne y c e)⟩
 ·obtain⟨e,n,ne,nf,d⟩:=I.pin p hp
  exact⟨(hs.2 p.1 ne).trans e,n,ne,nf,d⟩
 ·refine(I.hok b ob e).stay (λc w' hc q=>(hs.2 c ?_).trans q) (λ_ q=>q) λ_ _ q=>q
  rintro rfl;rcases hc with z|z
  ·rw[<-z,I.free]at e;cases e
  ·rw[I.free]at z;cases z
def Inv.landed{pins:List (Addr×Obj)}{σ:St}{H1 H':Hp}{s1 s':Shared}{ea C:Addr}{a0:Value}{B h6:Heap}(I:Inv X pins σ H1 s1)(os:s'.os=s1.os)(bare:AllBare s'.gens)(un:Un (frs X.stack) [] H1 H' s1.heap s'.heap)(hok:HOk X.prog X.w H' B)
  (fl:Heap.FlyingW B X.stack ea (.ref C) a0 s'.heap) (k1:∀b o,s1.heap.get? b=some o->H1 b=none->b∉frs X.stack->B.get? b=some o) (k2:∀b o,s1.heap.get? b=some o->b∉frs X.stack->∃o',B.get? b=some o') (hn:H' ea=none)
  (aa:Heap.FlyingW B X.stack ea (.ref C) a0 h6) (ad:s'.heap.UpToSlots h6):Inv X pins σ (upd H' ea (abN C ea)) {s' with heap:=h6}:=by
 have st:∀b o,B.get? b=some o->h6.get? b=some o:=aa.1
 have ab:∀b o,s1.heap.get? b=some o->b≠ea:=λb o q z=>by
  subst z;by_cases hb:b∈frs X.stack
  ·obtain⟨_,o2,q2,nd⟩:=aa.2.2.1.mem hb
   obtain⟨oe,vs,q3,_,dd,_⟩:=aa.first
   rw[q2]at q3;cases q3;exact nd vs dd
  ·obtain⟨o',q'⟩:=k2 b o q hb
   rw[aa.2.1]at q';cases q'
 have q3:∀b o,s1.heap.get? b=some o->b∈frs X.stack->∃o1,s'.heap.get? b=some o1/\(H1 b=none->∃sl,o1={o with slots:=sl})/\∃sl,h6.get? b=some {o1 with slots:=sl}:=λb o q hb=>by
  obtain⟨_,o1,z1,nd⟩:=fl.2.2.1.mem hb;refine⟨o1,z1,λn=>?_,ad b o1 z1 nd⟩;obtain⟨ac,y2⟩:=un.slot b _ q n hb (by simp);rw[z1]at y2;exact⟨ac,zf y2⟩
 refine I.call' (ch:=[]) (s':={s' with heap:=h6}) os ⟨λb o q n hb _=>st b o (k1 b o q n hb),λb o q n hb _=>?_,λb o q n _=>?_,λb o q _=>?_,λb xs z=>?_,λb o xs z=>?_,λb ps z=>?_⟩ (λb u q=>?_) bare (λb hb=>absurd hb (by simp))
 ·obtain⟨o1,_,e1,sl,e2⟩:=q3 b o q hb
  obtain⟨ae,rfl⟩:=e1 n;exact⟨sl,e2⟩
 ·rw[fY (ab b o q)]
  exact un.free b o q n (by simp)
 ·by_cases hb:b∈frs X.stack
  ·obtain⟨o1,_,_,sl,e2⟩:=q3 b o q hb
   exact⟨_,e2⟩
  ·obtain⟨o',q'⟩:=k2 b o q hb
   exact⟨o',st b o' q'⟩
 ·have z':=un.tups b xs z
  rw[fY (gH z' hn)];exact z'
 ·have z':=un.frzs b o xs z
  rw[fY (gH z' hn)];exact z'
 ·obtain⟨mo,z'⟩:=un.tbls b ps z
  exact⟨mo,by rw[fY (gH z' hn)];exact z'⟩
 ·by_cases hb:b=ea
  ·subst hb
   rw[fK]at q;cases q;obtain⟨oe,vs,q3,cc,dd,_⟩:=aa.first
   exact⟨⟨oe,q3,cc⟩,⟨oe,q3⟩,λh1 h2 ⟨o,e1,e2⟩ k=>⟨o,k o e1,e2⟩⟩
  ·rw[fY hb]at q
   exact(hok b u q).stay (λc v _ z=>st c v z) (λc z=>by rw[fY (gH z hn)];exact z) λc xs z=>by rw[fY (gH z hn)];exact z
theorem HY:∀{cs:List Addr}{its:List Value},Vals (cs.map V.ref) its->its=cs.map Value.ref
 |[],_,.nil=>rfl
 |c::r,_,.cons h t=>by
  cases h;rw[HY t];rfl
end
end L2
namespace L2
open PySem PySem.Spec PyProof.Rows
section
variable{X:Cx}{K:Fg_}
variable{σ:St}{H:Hp}{Q:VK}{D:Ends}{t:TA}{E:XK}{C ea p:Addr}{te:TX}{i:Nat}{ts:TS}{sp:Sp}{dvs:List V}{c:V}
def ap_raise:Wj C E t D σ H=t σ H λvs H1=>vs.length<=sizeLine/\E (.ref C) none H1:=rfl
def ap_xCall:aan sp dvs t σ H Q E=t σ H λvs H1=>sp (vs++dvs) H1 Q E:=rfl
end
end L2
namespace L2
open PySem PySem.Spec PyProof.Rows
section
variable{κ:Type} [DecidableEq κ]
noncomputable def nW(kvs:List (κ×V))(k:κ):Option V:=(kvs.find? λkv=>decide (kv.1=k)).map (·.2)
noncomputable def putK(kvs:List (κ×V))(k:κ)(v:V):List (κ×V):=
 if(kvs.any λkv=>decide (kv.1=k))=true then kvs.map (λkv=>if kv.1=k then(kv.1,v)else kv)else kvs++[(k,v)]
def jM{p:κ×V}{r:List (κ×V)}{k:κ}(e:p.1=k):nW (p::r) k=some p.2:=by simp[nW,yY,e]
def jF{p:κ×V}{r:List (κ×V)}{k:κ}(e:¬p.1=k):nW (p::r) k=nW r k:=by simp[nW,yY,e]
theorem BX(k:κ):∀kvs:List (κ×V),(kvs.any λq=>decide (q.1=k))=(nW kvs k).isSome
 |[]=>rfl
 |p::r=>by
  rw[zzG];by_cases e:p.1=k
  ·simp only[jM e,yb e,Bool.true_or,Option.isSome_some]
  ·rw[jF e,zF e,Bool.false_or];exact BX k r
theorem Mz(k j:κ)(y:V):∀kvs:List (κ×V),nW (kvs.map λq=>if q.1=k then(q.1,y)else q) j=(nW kvs j).map λx=>if j=k then y else x
 |[]=>rfl
 |p::r=>by
  have ih:=Mz k j y r;rw[zg];by_cases h:p.1=k
  ·rw[zu h]
   by_cases e:p.1=j
   ·rw[jM (p:=(p.1,y)) e,jM e,zzM,zu (e.symm.trans h)]
   ·rw[jF (p:=(p.1,y)) e,jF e,ih]
  ·rw[zo h]
   by_cases e:p.1=j
   ·rw[jM (p:=p) e,jM e,zzM,zo (λz=>h (e.trans z))]
   ·rw[jF (p:=p) e,jF e,ih]
theorem HN(k j:κ)(y:V):∀kvs:List (κ×V),nW kvs k=none->nW (kvs++[(k,y)]) j=if j=k then some y else nW kvs j
 |[],_=>by
  by_cases e:k=j
  ·rw[zu e.symm];exact jM (p:=(k,y)) e
  ·rw[zo (λz=>e z.symm)];exact jF (p:=(k,y)) e
 |p::r,hn=>by
  rw[yR];have q:¬p.1=k:=λz=>by rw[jM z]at hn;cases hn
  rw[jF q]at hn;have ih:=HN k j y r hn;by_cases e:p.1=j
  ·rw[jM e,jM e,zo (λz=>q (e.trans z))]
  ·rw[jF e,jF e,ih]
def xg(kvs:List (κ×V))(k j:κ)(y:V):nW (putK kvs k y) j=if j=k then some y else nW kvs j:=by
 unfold putK;by_cases a:(kvs.any λkv=>decide (kv.1=k))=true
 ·rw[zu a,Mz]
  rw[BX]at a;by_cases e:j=k
  ·obtain⟨x,z⟩:=yO.mp a
   rw[zu e,e,z,zzM,zu rfl]
  ·rw[zo e]
   cases nW kvs j with
   |none=>rfl
   |some x=>rw[zzM,zo e]
 ·rw[zo a]
  refine HN k j y kvs ?_;rw[BX]at a
  cases q:nW kvs k with
  |none=>rfl
  |some x=>rw[q]at a;exact(a rfl).elim
def wF(kvs:List (κ×V))(k:κ)(v:V):(putK kvs k v).length<=kvs.length+1:=by
 unfold putK;split
 ·rw[zb];omega
 ·rw[zh,zA,yC];omega
def Hg.isSome_eq{o:Option V}{u:Option Value}(r:Hg o u):o.isSome=u.isSome:=by
 cases o with
 |none=>cases u with
  |none=>rfl
  |some _=>exact(show False from r).elim
 |some _=>cases u with
  |none=>exact(show False from r).elim
  |some _=>rfl
theorem Hg.getD{o:Option V}{u:Option Value}{d:V}{d':Value}(r:Hg o u)(rd:RelV d d'):RelV (o.getD d) (u.getD d'):=by
 cases o with
 |none=>cases u with
  |none=>exact rd
  |some _=>exact(show False from r).elim
 |some _=>cases u with
  |none=>exact(show False from r).elim
  |some _=>exact r
def KV.val{kvs:List (κ×V)}{vs:List (κ×Value)}(r:KV kvs vs)(k:κ):Hg (nW kvs k) (valueAt vs k):=by
 unfold KV at r
 induction r with
 |nil=>exact True.intro
 | @cons p q ps qs h t ih=>
  obtain⟨h1,h2⟩:=h;by_cases e:p.1=k
  ·have e':q.1=k:=h1.symm.trans e
   have b:valueAt (q::qs) k=some q.2:=by simp[valueAt,yY,e']
   rw[jM e,b];exact h2
  ·have e':¬q.1=k:=λz=>e (h1.trans z)
   have b:valueAt (q::qs) k=valueAt qs k:=by simp[valueAt,yY,e']
   rw[jF e,b];exact ih
theorem KV.any{kvs:List (κ×V)}{vs:List (κ×Value)}(r:KV kvs vs)(k:κ):(kvs.any λq=>decide (q.1=k))=vs.any λq=>decide (q.1=k):=by
 unfold KV at r
 induction r with
 |nil=>rfl
 |cons h t ih=>rw[zzG,zzG,ih,h.1]
def KV.repl{kvs:List (κ×V)}{vs:List (κ×Value)}(r:KV kvs vs)(k:κ){y:V}{u:Value}(ry:RelV y u):
  KV (kvs.map λkv=>if kv.1=k then(kv.1,y)else kv) (vs.map λkv=>if kv.1=k then(kv.1,u)else kv):=by
 unfold KV at r⊢
 induction r with
 |nil=>exact .nil
 | @cons p q ps qs h t ih=>
  rw[zg,zg];refine .cons ?_ ih;obtain⟨h1,h2⟩:=h;by_cases e:p.1=k
  ·rw[zu e,zu (h1.symm.trans e)];exact⟨h1,ry⟩
  ·rw[zo e,zo (λz=>e (h1.trans z))];exact⟨h1,h2⟩
def KV.put{kvs:List (κ×V)}{vs:List (κ×Value)}(r:KV kvs vs)(k:κ){y:V}{u:Value}(q:RelV y u):KV (putK kvs k y) (stored vs k u):=by
 unfold putK stored;rw[r.any k];by_cases e:(vs.any λz=>decide (z.1=k))=true
 ·rw[zu e,zu e];exact r.repl k q
 ·rw[zo e,zo e];exact Paired.snoc r ⟨rfl,q⟩
theorem KV.length{kvs:List (κ×V)}{vs:List (κ×Value)}(r:KV kvs vs):kvs.length=vs.length:=zzF r
end
def JS{P:Program}{w:World}{k:Key}{u:Value}(r:RelV (kV k) u):(jj P w).is k u=true:=by
 cases k with
 |inl i=>obtain⟨t,e⟩:=(show∃t,u=Value.int i t from r);subst e;exact JZ P w i t
 |inr x=>obtain⟨t,e⟩:=(show∃t,u=Value.str x t from r);subst e;exact jA P w x t
theorem Jq{P:Program}{w:World}:∀{ks:List Key}{us:List Value},Vals (ks.map kV) us->ItemsAre (jj P w) ks us
 |[],_,r=>by rw[yg]at r;cases r;exact .nil
 |k::ks,_,r=>by
  rw[zg]at r
  cases r with
  |cons h t=>exact .cons (JS h) (Jq t)
abbrev KT(H:Hp):List (List Key×V)->List (List Key×Addr×Value)->Prop:=Paired λp q=>p.1=q.1/\H q.2.1=some (.tup (p.1.map kV))/\RelV p.2 q.2.2
def KT.val{H:Hp}{kvs:List (List Key×V)}{xs:List (List Key×Addr×Value)}(r:KT H kvs xs)(k:List Key):Hg (nW kvs k) ((atKey xs k).map (·.2)):=by
 induction r with
 |nil=>exact True.intro
 | @cons p q ps qs h t ih=>
  obtain⟨h1,_,h2⟩:=h;by_cases e:p.1=k
  ·have e':q.1=k:=h1.symm.trans e
   have b:atKey (q::qs) k=some q.2:=by simp[atKey,yY,e']
   rw[jM e,b];exact h2
  ·have e':¬q.1=k:=λz=>e (h1.trans z)
   have b:atKey (q::qs) k=atKey qs k:=by simp[atKey,yY,e']
   rw[jF e,b];exact ih
def KT.repl{H:Hp}{kvs:List (List Key×V)}{xs:List (List Key×Addr×Value)}(r:KT H kvs xs)(k:List Key){y:V}{u:Value}(ry:RelV y u):
  KT H (kvs.map λkv=>if kv.1=k then(kv.1,y)else kv) (xs.map (putAt k u)):=by
 induction r with
 |nil=>exact .nil
 | @cons p q ps qs h t ih=>
  rw[zg,zg];refine .cons ?_ ih;obtain⟨h1,h2,h3⟩:=h;unfold putAt;by_cases e:p.1=k
  ·rw[zu e,zu (h1.symm.trans e)];exact⟨h1,h2,ry⟩
  ·rw[zo e,zo (λz=>e (h1.trans z))];exact⟨h1,h2,h3⟩
def KT.put{H:Hp}{kvs:List (List Key×V)}{xs:List (List Key×Addr×Value)}(r:KT H kvs xs)(k:List Key){b:Addr}{y:V}{u:Value}(hb:H b=some (.tup (k.map kV)))(z:RelV y u):
  KT H (putK kvs k y) (storedH xs k b u):=by
 have e:(kvs.any λkv=>decide (kv.1=k))=(atKey xs k).isSome:=by
  rw[BX,(r.val k).isSome_eq,Option.isSome_map]
 unfold putK storedH;rw[e];by_cases q:(atKey xs k).isSome=true
 ·rw[zu q,zu q];exact r.repl k z
 ·rw[zo q,zo q];exact Paired.snoc r ⟨rfl,hb,z⟩
def KT.keeps{H H':Hp}{kvs:List (List Key×V)}{xs:List (List Key×Addr×Value)}(r:KT H kvs xs)(q:∀b ys,H b=some (.tup ys)->H' b=some (.tup ys)):KT H' kvs xs:=
 Paired.mapP r λ_ _ z=>⟨z.1,q _ _ z.2.1,z.2.2⟩
section
variable{P:Program}{w:World}{H:Hp}{h:Heap}{a:Addr}
def Zk{u:HO}(ok:HOk P w H h)(e:Rd H a u):iH P w H h a u:=e.ok ok
def Vm{kvs:List (Key×V)}(ok:HOk P w H h)(e:Rd H a (.dK kvs)):kvs.length<=sizeLine/\(a==sysModules)=false/\∃vs,KV kvs vs/\h.DictOf (jj P w) a vs:=
 show iH P w H h a (.dK kvs)from Zk ok e
def YJ{kvs:List (Key×V)}(ok:HOk P w H h)(e:H a=some (.dK kvs)):kvs.length<=sizeLine/\(a==sysModules)=false/\∃vs,KV kvs vs/\h.DictOf (jj P w) a vs:=Vm ok (.inl e)
def Mm{ks:List Key}(ok:HOk P w H h)(e:H a=some (.tup (ks.map kV))):(tupleKind (jj P w)).is h ks a:=by
 obtain⟨_,its,r,o,h1,h2,n,q⟩:=(show iH P w H h a (.tup (ks.map kV))from ok a _ e);exact⟨o,its.toArray,n,h1,h2,q,by simpa using Jq r⟩
def Ur{kvs:List (List Key×V)}(ok:HOk P w H h)(e:Rd H a (.dT kvs)):kvs.length<=sizeLine/\(a==sysModules)=false/\
  ∃xs,KT H kvs xs/\h.DictOfH (tupleKind (jj P w)) a xs:=by
 obtain⟨z,y,xs,r,o,es,ep,h1,h2,h3,h4,h5⟩:=(show iH P w H h a (.dT kvs)from Zk ok e);refine⟨z,y,xs,r,o,es,ep,h1,h2,h3,h4,λx hx=>?_,h5⟩
 have aa:∀{l:List (List Key×V)}{m:List (List Key×Addr×Value)},KT H l m->∀x∈m,(tupleKind (jj P w)).is h x.1 x.2.1:=by
  intro l m q
  induction q with
  |nil=>intro x hx;exact nomatch hx
  | @cons p q ps qs hq t ih=>
   intro x hx;rcases zp.mp hx with e|hx
   ·subst e
    exact Mm ok (by rw[<-hq.1];exact hq.2.1)
   ·exact ih x hx
 exact aa r x hx
def abw{kvs:List (List Key×V)}(ok:HOk P w H h)(e:H a=some (.dT kvs)):kvs.length<=sizeLine/\(a==sysModules)=false/\
  ∃xs,KT H kvs xs/\h.DictOfH (tupleKind (jj P w)) a xs:=Ur ok (.inl e)
end
noncomputable def XD(H:Hp)(a:Addr)(y:V)(r:Option V):Prop:=
 (∃kvs k,Rd H a (.dK kvs)/\y=kV k/\r=nW kvs k)\/∃kvs k b,Rd H a (.dT kvs)/\y=.ref b/\H b=some (.tup (k.map kV))/\r=nW kvs k
noncomputable def aaO(H:Hp)(a:Addr)(y v:V)(H':Hp):Prop:=
 (∃kvs k,H a=some (.dK kvs)/\y=kV k/\kvs.length<sizeLine/\H'=upd H a (.dK (putK kvs k v)))\/
 ∃kvs k b,H a=some (.dT kvs)/\y=.ref b/\H b=some (.tup (k.map kV))/\kvs.length<sizeLine/\H'=upd H a (.dT (putK kvs k v))
def Tv{H:Hp}{a:Addr}{kvs:List (Key×V)}{k:Key}(e:H a=some (.dK kvs)):XD H a (kV k) (nW kvs k):=.inl ⟨kvs,k,.inl e,rfl,rfl⟩
def VG{H:Hp}{a:Addr}{kvs:List (Key×V)}{k:Key}{v:V}(e:H a=some (.dK kvs))(q:kvs.length<sizeLine):aaO H a (kV k) v (upd H a (.dK (putK kvs k v))):=.inl ⟨kvs,k,e,rfl,q,rfl⟩
section
variable{X:Cx}{pins:List (Addr×Obj)}{σ:St}{H:Hp}{s:Shared}{a:Addr}{y v:V}{u r:Value}{o:Option V}{A:Around}{E:Value->Shared->Prop}
def Inv.big(I:Inv X pins σ H s):sysModules<s.heap.objs.size:=by
 have h:mainGlobals<s.heap.objs.size:=(I.mod.glob.keeps I.bk).lt;exact Nat.lt_trans (by decide) h
def acf{Q:Value->Shared->Prop}(hu:A.units+1<cLine)(I:Inv X pins σ H s)(g:XD H a y o)(ry:RelV y u)(h:∀s',Inv X pins σ H s'->Q (.bool o.isSome) s'):
  wpAny (model X.prog X.w) A (compareOp .In u (.ref a)) Q E s:=by
 rcases g with⟨kvs,k,e,ey,l⟩|⟨kvs,k,b,e,ey,eb,l⟩
 ·subst ey
  obtain⟨z,hd,vs,rel,dd⟩:=Vm I.hok e;refine wpAny_in_of (JS ry) hd dd.mapOf ?_;rw[<-(rel.val k).isSome_eq,<-l];exact h _ (I.tok _)
 ·subst ey
  cases (show u=Value.ref b from ry);obtain⟨z,hd,xs,rel,dd⟩:=Ur I.hok e;refine wpAny_in_heap (tupleKind_room_in1 hu) (Mm I.hok eb) hd dd ?_;have q:=(rel.val k).isSome_eq;rw[Option.isSome_map]at q;rw[<-q,<-l];exact h _ (I.tok _)
def Lf{h':Heap}{t':Nat}{ob:HO}(I:Inv X pins σ H s)(mu:Mut (H a))(hs:Heap.SameBut a s.heap h')(he:∃q,h'.get? a=some q)(aa:iH X.prog X.w (upd H a ob) h' a ob):
  Inv X pins σ (upd H a ob) {s with heap:=h',toks:=t'}:=
 I.write (x:=a) (e:=a) mu (.inl rfl) (λb q hb z=>(hs.2 b hb).trans z) he aa
def Wv{P:Program}{w:World}{H':Hp}{h':Heap}{kvs:List (Key×V)}{vs:List (Key×Value)}(z:kvs.length<=sizeLine)(hd:(a==sysModules)=false)(rel:KV kvs vs)(dd:h'.DictOf (jj P w) a vs):
  iH P w H' h' a (.dK kvs):=⟨z,hd,vs,rel,dd⟩
def RK{H':Hp}{Q:Unit->Shared->Prop}(hu:A.units+1<cLine)(I:Inv X pins σ H s)(g:aaO H a y v H')(ry:RelV y u)(rv:RelV v r)(h:∀s',Inv X pins σ H' s'->Q () s'):
  wpAny (model X.prog X.w) A (setItem (.ref a) u r) Q E s:=by
 rcases g with⟨kvs,k,e,ey,l,eH⟩|⟨kvs,k,b,e,ey,eb,l,eH⟩
 ·subst ey eH
  obtain⟨z,hd,vs,rel,dd⟩:=YJ I.hok e;have hz:vs.length<=sizeLine:=by rw[<-rel.length];exact z
  have hl:(putK kvs k v).length<=sizeLine:=by have:=wF kvs k v;omega
  refine wpAny_setItem_pairs (hsz:=hz) (JS ry) dd λh' aa hs=>h _ ?_;have he:∃q,h'.get? a=some q:=let⟨q,_,_,hq,_⟩:=aa;⟨q,hq⟩
  exact Lf I (by rw[e];exact True.intro) hs he (Wv hl hd (rel.put k rv) aa)
 ·subst ey eH
  cases (show u=Value.ref b from ry);obtain⟨z,hd,xs,rel,dd⟩:=abw I.hok e;have hz:xs.length<=sizeLine:=by rw[<-zzF rel];exact z
  have hl:(putK kvs k v).length<=sizeLine:=by have:=wF kvs k v;omega
  refine wpAny_setItem_heap (hsz:=hz) (tupleKind_room_in1 hu) (Mm I.hok eb) dd λh' aa hs=>h _ ?_;obtain⟨q,es,ep,hq,h2,h3,h4,_,h5⟩:=aa;refine Lf I (by rw[e];exact True.intro) hs ⟨q,hq⟩ ⟨hl,hd,_,(rel.put k eb rv).keeps λc ys ec=>?_,q,es,ep,hq,h2,h3,h4,h5⟩;rw[fY (abr ec e (λz=>nomatch z))];exact ec
end
noncomputable def abA(i:Expr):Prop:=∀ov iv,subscripted i false ov iv=operate [ov,iv] (getItem ov iv)
def WN{prog:Program}{w:World}{A:Around}{E:Value->Shared->Prop}{s:Shared}{env:Env}{value q:Expr}{pos:Pos}{T id:String}{Q:Value->Shared->Prop}
  (hl:typeLookup (.type T) "__getitem__" =pure (some (.builtin id))) (hs:abA q)
  (h:wpAny (model prog w) A (eval value env) (λo s₁=>wpAny (model prog w) A (eval q env) (λi s₂=>s₂.TypeIs o T/\wpAny (model prog w) A (getItem o i) Q E s₂) E s₁) E s):
  wpAny (model prog w) A (eval (.Subscript value q pos) env) Q E s:=by
 refine Subscript_ (zR h (λo s₁ h₁=>zR h₁ (λi s₂ h₂=>?_) λ_ _ x=>x) λ_ _ x=>x);obtain⟨hT,h₂⟩:=h₂;unfold subscriptTail;refine ze ?_;rw[getitemInPython_of_ne hT.not_modules];refine ze (wpAny_specialOf hT hl ?_)
 have z:wpAny (model prog w) A (subscripted q false o i) (λr s₃=>wpAny (model prog w) A (letTemporaryGo value o r>>=λ_=>pure r) Q E s₃) E s₂:=by
  rw[hs o i];exact wpAny_operating (zR h₂ (λr s₃ h₃=>ze (wpAny_letTemporaryGo (zn h₃))) λ_ _ x=>x)
 first
  |exact zn (ze z)
  |exact ze (zn (ze z))
  |exact ze z
noncomputable def aaC(td ty tv:TE):TS:=λD σ H=>tv σ H λv H1=>td σ H1 λx H2=>ty σ H2 λy H3=>∃a H4,x=.ref a/\aaO H3 a y v H4/\D.nx σ H4
section
variable{X:Cx}{o i e value:Expr}{pos pos' tpos:Pos}{td ty tv:TE}
def Sq(hu:X.A.units+1<cLine)(q:PE X o td)(hi:PE X i ty)(z:PE X value tv)(hs:swapsWith value (some (.Subscript o i pos')) pos.line X.env=pure false):
  PS X (.Assign [.Subscript o i pos'] value pos) (aaC td ty tv):=by
 intro pins s σ H D I h;refine wpAny_Assign_Subscript (thn (z pins s σ H _ I h) λr s1 ⟨v,H1,I1,rv,q1⟩=>thn (q pins s1 σ H1 _ I1 q1) λu s2 ⟨x,H2,I2,rx,q2⟩=>thn (hi pins s2 σ H2 _ I2 q2) λiv s3 ⟨y,H3,I3,ry,a,H4,ex,g,q3⟩=>?_) hs;subst ex;obtain rfl:u=Value.ref a:=rx;exact RK hu I3 g ry rv λs4 I4=>⟨σ,H4,I4,q3⟩
end
def Ng{P:Program}{w:World}{H:Hp}(h:Heap)(q:sysModules<h.objs.size):iH P w H (h.push {cls:=.type "dict",data:=.dict #[]}) h.objs.size (.dK []):=
 ⟨zV _,beq_eq_false_iff_ne.mpr (Ne.symm (zN q)),[],.nil,Heap.DictOf.new h⟩
noncomputable def Wf:TE:=λ_ H Q=>∀p,H p=none->Q (.ref p) (upd H p (.dK []))
section
variable{X:Cx}{pos:Pos}
def FT:PE X (.Dict [] [] pos) Wf:=λpins s σ H Q I h=>
 wpAny_Dict_empty ⟨.ref s.heap.objs.size,_,I.laid (a:=s.heap.objs.size) (o:=.dK []) (t':=s.toks) (λ_ _ q=>zd _ q) (zj _) (Ng s.heap I.big),rfl,h _ (I.hok.fresh (zj _))⟩
end
noncomputable def Nk:List (TE×TE)->St->Hp->(List (V×V)->Hp->Prop)->Prop
 |[],_,H,Q=>Q [] H
 |(tk,tv)::r,σ,H,Q=>tk σ H λx H1=>tv σ H1 λy H2=>Nk r σ H2 λps H3=>Q ((x,y)::ps) H3
abbrev VV:List (V×V)->List (Value×Value)->Prop:=Paired λp q=>RelV p.1 q.1/\RelV p.2 q.2
noncomputable def PPs(X:Cx)(pos:Pos)(keys:List (Option Expr))(values:List Expr)(trs:List (TE×TE)):Prop:=
 ∀(pins:List (Addr×Obj)) (s:Shared) (σ:St) (H:Hp) (Q:List (V×V)->Hp->Prop),Inv X pins σ H s->Nk trs σ H Q->
  wpAny (model X.prog X.w) X.A (evalPairs (pairTrees keys values X.env pos)) (λvs s'=>∃ps H',Inv X pins σ H' s'/\VV ps vs/\Q ps H') X.xe s
def YB{X:Cx}{pos:Pos}:PPs X pos [] [] []:=λpins s σ H Q I h=>pairTrees_nil_walk ⟨[],H,I,.nil,h⟩
def Fq{X:Cx}{pos:Pos}{k v:Expr}{ks:List (Option Expr)}{vs:List Expr}{tk tv:TE}{q:List (TE×TE)}(z:PE X k tk)(hv:PE X v tv)(hr:PPs X pos ks vs q):
  PPs X pos (some k::ks) (v::vs) ((tk,tv)::q):=λpins s σ H Q I h=>
 pairTrees_cons_walk (thn (z pins s σ H _ I h) λu s1 ⟨x,H1,I1,rx,q1⟩=>thn (hv pins s1 σ H1 _ I1 q1) λw2 s2 ⟨y,H2,I2,ry,q2⟩=>
  thn (hr pins s2 σ H2 _ I2 q2) λws s3 ⟨ps,H3,I3,rel,q3⟩=>⟨(x,y)::ps,H3,I3,.cons ⟨rx,ry⟩ rel,q3⟩)
noncomputable def Dl(kvs more:List (Key×V)):List (Key×V):=more.foldl (λacc kv=>putK acc kv.1 kv.2) kvs
def KV.merge:∀{z:List (Key×V)}{rs:List (Key×Value)}{kvs:List (Key×V)}{vs:List (Key×Value)},KV z rs->KV kvs vs->KV (Dl kvs z) (merged vs rs):=by
 intro z rs kvs vs r;unfold KV at r
 induction r generalizing kvs vs with
 |nil=>intro q;exact q
 | @cons p q ps qs h t ih=>
  intro r0
  have e:KV (putK kvs p.1 p.2) (stored vs q.1 q.2):=by
   have:=r0.put p.1 h.2;rw[<-h.1];exact this
  exact ih e
theorem xK:∀(more kvs:List (Key×V)),(Dl kvs more).length<=kvs.length+more.length
 |[],kvs=>by show kvs.length<=kvs.length+0;omega
 |p::r,kvs=>by
  have h1:=xK r (putK kvs p.1 p.2);have h2:=wF kvs p.1 p.2;show(Dl (putK kvs p.1 p.2) r).length<=_;rw[zA];omega
theorem Ey{P:Program}{w:World}:∀{kvs:List (Key×V)}{ws:List (Value×Value)},VV (kvs.map λz=>(kV z.1,z.2)) ws->∃rs,Carries (jj P w) ws rs/\KV kvs rs
 |[],_,r=>by rw[yg]at r;cases r;exact⟨[],True.intro,.nil⟩
 |p::kvs,_,r=>by
  rw[zg]at r
  cases r with
  | @cons a b as bs h t=>
   obtain⟨rs,c,q⟩:=Ey (P:=P) (w:=w) t;obtain⟨b1,b2⟩:=b;exact⟨(p.1,b2)::rs,⟨JS h.1,rfl,c⟩,.cons ⟨rfl,h.2⟩ q⟩
noncomputable def abe(trs:List (TE×TE)):TE:=λσ H Q=>∀p,H p=none->Nk trs σ (upd H p (.dK [])) λps H2=>H2 p=some (.dK [])/\∃kvs:List (Key×V),ps=kvs.map (λkv=>(kV kv.1,kv.2))/\kvs.length<=15/\Q (.ref p) (upd H2 p (.dK (Dl [] kvs)))
def XJ{X:Cx}{pos:Pos}{aa:List (Option Expr)}{ab:List Expr}{ad:List (TE×TE)}(h:PPs X pos aa ab ad)(ae:aa.all (·.isSome)=true)(hl:aa.length=ab.length)(h0:aa≠[])
  (af:aa.length<=15):PE X (.Dict aa ab pos) (abe ad):=by
 intro pins s σ H Q I q;have hn:=I.hok.fresh (zj s.heap.objs.size);have I1:=I.laid (a:=s.heap.objs.size) (o:=.dK []) (h':=s.heap.push {cls:=.type "dict",data:=.dict #[]}) (t':=s.toks) (λ_ _ q=>zd _ q) (zj _) (Ng s.heap I.big);refine wpAny_Dict_walk (knd:=jj X.prog X.w) ae hl h0 af (thn (h pins _ σ _ _ I1 (q _ hn)) λws s2 ⟨ps,H2,I2,rel,e,kvs,ep,lk,q2⟩=>?_);subst ep;obtain⟨rs,c,rk⟩:=Ey (P:=X.prog) (w:=X.w) rel;obtain⟨z,hd,ag,r0,dd⟩:=YJ I2.hok e;cases r0;refine⟨rs,c,dd,λh' ac hs=>⟨.ref s.heap.objs.size,_,?_,rfl,q2⟩⟩
 have hz:(Dl [] kvs).length<=sizeLine:=by
  have h1:=xK kvs [];rw[yC]at h1;rw[zc];omega
 have he:∃q,h'.get? s.heap.objs.size=some q:=let⟨q,_,_,hq,_⟩:=ac;⟨q,hq⟩
 exact Lf I2 (by rw[e];exact True.intro) hs he (Wv hz hd (rk.merge .nil) ac)
structure M1(X:Cx)(o:Expr)(m:Str)(apos:Pos)(e:Expr)(cpos:Pos):Prop where
 base:attributeBase o m X.env (eval o X.env)=eval o X.env
 few:((backTo cpos (starEach [e] X.env)).all (λx=>!x.1) && (backToKw cpos (keywordEach [] X.env)).all (λx=>x.1.isSome)
  && decide (([e]:List Expr).length+([]:List Keyword).length+(if([]:List Keyword).isEmpty then 0 else 1)<30))=true
 line:(apos.endLine==cpos.line)=true
 trees:backTo cpos (starEach [e] X.env)=[(false,eval e X.env)]
structure M2(X:Cx)(o:Expr)(m:Str)(apos:Pos)(e f:Expr)(cpos:Pos):Prop where
 base:attributeBase o m X.env (eval o X.env)=eval o X.env
 few:((backTo cpos (starEach [e,f] X.env)).all (λx=>!x.1) && (backToKw cpos (keywordEach [] X.env)).all (λx=>x.1.isSome)
  && decide (([e,f]:List Expr).length+([]:List Keyword).length+(if([]:List Keyword).isEmpty then 0 else 1)<30))=true
 line:(apos.endLine==cpos.line)=true
 trees:backTo cpos (starEach [e,f] X.env)=[(false,eval e X.env),(false,eval f X.env)]
noncomputable def IsD(H:Hp)(a:Addr):Prop:=(∃kvs,Rd H a (.dK kvs))\/∃kvs,Rd H a (.dT kvs)
def aas{X:Cx}{pins:List (Addr×Obj)}{σ:St}{H:Hp}{s:Shared}{a:Addr}(I:Inv X pins σ H s)(d:IsD H a):
  s.TypeIs (.ref a) "dict" /\(∀b,Value.ref a=.ref b->∃z,s.heap.get? b=some z/\z.dict=none)/\(a==sysModules)=false:=by
 rcases d with⟨kvs,e⟩|⟨kvs,e⟩
 ·obtain⟨_,hd,vs,_,dd⟩:=Vm I.hok e
  refine⟨dd.typeIs,λb q=>?_,hd⟩;cases q;obtain⟨z,_,_,h1,h2,_⟩:=dd;exact⟨z,h1,h2.2.1⟩
 ·obtain⟨_,hd,xs,_,dd⟩:=Ur I.hok e
  refine⟨dd.typeIs,λb q=>?_,hd⟩;cases q;obtain⟨z,_,_,h1,h2,_⟩:=dd;exact⟨z,h1,h2.2.1⟩
section
variable{X:Cx}{pins:List (Addr×Obj)}{σ:St}{H:Hp}{s:Shared}{a:Addr}{y d:V}{u r:Value}{o:Option V}{A:Around}{E:Value->Shared->Prop}
def aae{Q:Value->Shared->Prop}(hu:A.units+1<cLine)(I:Inv X pins σ H s)(g:XD H a y o)(ry:RelV y u)(rd:RelV d r)(h:∀w' s',Inv X pins σ H s'->RelV (o.getD d) w'->Q w' s'):
  wpAny (model X.prog X.w) A (call (.builtin "dict.get") [.ref a,u,r]) Q E s:=by
 rcases g with⟨kvs,k,e,q,l⟩|⟨kvs,k,b,e,q,eb,l⟩
 ·subst q
  obtain⟨z,hd,vs,rel,dd⟩:=Vm I.hok e;refine call_meetsIn zzz dd.typeIs PySem.F.entry_dict_get (PySem.F.args_dict_get_3 _ _ _) (meets_dict_get_default (jj X.prog X.w) a (JS ry) hd r) ⟨_,dd.mapOf,h _ _ (I.tok _) ?_⟩;rw[l];exact(rel.val k).getD rd
 ·subst q
  cases (show u=Value.ref b from ry);obtain⟨z,hd,xs,rel,dd⟩:=Ur I.hok e;refine call_meetsIn zzz dd.typeIs PySem.F.entry_dict_get (PySem.F.args_dict_get_3 _ _ _) (meetsH_dict_get_default (tupleKind (jj X.prog X.w)) a b hd r) ⟨tupleKind_room_in1 hu,k,xs,Mm I.hok eb,dd,h _ _ (I.tok _) ?_⟩;rw[l];exact(rel.val k).getD rd
end
noncomputable def VH(td ty tx:TE):TE:=λσ H Q=>td σ H λx H1=>∃a,x=.ref a/\IsD H1 a/\ty σ H1 λy H2=>tx σ H2 λz H3=>∃o,XD H3 a y o/\Q (o.getD z) H3
section
variable{X:Cx}{o e f:Expr}{apos cpos:Pos}{td ty tx:TE}
def Vp(hu:X.A.units+1<cLine)(ho:PE X o td)(he:PE X e ty)(hf:PE X f tx)(m:M2 X o "get" apos e f cpos):PE X (.Call (.Attribute o "get" apos) [e,f] [] cpos) (VH td ty tx):=by
 intro pins s σ H Q I h;refine wpAny_Call_method m.base m.few m.line PySem.F.plainAttrs_dict zzz PySem.F.type_dict_get (thn (ho pins s σ H _ I h) λu s1 ⟨x,H1,I1,rx,a,ex,d,q1⟩=>?_);subst ex;obtain rfl:u=Value.ref a:=rx;obtain⟨t1,t2,_⟩:=aas I1 d;refine⟨t1,t2,?_⟩;rw[m.trees]
 refine Calls.callWith_builtin rfl (Calls.evalArgs_plain (Calls.spliced_cons (thn (he pins s1 σ H1 _ I1 q1) λiv s2 ⟨y,H2,I2,ry,q2⟩=>
  Calls.spliced_cons (thn (hf pins s2 σ H2 _ I2 q2) λfv s3 ⟨z,H3,I3,rz,ov,g,q3⟩=>Calls.spliced_nil ?_))))
 exact aae hu I3 g ry rz λw' s4 I4 q=>⟨_,H3,I4,q,q3⟩
end
end L2
namespace L2
open PySem PySem.Spec PyProof.Rows
structure PL(K:Fg_)(x qual:Str)(st:Stmt)(f:Addr)(fd:FuncData)(dvs:List V):Prop where
 ex:∃(oc:Value)(od:Option Addr)(Td:Addr)(kV doc pm:Value)(an:Option Addr)(cdv ct:Value)(osl:Array (Option Value))(ot:Obj)(its:List Value)(nt:Nat),
  fd=PySem.W.fnOf x qual (jB st) (iC st) (fP st) (.ref Td) kV doc pm an cdv ct/\K.lookup f=some ⟨oc,od,.func fd,osl⟩/\PySem.W.codeIn K cdv qual=true/\K.lookup Td=some ot/\ot.data=.seq its.toArray nt/\Vals dvs its
 kp:PySem.W.keepIn K (.ref f)=true
section
variable{P:Program}{w:World}{K:Fg_}{mg:Str->Option Value}{base:Heap}
def PL.ok{x qual:Str}{st:Stmt}{f:Addr}{fd:FuncData}{N ps:List Str}{k:Nat}{sp:Sp}{dvs:List V}(F:PL K x qual st f fd dvs)(S:gb N ps (fP st))(len:∀vs H Q E,sp vs H Q E->vs.length=ps.length)
  (aa:∀(z:Value)(A:Around)(outer:List Env)(s:Shared)(H:Hp)(vs:List V)(Q:VK)(E:XK),mH k (A.deeper (envOfC qual (fP st) s.heap.objs.size f z))->sp vs H Q E->
   ∃t,PSs (uD CX0 P w K mg base N qual (fP st) f z A outer s H E).nox (iC st) t/\t {nx:=λ_ H'=>Q .non H',rt:=Q} (start N vs) H):jn P w K mg base CX0 (k+1) f fd ps sp:=by
 obtain⟨oc,od,Td,kV,ae,pm,an,z,ct,ad,ot,its,nt,rfl,lk,ab,_⟩:=F.ex;refine Uj lk ab S len λA outer s H vs Q E hr ac=>?_;obtain⟨t,h,q⟩:=aa z A outer s H vs Q E hr ac;exact⟨t,h.nox,q⟩
def PL.okX{x qual:Str}{st:Stmt}{f:Addr}{fd:FuncData}{N ps:List Str}{k:Nat}{sp:Sp}{dvs:List V}(F:PL K x qual st f fd dvs)(S:gb N ps (fP st))(len:∀vs H Q E,sp vs H Q E->vs.length=ps.length)
  (z:∀(q:Value)(A:Around)(outer:List Env)(s:Shared)(H:Hp)(vs:List V)(Q:VK)(E:XK),mH k (A.deeper (envOfC qual (fP st) s.heap.objs.size f q))->sp vs H Q E->
   ∃t,PSs (uD (CX1 P w) P w K mg base N qual (fP st) f q A outer s H E) (iC st) t/\t {nx:=λ_ H'=>Q .non H',rt:=Q} (start N vs) H):jn P w K mg base (CX1 P w) (k+1) f fd ps sp:=by
 obtain⟨oc,od,Td,kV,ad,pm,an,q,ct,ac,ot,its,nt,rfl,lk,aa,_⟩:=F.ex;exact Uj lk aa S len λA outer s H vs Q E hr ab=>z q A outer s H vs Q E hr ab
def Fun.okv{x qual:Str}{st:Stmt}{f:Addr}{fd:FuncData}{N ps:List Str}{k:Nat}{sp:Sp}(F:Fun K x qual st f fd)(S:gb N ps (fP st))
  (q:∀(cdv:Value)(A:Around)(outer:List Env)(s:Shared)(H:Hp)(vs:List V)(Q:VK)(E:XK),mH k (A.deeper (envOfC qual (fP st) s.heap.objs.size f cdv))->sp vs H Q E->
   ∃t,PSs (uD CX0 P w K mg base N qual (fP st) f cdv A outer s H E).nox (iC st) t/\t {nx:=λ_ H'=>Q .non H',rt:=Q} (start N vs) H) (len:∀vs H Q E,sp vs H Q E->vs.length=ps.length:=by walk_at "v"):jn P w K mg base CX0 (k+1) f fd ps sp:=F.ok S len q
def PL.okv{x qual:Str}{st:Stmt}{f:Addr}{fd:FuncData}{N ps:List Str}{k:Nat}{sp:Sp}{dvs:List V}(F:PL K x qual st f fd dvs)(S:gb N ps (fP st))
  (q:∀(cdv:Value)(A:Around)(outer:List Env)(s:Shared)(H:Hp)(vs:List V)(Q:VK)(E:XK),mH k (A.deeper (envOfC qual (fP st) s.heap.objs.size f cdv))->sp vs H Q E->
   ∃t,PSs (uD CX0 P w K mg base N qual (fP st) f cdv A outer s H E).nox (iC st) t/\t {nx:=λ_ H'=>Q .non H',rt:=Q} (start N vs) H) (len:∀vs H Q E,sp vs H Q E->vs.length=ps.length:=by walk_at "v"):jn P w K mg base CX0 (k+1) f fd ps sp:=F.ok S len q
def PL.binds{x qual:Str}{st:Stmt}{f:Addr}{fd:FuncData}{ps:List Str}{dvs:List V}(F:PL K x qual st f fd dvs)(n:Nat)
  (h:∀(Td:Addr)(kV z pm:Value)(an:Option Addr)(q ct:Value)(its us:List Value),its.length=dvs.length->(us++its.drop n).length=ps.length->
   ∃k,bindArgs (PySem.W.fnOf x qual (jB st) (iC st) (fP st) (.ref Td) kV z pm an q ct) ⟨us,[]⟩=(seqItems? (.ref Td)>>=k)/\k (some its.toArray)=pure (ps.zip (us++its.drop n))):∃ds,Binds K fd ps ds/\Vals (dvs.drop n) ds:=by
 obtain⟨oc,od,Td,kV,z,pm,an,q,ct,ac,ot,its,nt,rfl,lk,ab,lt,aa,hv⟩:=F.ex;refine⟨its.drop n,λs us X hl=>?_,hv.drop n⟩;obtain⟨k,e1,e2⟩:=h Td kV z pm an q ct its us hv.length.symm hl;exact PySem.W.binds_K X rfl lt aa e1 e2
def Lj{x qual:Str}{st:Stmt}{f Td:Addr}{oc:Value}{od an:Option Addr}{aa:Array (Option Value)}{kV z pm q ct:Value}{dvs:List V}{ot:Obj}{its:List Value}{nt:Nat}(l:K.lookup f=some ⟨oc,od,.func (PySem.W.fnOf x qual (jB st) (iC st) (fP st) (.ref Td) kV z pm an q ct),aa⟩)
  (c:PySem.W.codeIn K q qual=true) (k:PySem.W.keepIn K (.ref f)=true) (lt:K.lookup Td=some ot) (hd:ot.data=.seq its.toArray nt) (hv:Vals dvs its):PL K x qual st f (PySem.W.fnOf x qual (jB st) (iC st) (fP st) (.ref Td) kV z pm an q ct) dvs:=
 ⟨⟨oc,od,Td,kV,z,pm,an,q,ct,aa,ot,its,nt,rfl,l,c,lt,hd,hv⟩,k⟩
end
structure Zh(K:Fg_)(C:Addr)(m:Str)(f:Addr):Prop where
 ga:PySem.W.specialIn K (.ref C) "__getattribute__" =some (some (.builtin "type.__getattribute__"))
 rd:PySem.W.readsIn K C (.type "type")=true
 fi:PySem.W.findCls K (.ref C) (.type "type") m=some (.val (.ref f))
section
variable{X:Cx}{CX:CXT}{k:Nat}{f C:Addr}{fd:FuncData}{ps ks:List Str}{sp:Sp}{dvs:List V}{ds:List Value}{E:XK}{x m:Str}{p pos apos:Pos}{e o:Expr}{es:List Expr}{ta:TE}{t tk:TA}{kws:List Keyword}
def lK{pl:Sem Bool}(Z:Zh X.K C m f)(F:jn X.prog X.w X.K X.mg X.base CX k f fd ps sp)(hr:mH k X.A)(hg:Gl X x)(hm:X.mg x=some (.ref C))(hk:PySem.W.keepIn X.K (.ref f)=true)(hb:Binds X.K fd ps ds)(hd:Vals dvs ds)(hx:vN CX X E)
  (ha:PA X (e::es) t) (z:(x==("__debug__" :Str))=false:=by decide) (he:starEach (e::es) X.env=(false,eval e X.env)::starEach es X.env:=by rfl) (hpl:(backTo pos (starEach es X.env)).any (·.1)=false:=by rfl)
  (ht:eval (.Call (.Attribute (.Name x p) m apos) (e::es) [] pos) X.env=(do
   let ov<-eval (.Name x p) X.env
   standAt apos.atName
   let(f,first)<-holding [ov] (getMethod ov m pl)
   callWith pos f first (backTo pos (starEach (e::es) X.env)) (backToKw pos (keywordEach [] X.env))):=by rfl):
  PE X (.Call (.Attribute (.Name x p) m apos) (e::es) [] pos) (Vd sp dvs E t):=by
 intro pins s σ H Q I h;refine zzA (pl:=pl) (lQ I hg hm ?_ z) ht;refine PySem.W.method_cls I.kIn Z.ga (PySem.W.cls_value I.kIn Z.rd Z.fi rfl ?_);have I':Inv X pins σ H {s with toks:=s.toks+1}:=I.tok _;refine yH (first:=[]) (h₀:=X.base) I.ok.mod.kin hk (thn (ha pos pins _ σ H _ I' h) λus s1 ⟨vs,H1,I1,r,q⟩=>⟨I1.kIn,?_⟩) he hpl;exact Tw F hr hb hd hx I1 r q
inductive Uv(X:Cx)(CX:CXT)(m:Str):List (Addr×Sp)->Prop
 |nil:Uv X CX m []
 |cons {C f:Addr} {fd:FuncData} {ps:List Str} {sp:Sp} {k:Nat} {r:List (Addr×Sp)} (c:Cls X.K C) (hm:Meth X.K C m f) (F:jn X.prog X.w X.K X.mg X.base CX k f fd ps sp) (hr:mH k X.A) (hb:Binds X.K fd ps []) (t:Uv X CX m r):Uv X CX m ((C,sp)::r)
def Uv.get{tab:List (Addr×Sp)}(T:Uv X CX m tab){C:Addr}{sp:Sp}(h:(C,sp)∈tab):∃f fd ps k,Cls X.K C/\Meth X.K C m f/\jn X.prog X.w X.K X.mg X.base CX k f fd ps sp/\mH k X.A/\Binds X.K fd ps []:=by
 induction T with
 |nil=>cases h
 |cons c hm F hr hb t ih=>
  rcases zp.mp h with z|z
  ·cases z
   exact⟨_,_,_,_,c,hm,F,hr,hb⟩
  ·exact ih z
noncomputable def Lk(tab:List (Addr×Sp))(m:Str)(E:XK)(ta:TE)(t:TA):TE:=λσ H Q=>ta σ H λx H1=>∃a C dx fs sp,x=.ref a/\H1 a=some (.ins C dx fs)/\(C,sp)∈tab/\fs.lookup m=none/\t σ H1 λvs H2=>sp (x::vs) H2 Q E
def QL{pl:Sem Bool}{tab:List (Addr×Sp)}(he:PE X o ta)(T:Uv X CX m tab)(hx:vN CX X E)
  (ht:eval (.Call (.Attribute o m apos) [] [] pos) X.env=(do
   let ov<-eval o X.env
   standAt apos.atName
   let(f,first)<-holding [ov] (getMethod ov m pl)
   callWith pos f first (backTo pos (starEach [] X.env)) (backToKw pos (keywordEach [] X.env))):=by rfl):
  PE X (.Call (.Attribute o m apos) [] [] pos) (Lk tab m E ta Ro):=by
 intro pins s σ H Q I h;refine zzA (pl:=pl) (thn (he pins s σ H _ I h) λu s1 ⟨y,H1,I1,rx,a,C,dx,fs,sp,ex,ea,z,l,q⟩=>?_) ht;subst ex;obtain rfl:u=Value.ref a:=rx;obtain⟨f,fd,ps,k,c,hm,F,hr,hb⟩:=T.get z;refine Oj I1 ea c hm l ?_;exact PySem.W.callWith_K0 (first:=[.ref a]) I1.kIn hm.kp (Tw (us:=[.ref a]) (vs:=[.ref a]) (dvs:=[]) (ds:=[]) F hr hb .nil hx I1 (.cons rfl .nil) q)
variable{g:List Value->List Value->List Value}{gV:List V->List V->List V}
end
theorem Gx(f:Str)(v:V):∀{fs:List (Str×V)},(fs.map (·.1)).contains f=false->Cd f v fs=fs++[(f,v)]
 |[],_=>rfl
 |(g,x)::r,h=>by
  rw[zg,yu]at h;have h1:¬g=f:=λe=>by rw[e]at h;simp at h
  have h2:(r.map (·.1)).contains f=false:=(Bool.or_eq_false_iff.mp h).2;show(if g=f then(g,v)::r else(g,x)::Cd f v r)=_;rw[zo h1,Gx f v h2];rfl
structure Zb(K:Fg_)(C:Addr):Prop where
 cl:Cls K C
 ha:PySem.W.findIn K (.ref C) "__class__" =some (some (.builtin "object.__class__"))
 hn:PySem.W.specialIn K (.builtin "object.__class__") "__get__" =some (some (.builtin "getset_descriptor.__get__"))
 htk:PySem.W.takesIn K (.builtin "object.__class__")=some true
 hm:PySem.W.mroIn K C (.type "object")=some true
def Zb.of{K:Fg_}{C a dx:Addr}{H:Hp}{fs:List (Str×V)}(z:Zb K C)(h:H a=some (.ins C dx fs)):JQ K H (.ref a) (.ref C):=.ins h z.cl z.ha z.hn z.htk z.hm
end L2
namespace L2
open PySem PySem.Spec PyProof.Rows
noncomputable def signs(x:Str):List V:=x.cps.toList.map λc=>V.str ⟨#[c]⟩
noncomputable def YD(x:Str):It:=⟨λi _=>i<x.cps.size,λi H v H'=>H'=H/\(signs x)[i]? =some v,λi _=>x.cps.size<=i⟩
def Ua{P:Program}{w:World}{K:Fg_}{tg:Expr}{ty:String}(ab:ty= "str_ascii_iterator" \/ty= "str_iterator") (it:Addr) (x:Str) (t:Tok):Turn P w K tg (YD x) [it] it (λi h=>h.IsStrIter it ty x t i) where
 mem:=by simp
 obj:=λi h st b hb=>by
  have e:b=it:=by simpa using hb
  subst e;obtain⟨o,e,c,d⟩:=st;exact⟨o,e,λv z=>by rw[d]at z;cases z⟩
 keep:=λi h h' st k=>by
  obtain⟨o,e,r⟩:=st;exact⟨o,k it (by simp) o e,r⟩
 item:=by
  intro X hP hw hK hc i pins s σ H E I hf st hg;subst hP hw hK;have hi:i<x.cps.size:=hg;have hx:x.cps[i]? =some x.cps[i]:=Array.getElem?_eq_getElem hi
  have hs:(signs x)[i]? =some (.str ⟨#[x.cps[i]]⟩):=by
   unfold signs;rw[zB,Array.getElem?_toList,hx];rfl
  rcases ab with rfl|rfl
  ·refine wpAny_pyNext_ascii_item st hx λh' aa sb=>?_
   obtain⟨o,e,c,d⟩:=id aa;exact⟨_,rfl,PX (s:={s with heap:=h',toks:=s.toks+1}) e c d (by decide) ⟨.str ⟨#[x.cps[i]]⟩,H,I.turnedN hf λb o hb q=>(sb.2 b (by simpa using hb)).trans q,⟨_,rfl⟩,⟨rfl,hs⟩,aa,λb hb=>(hf b hb).1⟩⟩
  ·refine wpAny_pyNext_wide_item st hx λh' aa sb=>?_
   obtain⟨o,e,c,d⟩:=id aa;exact⟨_,rfl,PX (s:={s with heap:=h',toks:=s.toks+1}) e c d (by decide) ⟨.str ⟨#[x.cps[i]]⟩,H,I.turnedN hf λb o hb q=>(sb.2 b (by simpa using hb)).trans q,⟨_,rfl⟩,⟨rfl,hs⟩,aa,λb hb=>(hf b hb).1⟩⟩
 done:=by
  intro X hP hw hK hc i pins s σ H E I hf st hg;subst hP hw hK;have hx:x.cps[i]? =none:=Array.getElem?_eq_none hg;rcases ab with rfl|rfl
  ·exact wpAny_pyNext_ascii_end (I.ok.hd hc) st hx λh' eb=>⟨rfl,I.turnedN (t':=s.toks) hf λb o hb q=>eb b o (by simpa using hb) q⟩
  ·exact wpAny_pyNext_wide_end (I.ok.hd hc) st hx λh' eb=>⟨rfl,I.turnedN (t':=s.toks) hf λb o hb q=>eb b o (by simpa using hb) q⟩
 self:=λ_ _ _ _ _ st h=>by
  rcases ab with rfl|rfl
  ·exact wpAny_pyIter_striter_ascii st h
  ·exact wpAny_pyIter_striter_wide st h
section
variable{X:Cx}{K:Fg_}{tg:Expr}
noncomputable def abP(tl:TE):TI:=λσ H R=>tl σ H λx H1=>∃z,x=.str z/\R (YD z) H1
def WD{l:Expr}{tl:TE}(hl:PE X l tl):PI X tg l (abP tl):=by
 intro pins s σ H R I h;refine thn (hl pins s σ H _ I h) λv s1 ⟨x,H1,I1,r1,q1⟩=>?_;obtain⟨z,e,q⟩:=q1;subst e;obtain⟨t,rfl⟩:=r1
 have aa:∀(ty:String)(ab:ty= "str_ascii_iterator" \/ty= "str_iterator"),PIE X pins σ tg R (.ref s1.heap.objs.size) {s1 with heap:=s1.heap.push {cls:=.type ty,data:=.fields #[.str z t,.int 0 0]}}:=λty ab=>by
  refine⟨s1.heap.objs.size,[s1.heap.objs.size],_,_,H1,rfl,I1.kept (t':=s1.toks) λb o e=>zd _ e,Ua ab _ z t,⟨_,zP _ rfl,rfl,rfl⟩,λb hb=>?_,q⟩;have e:b=s1.heap.objs.size:=by simpa using hb
  subst e;exact I1.fpOk (zj _) (I1.hok.fresh (zj _))
 cases ha:z.cps.all (·<128)
 ·exact wpAny_pyIter_wide ha (aa _ (.inr rfl))
 ·exact wpAny_pyIter_ascii ha (aa _ (.inl rfl))
variable{σ:St}{H:Hp}{R:It->Hp->Prop}{tl:TE}{cap:List (Option Nat)}{g:TG}{tt:TT}{te:TE}{Q:VK}{x:Str}
def ap_iStr:abP tl σ H R=tl σ H λx H1=>∃z,x=.str z/\R (YD z) H1:=rfl
def jP.str(Sσ:St->Prop)(p:V->Bool)(F:V->V)(h0:Sσ (uM σ cap))(hz:x.cps.size<=sizeLine)
  (hs:∀y∈signs x,∀(σ:St)(H5:Hp)(R1:St->VK)(R2:St->Hp->Prop),Sσ σ->Same H H5->(p y=true->∀q H6,Sσ q->Same H5 H6->R1 q (F y) H6)->(p y=false->∀q H6,Sσ q->Same H5 H6->R2 q H6)->
   g y σ H5 λq H4=>tt q H4 λb H5=>if b=true then te q H5 (R1 q)else R2 q H5)
  (k:∀D H',H D=Option.none->Same H H'->H' D=some (.lst (((signs x).filter p).map F))->Q (.ref D) H'):jP cap (YD x) g tt te σ H Q:=λD hD=>by
 have hl:(signs x).length=x.cps.size:=by simp[signs]
 refine wW (xs:=signs x) (YD x) Sσ p F hD h0 (by omega) (λi y H' hy sm=>?_) (λH' sm=>?_) hs λH' s e=>k D H' hD s e
 ·have hi:i<(signs x).length:=(zr.mp hy).1
  exact⟨by show i<x.cps.size;omega,λz H2 hz=>⟨zf (hz.2.symm.trans hy),hz.1⟩⟩
 ·show x.cps.size<=_
  omega
noncomputable def aaM:R2:=λx y H Q=>∃i j,x=.str i/\y=.str j/\Q (.bl (!decide (j.cps.toList<i.cps.toList))) H
def xr:OpR X (compareOp .LtE) aaM:=by
 intro pins s σ H x y v u Q I rx z h;obtain⟨i,j,rfl,rfl,q⟩:=h;obtain⟨t,rfl⟩:=rx;obtain⟨t',rfl⟩:=z;exact PySem.P.le_str ⟨.bl _,H,I,rfl,q⟩
noncomputable def abF(neg:Bool):R2:=λy x H Q=>∃a o,x=.ref a/\XD H a y o/\Q (.bl (if neg then !o.isSome else o.isSome)) H
def Je(z:X.A.units+1<cLine):OpR X (compareOp .In) (abF false):=by
 intro pins s σ H y x v u Q I ry rx h;obtain⟨a,o,rfl,g,q⟩:=h;cases rx;exact acf z I g ry λs' I'=>⟨.bl _,H,I',rfl,q⟩
def XF{o value:Expr}{f:Str}{ta tv:TE}{pos pos':Pos}(ha:PE X o ta)(hv:PE X value tv)(q:swapsWith value (some (.Attribute o f pos')) pos.line X.env=pure false)(z:X.K=K:=by rfl):PS X (.Assign [.Attribute o f pos'] value pos) (Zm K ta tv f):=z▸Zu ha hv q
variable{ta tv ty td tx:TE}{f:Str}{D:Ends}{C:Addr}{tab:List (Addr×Sp)}{m:Str}{E:XK}{t tk:TA}{sp:Sp}{dvs:List V}{gV:List V->List V->List V}
def ap_fldK:aaH K ta f σ H Q=ta σ H λx H1=>∃a C dx fs v,x=.ref a/\H1 a=some (.ins C dx fs)/\Cls K C/\gk K C f/\fs.lookup f=some v/\Q v H1:=rfl
def ap_sFld:Zm K ta tv f D σ H=tv σ H λy H1=>ta σ H1 λx H2=>∃a C dx fs,x=.ref a/\H2 a=some (.ins C dx fs)/\Cls K C/\gk K C f/\fs.length<1000/\D.nx σ (upd H2 a (.ins C dx (Cd f y fs))):=rfl
def ap_methD:Lk tab m E ta t σ H Q=ta σ H λx H1=>∃a C dx fs sp,x=.ref a/\H1 a=some (.ins C dx fs)/\(C,sp)∈tab/\fs.lookup m=none/\t σ H1 λvs H2=>sp (x::vs) H2 Q E:=rfl
def ap_make:aah C sp dvs E t σ H Q=t σ H λvs H1=>∀x dx,H1 x=none->H1 dx=none->dx≠x->sp (.ref x::(vs++dvs)) (upd (upd H1 dx (.own x)) x (.ins C dx [])) (λv H2=>v=.non/\Q (.ref x) H2) E:=rfl
def ap_dget2:VH td ty tx σ H Q=td σ H λx H1=>∃a,x=.ref a/\IsD H1 a/\ty σ H1 λy H2=>tx σ H2 λz q=>∃o,XD q a y o/\Q (o.getD z) q:=rfl
def ap_dput:aaC td ty tv D σ H=tv σ H λv H1=>td σ H1 λx H2=>ty σ H2 λy z=>∃a q,x=.ref a/\aaO z a y v q/\D.nx σ q:=rfl
def ap_dnewK:Wf σ H Q=∀p,H p=none->Q (.ref p) (upd H p (.dK [])):=rfl
def ap_inD{q:Bool}{x y:V}:abF q y x H Q=∃a o,x=.ref a/\XD H a y o/\Q (.bl (if q then !o.isSome else o.isSome)) H:=rfl
def ap_leS{i j:Str}:aaM (.str i) (.str j) H Q=Q (.bl (!decide (j.cps.toList<i.cps.toList))) H:=propext ⟨fun⟨i',j',z,e2,q⟩=>by cases z;cases e2;exact q,λq=>⟨i,j,rfl,rfl,q⟩⟩
def ap_ixT{x y:V}:aaV K x y H Q=∃p xs i v,x=.ref p/\y=.int i/\SqT K H p xs/\atI xs i=some v/\Q v H:=rfl
def ap_ixS{x y:V}:abL x y H Q=∃z i c,x=.str z/\y=.int i/\z.length<=sizeLine/\atI z.cps.toList i=some c/\Q (.str ⟨#[c]⟩) H:=rfl
def ap_slT{x:V}{lo hi:Option Int}:abd K x lo hi H Q=∃a xs,x=.ref a/\SqT K H a xs/\¬(HT.sIx xs.length 0 lo=0/\HT.sIx xs.length xs.length hi=xs.length)/\∀p,H p=none->Q (.ref p) (upd H p (.tup (uN xs lo hi))):=rfl
def ap_rTupOf{p:Addr}:RG K [.ref p] H Q=∃ys,((SqL K H p ys/\∀l,H l=none->Q (.ref l) (upd H l (.tup ys)))\/(SqT K H p ys/\Q (.ref p) H)):=by simp[RG]
def ap_rIn{q:Bool}{x y:V}:rIn K q x y H Q=∃p xs,y=.ref p/\(SqL K H p xs\/SqT K H p xs)/\Bh x=true/\xs.all Bh=true/\Q (.bl (if q then !inV x xs else inV x xs)) H:=rfl
def ap_lenS{z:Str}:(fun(xs:List V)(H:Hp)(Q:VK)=>∃z,xs=[V.str z]/\z.length<=sizeLine/\Q (.int z.length) H) [.str z] H Q=(z.length<=sizeLine/\Q (.int z.length) H):=propext ⟨fun⟨q,e,r⟩=>by cases e;exact r,λr=>⟨z,rfl,r⟩⟩
end
end L2
namespace L2
open PySem PySem.W PySem.Spec PyProof.Rows
section
variable{key:Nat->Int}{n:Nat}
noncomputable def Dn(key:Nat->Int)(p:Array Nat)(m:Nat):Prop:=∀a b,a<b->b<m->key (p.getD b 0)<key (p.getD a 0)
end
noncomputable def But(D:Addr)(H H':Hp):Prop:=∀b u,b≠D->H b=some u->H' b=some u
def Same.seqT{K:Fg_}{H H':Hp}{a:Addr}{xs:List V}(e:Same H H')(h:SqT K H a xs):SqT K H' a xs:=h.elim (λh=>h.elim (λh=> .inl (.inl (e _ _ h))) fun⟨o,h⟩=> .inl (.inr ⟨o,e _ _ h⟩)) .inr
section
variable{K:Fg_}{a:Addr}{xs:List V}{g:TG}{te:TE}{σ:St}{H:Hp}{Q:VK}{cap:List (Option Nat)}
def jP.listE(Sσ:St->Prop)(F:Nat->V->Hp->Prop)(hS:SqL K H a xs)(h0:Sσ (uM σ cap))(hz:xs.length<=sizeLine)
  (hs:∀D i x,xs[i]? =some x->∀(σ:St)(H5:Hp)(R:St->VK),Sσ σ->Same H H5->H D=Option.none->(∃acc,H5 D=some (.lst acc))->(∀v σ4 H6,Sσ σ4->Same H5 H6->(∀H',But D H6 H'->F i v H')->R σ4 v H6)->
   g x σ H5 λσ4 H4=>te σ4 H4 (R σ4))
  (k:∀D H' acc,H D=Option.none->Same H H'->H' D=some (.lst acc)->acc.length=xs.length->(∀i v,acc[i]? =some v->F i v H')->Q (.ref D) H'):jP cap (Itl K a) g Df te σ H Q:=by
 intro D hD;refine⟨λi m acc σ H2=>m=xs.length - i/\i<=xs.length/\Sσ σ/\Same H H2/\acc.length=i/\∀j v,acc[j]? =some v->∀H',But D H2 H'->F j v H',⟨xs.length,rfl,zV _,h0,fM hD,rfl,λj v e=>by simp at e⟩,?_⟩;rintro i m acc σ1 H2 ⟨rfl,hi,hσ,sm,aa,hF⟩ hA;by_cases ab:i<xs.length
 ·have hx:xs[i]? =some xs[i]:=by simp[ab]
  refine .inr ⟨⟨xs,xs[i],sm.seq hS,hx⟩,λy H3 hy=>?_⟩;obtain rfl:H3=H2:=hy.1;obtain rfl:y=xs[i]:=zf ((hy.2 xs (sm.seq hS)).symm.trans hx);simp only[ap_noIf,if_true];refine hs D i _ hx σ1 H3 _ hσ sm hD ⟨_,hA⟩ λv σ4 H6 af s6 ae=>?_;have ad:=s6 _ _ hA;refine⟨acc,ad,by omega,xs.length - (i+1),by omega,rfl,ab,af,(sm.trans s6).upd hD,by rw[zh,aa];rfl,λj u z H' hb=>?_⟩;have ac:But D H6 H':=λb o q e=>hb b o q ((fY q).trans e);by_cases ag:j<acc.length
  ·rw[zW ag]at z
   exact hF j u z H' λb o q e=>ac b o q (s6 _ _ e)
  ·rw[zT (by omega)]at z
   have ah:j - acc.length=0:=by
    have:=(zr.mp z).1;simp at this;omega
   rw[ah]at z;cases z;obtain rfl:j=i:=by omega
   exact ae H' ac
 ·obtain rfl:i=xs.length:=by omega
  exact .inl ⟨⟨xs,sm.seq hS,zj _⟩,k D H2 acc hD sm hA aa λj v e=>hF j v e H2 λb o _ e=>e⟩
def jP.tupF(Sσ:St->Prop)(F:V->V)(hS:SqT K H a xs)(h0:Sσ (uM σ cap))(hz:xs.length<=sizeLine)
  (hs:∀x∈xs,∀(σ:St)(H5:Hp)(R:St->VK),Sσ σ->Same H H5->(∀σ4 H6,Sσ σ4->Same H5 H6->R σ4 (F x) H6)->g x σ H5 λσ4 H4=>te σ4 H4 (R σ4))
  (k:∀D H',H D=Option.none->Same H H'->H' D=some (.lst (xs.map F))->Q (.ref D) H'):jP cap (Itt K a) g Df te σ H Q:=by
 intro D hD
 have z:=wW (te:=te) (tt:=Df) (g:=g) (σ0:=uM σ cap) (Q:=Q) (Itt K a) Sσ (λ_=>true) F hD h0 hz (λi x H5 hx q=>⟨⟨xs,x,q.seqT hS,hx⟩,λy H' hy=>⟨zf ((hy.2 xs (q.seqT hS)).symm.trans hx),hy.1⟩⟩) (λH5 q=>⟨xs,q.seqT hS,zj _⟩)
  (λx hx σ5 H5 R1 R2 hσ q k1 k2=>by
   simp only[ap_noIf,if_true];exact hs x hx σ5 H5 R1 hσ q (k1 rfl)) (λH' q e=>k D H' hD q (by rw[nU]at e;exact e))
 exact z
end
end L2
namespace L2
open PySem PySem.Spec PyProof.Rows
structure Mk0(K:Fg_)(C:Addr):Prop where
 makes:PySem.W.makesIn K C=true
 init:PySem.W.findIn K (.ref C) "__init__" =some (some (.builtin "object.__init__"))
 kp:PySem.W.keepIn K (.ref C)=true
end L2
namespace PySem
open PySem.Spec PyProof.Rows
end PySem
namespace L2
open PySem PySem.Spec PyProof.Rows
section
variable{X:Cx}
noncomputable def aar:V->List V->Hp->VK->Prop:=λv vs H Q=>∃z,v=.str z/\vs=[]/\(Txt.upper z).length<=100000/\Q (.str (Txt.upper z)) H
def Ub:MtM X "str.upper" aar:=by
 intro pins s σ H x vs v us Q I rx rv h;obtain⟨z,rfl,rfl,hl,q⟩:=h;obtain⟨t,rfl⟩:=rx;have aa:=rv.zero;subst aa;refine zzd F.slot_str_upper (show s.TypeIs (.str z t) "str" from rfl) F.entry_str_upper (F.args_str_upper_1 _) (show Meets _ (λA R s=>(Made.str (Txt.upper z)).post (λv s'=>R (.ok (.ret v)) s') s)from gives_str_upper z t ?_) ?_
 ·show decide _=false
  refine zF ?_;have:(placed z λx c=>Unicode.upperOf c).size<=100000:=hl;rw[zc];omega
 ·exact⟨by rw[zc];omega,.str _,H,I.tok _,⟨_,rfl⟩,q⟩
end
end L2
namespace L2
open PySem PySem.W PySem.Spec PySem.Calls PyProof.Rows
noncomputable def Ov(Pt:Addr)(H H':Hp):Prop:=∀b o,b≠Pt->H b=some o->H' b=some o
def Ov.of{q:Addr}{H H':Hp}(h:Same H H'):Ov q H H':=λb o _ e=>h b o e
def Ov.trans{q:Addr}{H H1 H2:Hp}(h:Ov q H H1)(k:Ov q H1 H2):Ov q H H2:=λb o n e=>k b o n (h b o n e)
end L2
namespace L2
open PySem PySem.W PySem.Spec PySem.Calls PyProof.Rows
structure abE(z TI TO i1 i2 i3 l1 l2 l3:Addr):Prop where
 zz:TI≠z/\TO≠z/\i1≠z/\i2≠z/\i3≠z/\l1≠z/\l2≠z/\l3≠z
 to:TI≠TO/\i1≠TO/\i2≠TO/\i3≠TO/\l1≠TO/\l2≠TO/\l3≠TO
 ii:i1≠i2/\i1≠i3/\i2≠i3
 j1:TI≠i1/\l1≠i1/\l2≠i1/\l3≠i1
 j2:TI≠i2/\l1≠i2/\l2≠i2/\l3≠i2
 j3:TI≠i3/\l1≠i3/\l2≠i3/\l3≠i3
end L2
namespace L2
open PySem PySem.Spec PyProof.Rows
section
variable{prog:Program}{w:World}{A:Around}{E:Value->Shared->Prop}{h:Heap}{g:Array GenState}{d:Drawn}{t:Nat}{os:OsState}{a:Addr}{o:Obj}
 {nm q:Str} {C N:Addr} {bs bm bmB:List Value} {hdct:Bool} {sn:List Str} {sub:List Value} {ab:Bool} {col:Option Bool} {dd:Option Addr} {k0 k1 k2 k3 k5:Option Value} {B newId initId:String} {K:Fg_}
def JV{rest:List Value}{fI:Addr}{oI:Obj}{Q:Fin->Shared->Prop}(KX:K.In h)(F:ExcBaseFacts B newId initId bmB)(T:OwnTail h bmB bm)
  (z:h.get? C=some (excClassObj nm q C N bs bm hdct sn sub ab col dd k0 k1 k2 k3 k5 newId)) (hi:PySem.W.findIn K (.ref C) "__init__" =some (some (.ref fI))) (hf:h.get? fI=some oI) (ac:oI.cls=.type "function") (hz:rest.length<=sizeLine)
  (k:∀h',Heap.MadeExcOf h h' (h.objs.size+1) (.ref C) rest->codeAny (model prog w) A (Code.call (.ref fI) ⟨.ref (h.objs.size+1)::rest,[]⟩) (λr s'=>match r with|.ok (.ret v)=>v=.none/\Q (.done (.ret (.ref (h.objs.size+1)))) s'|.ok _=>False|.error x=>E x s') ⟨h',g,d,t,os⟩):
  wpAny (model prog w) A (Builtin.«type.__call__» ⟨.ref C::rest,[]⟩) Q E ⟨h,g,d,t,os⟩:=by
 have hM:=fun{M:Model}{A:Around}{E}{Q:Option String->Shared->Prop}(k:Q (some newId) ⟨h,g,d,t,os⟩)=>wpAny_madeBy_exc (M:=M) (A:=A) (E:=E) (Q:=Q) z k
 repeat (any_goals (first|assumption|(with_reducible refine zD z ?_)|with_reducible refine hM ?_|wp_step))
 refine codeAny_call_builtin_code (Code.quiet_builtin _ F.quiet) (wpAny_check_new_subT F T z (codeAny_exc_new_subT F T z ?_ hz));have e1:∀b o,h.get? b=some o->((h.push {cls:=Value.type "tuple",data:=Data.seq rest.toArray}).push {cls:=Value.ref C,data:=Data.fields #[Value.ref h.objs.size,Value.none,Value.none,Value.none,Value.bool false,Value.none]}).get? b=some o:=λb o e=>zd _ (zd _ e);have e2:((h.push {cls:=Value.type "tuple",data:=Data.seq rest.toArray}).push {cls:=Value.ref C,data:=Data.fields #[Value.ref h.objs.size,Value.none,Value.none,Value.none,Value.bool false,Value.none]}).get? (h.objs.size+1)=some {cls:=Value.ref C,data:=Data.fields #[Value.ref h.objs.size,Value.none,Value.none,Value.none,Value.bool false,Value.none]}:=yya (by rw[zzp]) rfl;have e3:((h.push {cls:=Value.type "tuple",data:=Data.seq rest.toArray}).push {cls:=Value.ref C,data:=Data.fields #[Value.ref h.objs.size,Value.none,Value.none,Value.none,Value.bool false,Value.none]}).get? h.objs.size=some {cls:=Value.type "tuple",data:=Data.seq rest.toArray}:=zd _ (yya rfl rfl);have mk:Heap.MadeExcOf h ((h.push {cls:=Value.type "tuple",data:=Data.seq rest.toArray}).push {cls:=Value.ref C,data:=Data.fields #[Value.ref h.objs.size,Value.none,Value.none,Value.none,Value.bool false,Value.none]}) (h.objs.size+1) (.ref C) rest:=⟨e1,yJ (by omega),_,e2,yJ (zj _),e3⟩;have k':=k _ mk;generalize((h.push {cls:=Value.type "tuple",data:=Data.seq rest.toArray}).push {cls:=Value.ref C,data:=Data.fields #[Value.ref h.objs.size,Value.none,Value.none,Value.none,Value.bool false,Value.none]})=h2 at*;have aa:=e1 _ _ z;have ad:=e1 _ _ hf;have LK:=zZ (M:=model prog w) (KX.keeps e1) hi;have ae:(Value.ref C::bm).contains (.ref C)=true:=by simp
 repeat (any_goals (first|assumption|(with_reducible refine zD aa ?_)|(with_reducible refine zD e2 ?_)|(with_reducible refine yq aa ?_;rw[ae])|with_reducible refine LK.at ?_|wp_step))
 unfold bindSpecial
 repeat (any_goals (first|assumption|(with_reducible refine zD ad ?_;rw[ac])|wp_step))
 refine codeAny_mono k' (λr s' hr=>?_)
 cases r with
 |error x=>exact hr
 |ok fl=>
  cases fl with
  |ret v=>
   obtain⟨rfl,hq⟩:=hr;refine zn ?_;dsimp only;rw[zo (by decide)];exact zn hq
  |next=>exact hr
  |brk=>exact hr
  |cont=>exact hr
def YS{rest:List Value}{fI:Addr}{oI:Obj}{Q:Value->Shared->Prop}(KX:K.In h)(F:ExcBaseFacts B newId initId bmB)(T:OwnTail h bmB bm)
  (z:h.get? C=some (excClassObj nm q C N bs bm hdct sn sub ab col dd k0 k1 k2 k3 k5 newId)) (hi:PySem.W.findIn K (.ref C) "__init__" =some (some (.ref fI))) (hf:h.get? fI=some oI) (aa:oI.cls=.type "function") (hz:rest.length<=sizeLine)
  (k:∀h',Heap.MadeExcOf h h' (h.objs.size+1) (.ref C) rest->codeAny (model prog w) (A.under (.builtin "type.__call__" ⟨.ref C::rest,[]⟩)) (Code.call (.ref fI) ⟨.ref (h.objs.size+1)::rest,[]⟩) (λr s'=>match r with|.ok (.ret v)=>v=.none/\Q (.ref (h.objs.size+1)) s'|.ok _=>False|.error x=>E x s') ⟨h',g,d,t,os⟩):
  wpAny (model prog w) A (call (.ref C) rest) Q E ⟨h,g,d,t,os⟩:=by
 refine zz6 (codeAny_of_tree ?_);rw[show(model prog w).den (Code.call (.ref C) ⟨rest,[]⟩)=callAny (.ref C) ⟨rest,[]⟩from by with_unfolding_all rfl];unfold callAny
 try dsimp only
 have hT:(⟨h,g,d,t,os⟩:Shared).TypeIs (.ref C) "type" :=⟨_,z,rfl⟩;have L:=tc_lookup
 repeat (any_goals (first|assumption|(with_reducible refine zD z ?_)|(with_reducible refine wpAny_load' z ?_)|wp_step))
 rw[tc_bind];refine zn ?_;dsimp only[callAny.plainCallee];refine ze (zn ?_);rw[zu (by decide)];refine zn ⟨rfl,codeAny_call_builtin_at (Code.quiet_builtin _ (by decide+kernel)) entry_typeCall (wpAny_check_type_call_sub z (JV KX F T z hi hf aa hz λh' mk=>codeAny_mono (k h' mk) λr s' hr=>?_))⟩
 cases r with
 |error x=>exact hr
 |ok fl=>cases fl<;>exact hr
def Yd{tk:Tok}{z:Str}{t0:Value}{R:Result->Shared->Prop}(F:ExcBaseFacts B newId initId bmB)(T:OwnTail h bmB bm)(hC:h.get? C=some (excClassObj nm q C N bs bm hdct sn sub ab col dd k0 k1 k2 k3 k5 newId))
  (hx:h.get? a=some ⟨.ref C,none,.fields #[t0,.none,.none,.none,.bool false,.none], #[]⟩)
  (hq:∀h',h'=(h.push {cls:=Value.type "tuple",data:=Data.seq #[Value.str z tk]}).update a (Obj.mapFields λx=>x.setIfInBounds 0 (Value.ref h.objs.size))->R (.ok (.ret .none)) ⟨h',g,d,t,os⟩):
  codeAny (model prog w) A (.call (.builtin initId) ⟨[.ref a,.str z tk],[]⟩) R ⟨h,g,d,t,os⟩:=by
 refine codeAny_call_builtin F.init.plain F.initEntry (wpAny_check_init_subT F T hC hx rfl ?_)
 repeat (any_goals (first|assumption|(with_reducible refine zD hx ?_)|wp_step))
 split
 ·exact wpAny_letGo (zn (hq _ rfl))
 ·exact zn (zn (hq _ rfl))
def UG{tk:Tok}{f:Str}{dx:Addr}{mA:Str->Option Value}{v:Value}{vs:Array Value}{Q:Fin->Shared->Prop}(KX:K.In h)(Zf:PySem.W.findIn K (.ref C) f=some none)(hC:h.get? C=some (excClassObj nm q C N bs bm true sn sub ab col dd k0 k1 k2 k3 k5 newId))
  (hx:h.get? a=some o) (hc:o.cls=.ref C) (hd:o.dict=some dx) (z:o.data=.fields vs) (hN:h.Ns1 dx mA) (hv:mA f=some v) (hq:Q (.done (.ret v)) ⟨h,g,d,t,os⟩):
  wpAny (model prog w) A (Builtin.«object.__getattribute__» ⟨[.ref a,.str f tk],[]⟩) Q E ⟨h,g,d,t,os⟩:=by
 have LK:=zZ (M:=model prog w) KX Zf;have hN':h.Ns dx mA:=by obtain⟨o,es,ep,e1,e2,e3,e4,e5⟩:=hN;exact⟨o,es,ep,e1,e2,e3,e5⟩
 repeat (any_goals (first|assumption|(with_reducible refine zD hx ?_;rw[hc])|with_reducible refine LK.at ?_|wp_step))
 rw[z]
 try dsimp only
 unfold instanceDict
 repeat (any_goals (first|assumption|(with_reducible refine zD hx ?_;rw[hc])|with_reducible refine LK.at ?_|wp_step))
 rw[hd];refine zn ?_;unfold Builtin.ObjectAttr.inDict
 try dsimp only
 refine wpAny_nsGet (s:=⟨h,g,d,t,os⟩) hN' ?_;rw[hv]
 repeat (any_goals (first|assumption|wp_step))
def Yb{tk:Tok}{f:Str}{dx:Addr}{mA:Str->Option Value}{v:Value}{vs:Array Value}{R:Result->Shared->Prop}(KX:K.In h)(Zf:PySem.W.findIn K (.ref C) f=some none)(hC:h.get? C=some (excClassObj nm q C N bs bm true sn sub ab col dd k0 k1 k2 k3 k5 newId))(af:bm.contains (.type "BaseException")=true)
  (hx:h.get? a=some o) (hc:o.cls=.ref C) (hd:o.dict=some dx) (ac:o.data=.fields vs) (hN:h.Ns1 dx mA) (hv:mA f=some v) (hq:R (.ok (.ret v)) ⟨h,g,d,t,os⟩):
  codeAny (model prog w) A (.call (.builtin "BaseException.__getattribute__") ⟨[.ref a,.str f tk],[]⟩) R ⟨h,g,d,t,os⟩:=by
 have ad:(Value.ref C::bm).contains (.type "BaseException")=true:=by rw[yu,af,zzv]
 have hk:builtinKind "BaseException.__getattribute__" =some .slot:=by decide+kernel
 have z:splitId "BaseException.__getattribute__" =some ("BaseException", "__getattribute__"):=by decide+kernel
 have aa:=F.args_bexc_ga (.ref a) (.str f tk)
 have ck:∀{M:Model}{A':Around}{E':Value->Shared->Prop}{Q':Unit->Shared->Prop},Q' () ⟨h,g,d,t,os⟩->wpAny M A' (checkBuiltinCall "BaseException.__getattribute__" ⟨[.ref a,.str f tk],[]⟩) Q' E' ⟨h,g,d,t,os⟩:=by
  intro M A' E' Q' ae;simp only[checkBuiltinCall,hk,z];refine ze ?_;unfold isInstance
  repeat (first|(with_reducible refine zD hx ?_;rw[hc])|(with_reducible refine yq hC ?_;rw[ad])|wp_step)
  exact ae
 exact codeAny_call_builtin (by decide+kernel) F.entry_bexc_ga (ck (UG KX Zf hC hx hc hd ac hN hv hq))
def Za{f:Str}{dx:Addr}{mA:Str->Option Value}{v:Value}{vs:Array Value}{Q:Value->Shared->Prop}(KX:K.In h)(Z:OD K C)(Zf:PySem.W.findIn K (.ref C) f=some none)(hC:h.get? C=some (excClassObj nm q C N bs bm true sn sub ab col dd k0 k1 k2 k3 k5 newId))(ad:bm.contains (.type "BaseException")=true)
  (hx:h.get? a=some o) (hc:o.cls=.ref C) (hd:o.dict=some dx) (z:o.data=.fields vs) (hN:h.Ns1 dx mA) (hv:mA f=some v) (ac:∀id,v≠.builtin id) (hq:Q v ⟨h,g,d,t+1,os⟩):
  wpAny (model prog w) A (getAttr (.ref a) f true) Q E ⟨h,g,d,t,os⟩:=by
 have f3:=PySem.F.excAttr_ValueError.ga.bind (.ref a);have aa:(Value.builtin "BaseException.__getattribute__" ==Value.builtin "object.__getattribute__")=false:=by decide+kernel
 have ae:(onTheHeap (Value.ref C) && Value.builtin "BaseException.__getattribute__" ==Value.builtin "object.__getattribute__")=false:=by rw[aa];rfl
 have L1:=zZ (M:=model prog w) KX Z.ga;have L2:=zZ (M:=model prog w) KX Z.gh;unfold getAttr
 repeat (any_goals (first|assumption|(with_reducible refine zD hx ?_;rw[hc])|with_reducible refine L1.at ?_|with_reducible refine L2.at ?_|wp_step))
 refine Yb KX Zf hC ad hx hc hd z hN hv ?_
 repeat (any_goals (first|assumption|wp_step))
 cases v<;>first|exact zn hq|exact absurd rfl (ac _)
def Oz{M:Model}{Q:Unit->Shared->Prop}(T:OwnTail h [.type "ValueError",.type "Exception",.type "BaseException",.type "object"] bm) (hC:h.get? C=some (excClassObj nm q C N bs bm hdct sn sub ab col dd k0 k1 k2 k3 k5 newId))
  (hx:h.get? a=some o) (hc:o.cls=.ref C) (hq:Q () ⟨h,g,d,t,os⟩):wpAny M A (Builtin.ObjectAttr.refuseIfOverridden (.ref a) "__setattr__") Q E ⟨h,g,d,t,os⟩:=by
 have key:∀{tl:List Value},OwnTail h [.type "ValueError",.type "Exception",.type "BaseException",.type "object"] tl->∀(bd:Value->Option Unit×Unit->Sem (ForInStep (Option Unit×Unit)))(R:Option Unit×Unit->Shared->Prop),(∀b r,bd (.ref b) r=pure (ForInStep.yield (none,())))->
   wpAny M A (forIn [.type "ValueError",.type "Exception",.type "BaseException",.type "object"] (none,()) bd) R E ⟨h,g,d,t,os⟩->wpAny M A (forIn tl (none,()) bd) R E ⟨h,g,d,t,os⟩:=by
  intro tl T bd R hb hw
  induction T with
  |base=>exact hw
  |own _ _ _ _ ih=>
   rw[List.forIn_cons,hb];exact ze (zn ih)
 unfold Builtin.ObjectAttr.refuseIfOverridden typeOf
 repeat (any_goals (first|assumption|(with_reducible refine zD hx ?_;rw[hc])|with_reducible refine wpAny_mroOf_exc hC ?_|with_reducible refine ze ?_))
 refine zn (ze (wpAny_mroOf_exc hC (ze ?_)));rw[List.forIn_cons];refine ze (zn ?_)
 try dsimp only
 refine key T _ _ (λb r=>rfl) ?_
 have z:∀n,n= "ValueError" \/n= "Exception" \/n= "BaseException" ->classOwn (.type n) (Str.ofString "__setattr__")=pure none:=by
  rintro n (rfl|rfl|rfl)<;>with_unfolding_all rfl
 have o1:=z "ValueError" (by simp);have o2:=z "Exception" (by simp);have o3:=z "BaseException" (by simp);have o4:=F.own_object_setattr
 repeat (any_goals (first|assumption|wp_step))
def UJ{tk:Tok}{f:Str}{v:Value}{vs:Array Value}{Q:Fin->Shared->Prop}(KX:K.In h)(T:OwnTail h [.type "ValueError",.type "Exception",.type "BaseException",.type "object"] bm) (Zf:PySem.W.findIn K (.ref C) f=some none) (hC:h.get? C=some (excClassObj nm q C N bs bm true sn sub ab col dd k0 k1 k2 k3 k5 newId))
  (hx:h.get? a=some ⟨.ref C,none,.fields vs, #[]⟩) (hq:∀h' ac,(∀b o,b≠a->h.get? b=some o->h'.get? b=some o)->h'.get? a=some ⟨.ref C,some h.objs.size,.fields vs, #[]⟩->h'.Ns1 h.objs.size (λy=>if y=f then some v else none)->Q (.done (.ret .none)) ⟨h',g,d,ac,os⟩):
  wpAny (model prog w) A (Builtin.«object.__setattr__» ⟨[.ref a,.str f tk,v],[]⟩) Q E ⟨h,g,d,t,os⟩:=by
 have LK:=zZ (M:=model prog w) KX Zf;unfold Builtin.«object.__setattr__»;dsimp only[List.isEmpty];rw[zo (by decide)];refine ze (Oz T hC hx rfl ?_);have aa:a<h.objs.size:=zq hx
 have e1:((h.push {cls:=Value.type "dict",data:=Data.dict #[]}).update a λo=>{cls:=o.cls,dict:=some h.objs.size,data:=o.data,slots:=o.slots}).get? h.objs.size=some {cls:=Value.type "dict",data:=Data.dict #[]}:=
  yT _ (zN aa) (yya rfl rfl)
 have e2:((h.push {cls:=Value.type "dict",data:=Data.dict #[]}).update a λo=>{cls:=o.cls,dict:=some h.objs.size,data:=o.data,slots:=o.slots}).get? a=some ⟨.ref C,some h.objs.size,.fields vs, #[]⟩:=
  yi _ (zd _ hx) rfl
 have e3:∀b o,b≠a->h.get? b=some o->((h.push {cls:=Value.type "dict",data:=Data.dict #[]}).update a λo=>{cls:=o.cls,dict:=some h.objs.size,data:=o.data,slots:=o.slots}).get? b=some o:=λb o hb e=>
  yT _ (Ne.symm hb) (zd _ e)
 have n1:((h.push {cls:=Value.type "dict",data:=Data.dict #[]}).update a λo=>{cls:=o.cls,dict:=some h.objs.size,data:=o.data,slots:=o.slots}).Ns1 h.objs.size (λ_=>none):=⟨_, #[],0,e1,rfl,by intro e he;simp at he,by simp[UniqKeys],λ_=>rfl⟩
 repeat (any_goals (first|assumption|(with_reducible refine wpAny_nsSet1 (m:=λ_=>none) ?_ ?_)|(with_reducible refine zD hx ?_)|with_reducible refine LK.at ?_|wp_step))
 intro h' hn sb
 obtain ⟨o',es,ep,g1,g2,z⟩:=hn.count (ns:=[f]) (λy hy=>by
  by_cases e:y=f
  ·rw[e];simp
  ·exact absurd (zo e) hy)
 refine ze (wpAny_lookBehind g1 (by rw[g2];exact pastItsLine_dict (zQ z (by simp))) (zn (hq h' _ (λb o hb e=>?_) ?_ hn)))
 ·rw[sb.2 b (zN (zq e))]
  exact e3 b o hb e
 ·rw[sb.2 a (zN aa)]
  exact e2
def YZ{f:Str}{v:Value}{vs:Array Value}{Q:Unit->Shared->Prop}(KX:K.In h)(T:OwnTail h [.type "ValueError",.type "Exception",.type "BaseException",.type "object"] bm) (Zf:PySem.W.findIn K (.ref C) f=some none) (Zs:PySem.W.findIn K (.ref C) "__setattr__" =some (some (.builtin "object.__setattr__"))) (hC:h.get? C=some (excClassObj nm q C N bs bm true sn sub ab col dd k0 k1 k2 k3 k5 newId))
  (hx:h.get? a=some ⟨.ref C,none,.fields vs, #[]⟩) (hq:∀h' aa,(∀b o,b≠a->h.get? b=some o->h'.get? b=some o)->h'.get? a=some ⟨.ref C,some h.objs.size,.fields vs, #[]⟩->h'.Ns1 h.objs.size (λy=>if y=f then some v else none)->Q () ⟨h',g,d,aa,os⟩):
  wpAny (model prog w) A (setAttr (.ref a) f v) Q E ⟨h,g,d,t,os⟩:=by
 have L1:=zZ (M:=model prog w) KX Zs;have ad:(Value.ref C::bm).contains (.type "object")=true:=by rw[yu,T.hasType (by decide:_=true),zzv]
 have f3:=F.slot_object_setattr.bind (.ref a);unfold setAttr
 repeat (any_goals (first|assumption|(with_reducible refine zD hx ?_)|with_reducible refine L1.at ?_|wp_step))
 have hk:=F.bk_object_setattr;have z:=F.sp_object_setattr;have ac:=F.args_object_setattr_3 (.ref a) (.str f t) v
 have ck:∀{M:Model}{A':Around}{E':Value->Shared->Prop}{Q':Unit->Shared->Prop}{t':Nat},Q' () ⟨h,g,d,t',os⟩->wpAny M A' (checkBuiltinCall "object.__setattr__" ⟨[.ref a,.str f t,v],[]⟩) Q' E' ⟨h,g,d,t',os⟩:=by
  intro M A' E' Q' t' ae;simp only[checkBuiltinCall,hk,z];refine ze ?_;unfold isInstance
  repeat (first|(with_reducible refine zD hx ?_)|(with_reducible refine yq hC ?_;rw[ad])|wp_step)
  exact ae
 refine codeAny_call_builtin (by decide+kernel) F.entry_object_setattr (ck (UJ KX T Zf hC hx λh' aa q1 q2 q3=>?_));exact zn (zn (hq h' aa q1 q2 q3))
def Oe{M:Model}{env:Env}{s:Shared}{x:Sem Value}{Q:Flow->Shared->Prop}(hB:bm.contains (.type "BaseException")=true) (hh:A.handled=none)
  (hx:wpAny M A x (λv s₁=>∃e oe vs,v=.ref e/\s₁.heap.get? C=some (excClassObj nm q C N bs bm hdct sn sub ab col dd k0 k1 k2 k3 k5 newId)/\s₁.heap.get? e=some oe/\oe.cls=.ref C/\oe.data=.fields vs/\vs[1]? =some .none/\E (.ref e) s₁) E s):
  wpAny M A (raiseStmt env (some x) none) Q E s:=by
 unfold raiseStmt;refine ze (zR hx (λv s₁ hv=>?_) λ_ _ z=>z);obtain⟨e,oe,vs,rfl,gC,ge,gc,gd,g1,hE⟩:=hv;obtain⟨h,g,d,t,os⟩:=s₁;have aa:(Value.ref C::bm).contains (.type "BaseException")=true:=by rw[yu,hB,zzv]
 repeat (any_goals (first|assumption|(with_reducible refine zD ge ?_;try rw[gc])|(with_reducible refine zD gC ?_)|(with_reducible refine yq gC ?_;rw[aa])|wp_step))
 rw[gd];refine zn ?_
 try dsimp only
 rw[g1];refine zn ?_
 try dsimp only
 rw[zo (by decide)];exact zn (wpAny_raiseNew_none hh hE)
end
end L2
namespace L2
open PySem PySem.Spec PyProof.Rows
structure mX(K:Fg_)(C fI:Addr):Prop where
 ex:∃(nm qn:Str)(N:Addr)(bs bm:List Value)(sn:List Str)(sub:List Value)(ab:Bool)(col:Option Bool)(dd:Option Addr)(k0 k1 k2 k3 k5:Option Value),K.lookup C=some (excClassObj nm qn C N bs bm true sn sub ab col dd k0 k1 k2 k3 k5 "ValueError.__new__")/\PySem.W.tailIn K [.type "ValueError",.type "Exception",.type "BaseException",.type "object"] bm=true
 ini:PySem.W.findIn K (.ref C) "__init__" =some (some (.ref fI))
 fn:PySem.W.isFn K (.ref fI)=true
 sa:PySem.W.findIn K (.ref C) "__setattr__" =some (some (.builtin "object.__setattr__"))
 kp:PySem.W.keepIn K (.ref C)=true
def mX.obj{K:Fg_}{C fI:Addr}{h:Heap}(c:mX K C fI)(X:K.In h):∃(nm q:Str)(N:Addr)(bs bm:List Value)(sn:List Str)(sub:List Value)(ab:Bool)(col:Option Bool)(dd:Option Addr)(k0 k1 k2 k3 k5:Option Value),
  h.get? C=some (excClassObj nm q C N bs bm true sn sub ab col dd k0 k1 k2 k3 k5 "ValueError.__new__")/\OwnTail h [.type "ValueError",.type "Exception",.type "BaseException",.type "object"] bm:=by
 obtain⟨nm,q,N,bs,bm,sn,sub,ab,col,dd,k0,k1,k2,k3,k5,z,e2⟩:=c.ex;exact⟨nm,q,N,bs,bm,sn,sub,ab,col,dd,k0,k1,k2,k3,k5,X _ _ z,PySem.W.tail_of_in X e2⟩
def mX.fun_{K:Fg_}{C fI:Addr}{h:Heap}(c:mX K C fI)(X:K.In h):∃o,h.get? fI=some o/\o.cls=.type "function" :=by
 have e:PySem.W.typeIn K (.ref fI)=some (.type "function"):=beq_iff_eq.mp c.fn;unfold PySem.W.typeIn at e;dsimp only at e
 cases q:List.lookup fI K with
 |none=>rw[q]at e;cases e
 |some o=>rw[q]at e;exact⟨o,X _ _ q,zf e⟩
noncomputable def Hh(C e:Addr):HO:=.ext λh=>∃t0,h.get? e=some ⟨.ref C,none,.fields #[t0,.none,.none,.none,.bool false,.none], #[]⟩
noncomputable def xq(C e d:Addr):HO:=.ext λh=>∃t0,h.get? e=some ⟨.ref C,some d,.fields #[t0,.none,.none,.none,.bool false,.none], #[]⟩
noncomputable def Fp(C e d:Addr):HO:=.ext λh=>∃o vs,h.get? e=some o/\o.cls=.ref C/\o.dict=some d/\o.data=.fields vs
noncomputable def del(H:Hp)(a:Addr):Hp:=λb=>if b=a then none else H b
def uJ{H:Hp}{a:Addr}:del H a a=none:=by unfold del;rw[zu rfl]
def vP{H:Hp}{a b:Addr}(h:b≠a):del H a b=H b:=by unfold del;rw[zo h]
section
variable{X:Cx}{CX:CXT}{k:Nat}{f C:Addr}{fd:FuncData}{ps ks:List Str}{sp:Sp}{dvs:List V}{ds:List Value}{E:XK}{x m fn:Str}{p np cpos pos apos:Pos}{e o:Expr}{es:List Expr}{ta tv:TE}{t tk:TA}
def Inv.drop{pins:List (Addr×Obj)}{σ:St}{H:Hp}{s:Shared}{a:Addr}{φ:Heap->Prop}(I:Inv X pins σ H s)(hH:H a=some (.ext φ)):Inv X pins σ (del H a) s:=by
 have nt:∀b xs,H b=some (.tup xs)->b≠a:=λb xs n z=>by rw[z,hH]at n;cases n
 have nw:∀b y,H b=some (.own y)->b≠a:=λb y n z=>by rw[z,hH]at n;cases n
 have aa:∀b ps,H b=some (.tbl ps)->b≠a:=λb y n z=>by rw[z,hH]at n;cases n
 have nf:∀b o u,H b=some (.frz o u)->b≠a:=λb o u n z=>by rw[z,hH]at n;cases n
 have dn:∀b,H b=none->del H a b=none:=λb n=>by unfold del;split;rfl;exact n
 refine⟨I.ok,I.os,I.bare,⟨I.base.keep,I.base.slot,λb ob q n hx=>dn b (I.base.free b ob q n hx),I.base.there,λb xs q=>?_,λb ob u q=>?_,λb ps q=>?_⟩,I.loc,I.cell,dn _ I.free,λx c e=>dn _ (I.freeC x c e),λp hp=>?_,λb u e=>?_,I.len⟩
 ·have h:=I.base.tups b xs q;rw[vP (nt b xs h)];exact h
 ·have h:=I.base.frzs b ob u q;rw[vP (nf b ob u h)];exact h
 ·obtain⟨m,h⟩:=I.base.tbls b ps q;exact⟨m,by rw[vP (aa b _ h)];exact h⟩
 ·obtain⟨p1,p2,p3⟩:=I.pin p hp;exact⟨p1,dn _ p2,p3⟩
 ·have hb:b≠a:=λz=>by rw[z,uJ]at e;cases e
  rw[vP hb]at e;exact(I.hok b u e).stay (λ_ _ _ q=>q) (λc q=>by rw[vP (nw c _ q)];exact q) λc xs q=>by rw[vP (nt c xs q)];exact q
def Inv.track{pins:List (Addr×Obj)}{σ:St}{H:Hp}{s:Shared}{a:Addr}{u:HO}(I:Inv X pins σ H s)(hn:H a=none)(h0:X.s₀.heap.objs.size<=a)(hL:a≠X.env.locals)(hc:∀x c,X.env.cells.lookup x=some c->c≠a)(hp:∀p∈X.pn++pins,p.1≠a)(ok:iH X.prog X.w (upd H a u) s.heap a u):
  Inv X pins σ (upd H a u) s:=by
 have ns:∀b v,H b=some v->b≠a:=λb v q z=>by rw[z,hn]at q;cases q
 refine⟨I.ok,I.os,I.bare,⟨I.base.keep,I.base.slot,λb ob q n hx=>?_,I.base.there,λb xs q=>?_,λb ob v q=>?_,λb ps q=>?_⟩,I.loc,I.cell,?_,λx c e=>?_,λp aa=>?_,λb v e=>?_,I.len⟩
 ·rw[fY (zN (zK (zq q) h0))];exact I.base.free b ob q n hx
 ·have h:=I.base.tups b xs q;rw[fY (ns _ _ h)];exact h
 ·have h:=I.base.frzs b ob v q;rw[fY (ns _ _ h)];exact h
 ·obtain⟨m,h⟩:=I.base.tbls b ps q;exact⟨m,by rw[fY (ns _ _ h)];exact h⟩
 ·rw[fY (Ne.symm hL)];exact I.free
 ·rw[fY (hc x c e)];exact I.freeC x c e
 ·obtain⟨p1,p2,p3⟩:=I.pin p aa;exact⟨p1,by rw[fY (hp p aa)];exact p2,p3⟩
 ·by_cases hb:b=a
  ·subst hb;rw[fK]at e;cases e;exact ok
  ·rw[fY hb]at e
   exact(I.hok b v e).stay (λ_ _ _ q=>q) (λc q=>by rw[fY (ns _ _ q)];exact q) λc xs q=>by rw[fY (ns _ _ q)];exact q
def RL{pins:List (Addr×Obj)}{σ:St}{H:Hp}{s:Shared}{Q:Addr->Hp->Prop}{us:List Value}{vs:List V}(M:mX X.K C f)(F:jn X.prog X.w X.K X.mg X.base CX0 k f fd ps sp)(hr:mH (k+1) X.A)(hb:Binds X.K fd ps ds)(hd:Vals dvs ds)
  (I:Inv X pins σ H s) (r:Vals vs us) (hz:vs.length<=sizeLine)
  (h:∀e,H e=none->sp (.ref e::(vs++dvs)) (upd H e (Hh C e)) (λv H2=>v=.non/\Q e H2) E0):
  wpAny (model X.prog X.w) X.A (call (.ref C) us) (λu s'=>∃e H',u=.ref e/\X.s₀.heap.objs.size<=e/\Inv X pins σ H' s'/\Q e H') X.xe s:=by
 obtain⟨nm,qn,N,bs,bm,sn,sub,ab,col,dd,k0,k1,k2,k3,k5,g1,g2⟩:=M.obj I.kIn;obtain⟨oI,g3,g4⟩:=M.fun_ I.kIn;have hsz:=I.sz;have aa:=I.kIn;have hq:=h (s.heap.objs.size+1) (I.hok.fresh (zzn _));obtain⟨h0,g,d,tt,os⟩:=s;refine YS (K:=X.K) aa yo g2 g1 M.ini g3 g4 (by rw[<-r.length];exact hz) λh' mk=>?_;obtain⟨t0,q1,q2,q3⟩:=mk.there;have I2:Inv X pins σ (upd H (h0.objs.size+1) (Hh C (h0.objs.size+1))) ⟨h',g,d,tt,os⟩:=I.laid (t':=tt) mk.keeps (zzn _) (show iH _ _ _ _ _ (Hh C _)from⟨⟨_,q1⟩,⟨_,q1⟩,λh1 h2 ⟨t1,z⟩ kk=>⟨t1,kk _ z⟩⟩);have r2:Vals (V.ref (h0.objs.size+1)::(vs++dvs)) (Value.ref (h0.objs.size+1)::(us++ds)):=.cons rfl (r.append hd)
 have hl:(Value.ref (h0.objs.size+1)::us++ds).length=ps.length:=by
  have e:=r2.length;rw[F.len _ _ _ _ hq]at e;exact e.symm
 refine codeAny_mono (F.run _ X.stack _ _ ⟨Value.ref (h0.objs.size+1)::us,[]⟩ (Value.ref (h0.objs.size+1)::(us++ds)) _ _ E0 (hr.make C us []) (I2.env0.make C us []) (hb _ (Value.ref (h0.objs.size+1)::us) I2.kIn hl) r2 hq) λr s' q=>?_
 cases r with
 |error e=>exact False.elim q
 |ok fl=>
  cases fl with
  |ret u=>
   obtain⟨v,H',I3,rv,ev,q3⟩:=I2.after q;subst ev;exact⟨rv,⟨_,H',rfl,zQ hsz (zzn _),I3,q3⟩⟩
  |next=>exact False.elim q
  |brk=>exact False.elim q
  |cont=>exact False.elim q
noncomputable def RP(X:Cx)(E:XK):Prop:=∀(pins:List (Addr×Obj))(σ:St)(H:Hp)(s:Shared)(e C d:Addr)(t0:Value),Inv X pins σ H s->s.heap.get? e=some ⟨.ref C,some d,.fields #[t0,.none,.none,.none,.bool false,.none], #[]⟩->H e=none->X.s₀.heap.get? e=none->E (.ref C) (some d) H->X.xe (.ref e) s
def EY{P:Program}{w:World}{K:Fg_}{mg:Str->Option Value}{base:Heap}{N:List Str}{qual:Str}{scope:Scope}{f:Addr}{cd:Value}{A:Around}{outer:List Env}{s₀:Shared}{H₀:Hp}{E:XK}:RP (uD (CX1 P w) P w K mg base N qual scope f cd A outer s₀ H₀ E) E:=
 λpins σ H s e C d t0 I he q hs hE=>Et I he rfl rfl rfl rfl q hs hE (λz=>nomatch z)
noncomputable def Ft(C:Addr)(fn:Str):Sp:=λvs H Q _=>∃(e:Addr)(n:Int),vs=[.ref e,.int n]/\n.natAbs<2^300/\H e=some (Hh C e)/\∀d,H d=none->d≠e->Q .non (upd (upd H e (xq C e d)) d (.xd [(fn,.int n)]))
noncomputable def Qi(C:Addr)(fn:Str)(E:XK)(t:TA):TS:=λ_ σ H=>t σ H λvs H1=>∃n:Int,vs=[.int n]/\n.natAbs<2^300/\∀d,H1 d=none->E (.ref C) (some d) (upd H1 d (.xd [(fn,.int n)]))
def JB(hR:RP X E)(hc:X.calm=true)(M:mX X.K C f)(F:jn X.prog X.w X.K X.mg X.base CX0 k f fd ps (Ft C fn))(hr:mH (k+1) X.A)(hg:Gl X x)(hm:X.mg x=some (.ref C))(hb:Binds X.K fd ps [])
  (ha:PA X (e::es) t) (ac:(x==("__debug__" :Str))=false:=by decide) (he:starEach (e::es) X.env=(false,eval e X.env)::starEach es X.env:=by rfl) (hpl:(backTo cpos (starEach es X.env)).any (·.1)=false:=by rfl):
  PS X (.Raise (some (.Call (.Name x np) (e::es) [] cpos)) none pos) (Qi C fn E t):=by
 intro pins s σ H D I h;rw[arm_exec_Raise];obtain⟨nm,qn,N,bs,bm,sn,sub,ab,col,dd,k0,k1,k2,k3,k5,g1,g2⟩:=M.obj I.ok.mod.kin;refine ze (yF (Oe (C:=C) (nm:=nm) (q:=qn) (N:=N) (bs:=bs) (bm:=bm) (hdct:=true) (sn:=sn) (sub:=sub) (ab:=ab) (col:=col) (dd:=dd) (k0:=k0) (k1:=k1) (k2:=k2) (k3:=k3) (k5:=k5) (newId:= "ValueError.__new__") (g2.hasType (by rfl)) (I.ok.hd hc) ?_));refine ze (ym (lQ I hg hm ?_ ac));refine yH (h₀:=X.base) I.ok.mod.kin M.kp (thn (ha cpos pins s σ H _ I h) λus s1 ⟨vs,H1,I1,r,n,ev,hn,q⟩=>⟨I1.kIn,?_⟩) he hpl;refine thn (RL (dvs:=[]) (ds:=[]) (Q:=λe H2=>∃d,H2 e=some (xq C e d)/\E (.ref C) (some d) (del H2 e)) M F hr hb .nil I1 r (by rw[ev,zc];show 1<=_;omega) λe he=>?_) λu s2 ⟨e,H2,eu,hsz,I2,d,q2,q3⟩=>?_
 ·subst ev
  refine⟨e,n,rfl,hn,fK,λd hd aa=>⟨rfl,d,?_,?_⟩⟩
  ·rw[fY (Ne.symm aa),fK]
  ·have hd':H1 d=none:=by rw[fY aa]at hd;exact hd
   have e1:del (upd (upd (upd H1 e (Hh C e)) e (xq C e d)) d (.xd [(fn,.int n)])) e=upd H1 d (.xd [(fn,.int n)]):=by
    funext b;by_cases hb:b=e
    ·subst hb
     rw[uJ,fY (Ne.symm aa),he]
    ·rw[vP hb]
     by_cases z:b=d
     ·subst z;rw[fK,fK]
     ·rw[fY z,fY z,fY hb,fY hb]
   rw[e1];exact q d hd'
 ·subst eu
  refine ze (yF (zn ?_));obtain⟨⟨t0,gx⟩,_,_⟩:=(show iH X.prog X.w H2 s2.heap e (xq C e d)from I2.hok e _ q2);exact⟨e,_,_,rfl,I2.bk _ _ g1,gx,rfl,rfl,rfl,hR pins σ (del H2 e) s2 e C d t0 (I2.drop q2) gx uJ (yJ hsz) q3⟩
structure aaY(K:Fg_)(B:Addr):Prop where
 ga:PySem.W.specialIn K (.ref B) "__getattribute__" =some (some (.builtin "type.__getattribute__"))
 rd:PySem.W.readsIn K B (.type "type")=true
 fi:PySem.W.findCls K (.ref B) (.type "type") "__init__" =some (.val (.builtin "ValueError.__init__"))
noncomputable def Xj(K:Fg_)(t:TA):TE:=λσ H Q=>t σ H λvs H1=>∃e C fI z,vs=[.ref e,.str z]/\H1 e=some (Hh C e)/\mX K C fI/\Q .non H1
def Yx{B:Addr}{pl:Sem Bool}(Z:aaY X.K B)(hg:Gl X x)(hm:X.mg x=some (.ref B))
  (ha:PA X (e::es) t) (aa:(x==("__debug__" :Str))=false:=by decide) (he:starEach (e::es) X.env=(false,eval e X.env)::starEach es X.env:=by rfl) (hpl:(backTo pos (starEach es X.env)).any (·.1)=false:=by rfl)
  (ht:eval (.Call (.Attribute (.Name x p) "__init__" apos) (e::es) [] pos) X.env=(do
   let ov<-eval (.Name x p) X.env
   standAt apos.atName
   let(f,first)<-holding [ov] (getMethod ov "__init__" pl)
   callWith pos f first (backTo pos (starEach (e::es) X.env)) (backToKw pos (keywordEach [] X.env))):=by rfl):
  PE X (.Call (.Attribute (.Name x p) "__init__" apos) (e::es) [] pos) (Xj X.K t):=by
 intro pins s σ H Q I h;refine zzA (pl:=pl) (lQ I hg hm ?_ aa) ht;refine PySem.W.method_cls I.kIn Z.ga (PySem.W.cls_value I.kIn Z.rd Z.fi rfl ?_);have I':Inv X pins σ H {s with toks:=s.toks+1}:=I.tok _;refine PyProof.Rows.callWith_builtin1 (thn (ha pos pins _ σ H _ I' h) λus s1 ⟨vs,H1,I1,r,ea,C,fI,z,ev,hH,M,q⟩=>?_) he hpl;subst ev;obtain⟨u1,u2,rfl,r1,r2⟩:=vals2 r;cases r1;obtain⟨tk,rfl⟩:=r2;obtain⟨nm,qn,N,bs,bm,sn,sub,ab,col,dd,k0,k1,k2,k3,k5,g1,g2⟩:=M.obj I1.kIn;obtain⟨⟨t0,gx⟩,_,_⟩:=(show iH X.prog X.w H1 s1.heap ea (Hh C ea)from I1.hok ea _ hH);have ac:=zq gx;obtain⟨h0,g,d,tt,os⟩:=s1;refine zz6 (Yd (z:=z) (tk:=tk) yo g2 g1 gx λh' eh=>?_)
 have e1:h'.get? ea=some ⟨.ref C,none,.fields #[.ref h0.objs.size,.none,.none,.none,.bool false,.none], #[]⟩:=by
  rw[eh];exact yi (o:=⟨.ref C,none,.fields #[t0,.none,.none,.none,.bool false,.none], #[]⟩) _ (zd _ gx) rfl
 have e2:∀b u,b≠ea->h0.get? b=some u->h'.get? b=some u:=λb u hb e=>by
  rw[eh];exact yT _ (Ne.symm hb) (zd _ e)
 have I2:Inv X pins σ (upd H1 ea (Hh C ea)) ⟨h',g,d,tt,os⟩:=I1.write (t':=tt) (x:=ea) (e:=ea) (by rw[hH];exact True.intro) (.inl rfl) e2 ⟨_,e1⟩ (show iH _ _ _ _ _ (Hh C ea)from⟨⟨_,e1⟩,⟨_,e1⟩,λh1 h2 ⟨t1,z⟩ kk=>⟨t1,kk _ z⟩⟩)
 have eH:upd H1 ea (Hh C ea)=H1:=by
  funext b;by_cases hb:b=ea
  ·subst hb;rw[fK,hH]
  ·rw[fY hb]
 rw[eH]at I2;exact⟨.non,H1,I2,rfl,q⟩
noncomputable def Xd(K:Fg_)(ta tv:TE)(f:Str):TS:=λD σ H=>tv σ H λy H1=>ta σ H1 λx H2=>∃e C fI,x=.ref e/\H2 e=some (Hh C e)/\mX K C fI/\gk K C f/\∀d,H2 d=none->d≠e->D.nx σ (upd (upd H2 e (xq C e d)) d (.xd [(f,y)]))
def WW{pos':Pos}{value:Expr}(ha:PE X o ta)(hv:PE X value tv)(hs:swapsWith value (some (.Attribute o fn pos')) pos.line X.env=pure false):PS X (.Assign [.Attribute o fn pos'] value pos) (Xd X.K ta tv fn):=by
 intro pins s σ H D I h;refine plainObj_wpAny_Assign_Attribute (thn (hv pins s σ H _ I h) λu s1 ⟨y,H1,I1,ry,q⟩=>thn (ha pins s1 σ H1 _ I1 q) λov s2 ⟨x,H2,I2,rx,a,C,fI,ex,hH,M,n,q2⟩=>?_) hs;subst ex;obtain rfl:ov=Value.ref a:=rx;obtain⟨nm,qn,N,bs,bm,sn,sub,ab,col,dd,k0,k1,k2,k3,k5,g1,g2⟩:=M.obj I2.kIn;obtain⟨⟨t0,gx⟩,_,_⟩:=(show iH X.prog X.w H2 s2.heap a (Hh C a)from I2.hok a _ hH);have ad:=I2.kIn;have aa:=zq gx;have af:H2 s2.heap.objs.size=none:=I2.hok.fresh (zj _);obtain⟨h0,g,d,tt,os⟩:=s2;have aa:a<h0.objs.size:=aa;refine YZ (K:=X.K) ad g2 n M.sa g1 gx λh' ac k1 k2 k3=>?_;have I3:Inv X pins σ (upd H2 a (xq C a h0.objs.size)) ⟨h',g,d,ac,os⟩:=I2.write (t':=ac) (x:=a) (e:=a) (by rw[hH];exact True.intro) (.inl rfl) k1 ⟨_,k2⟩ (show iH _ _ _ _ _ (xq C a _)from⟨⟨_,k2⟩,⟨_,k2⟩,λh1 h2 ⟨t1,z⟩ kk=>⟨t1,kk _ z⟩⟩);have ae:h0.objs.size≠a:=Ne.symm (zN aa);refine⟨σ,_,?_,q2 h0.objs.size af ae⟩;have ag:X.env.locals<h0.objs.size:=I2.lt;refine I3.track (by rw[fY ae];exact af) I2.sz (Ne.symm (zN ag)) (λx c e=>?_) (λp hp=>?_) (show iH _ _ _ _ _ (.xd [(fn,y)])from⟨_,k3,λf'=>?_⟩)
 ·obtain⟨v,ob,z,_⟩:=I2.cell x c e
  exact zN (zq z)
 ·exact zN (zq (I2.pin p hp).1)
 ·by_cases hf:f'=fn
  ·subst hf
   rw[zu rfl,show List.lookup f' [(f',y)]=some y by simp[List.lookup]];exact ry
  ·rw[zo hf,show List.lookup f' [(fn,y)]=none by simp[List.lookup,beq_eq_false_iff_ne.mpr hf]]
   exact True.intro
noncomputable def Yt(K:Fg_)(ta:TE)(f:Str):TE:=λσ H Q=>ta σ H λx H1=>∃e C fI d fs n,x=.ref e/\(H1 e=some (xq C e d)\/H1 e=some (Fp C e d))/\mX K C fI/\OD K C/\gk K C f/\H1 d=some (.xd fs)/\fs.lookup f=some (.int n)/\Q (.int n) H1
def Yv(he:PE X e ta)(hb:attributeBase e fn X.env (eval e X.env)=eval e X.env):PE X (.Attribute e fn pos) (Yt X.K ta fn):=by
 intro pins s σ H Q I h;refine Tf hb (thn (he pins s σ H _ I h) λu s1 ⟨x,H1,I1,rx,a,C,fI,d,fs,n,ex,hH,M,Z,hn,hd,hl,q⟩=>?_);subst ex;obtain rfl:u=Value.ref a:=rx;obtain⟨nm,qn,N,bs,bm,sn,sub,ab,col,dd,k0,k1,k2,k3,k5,g1,g2⟩:=M.obj I1.kIn
 have ac:∃o vs,s1.heap.get? a=some o/\o.cls=.ref C/\o.dict=some d/\o.data=.fields vs:=by
  rcases hH with hH|hH
  ·obtain⟨⟨t0,gx⟩,_,_⟩:=(show iH X.prog X.w H1 s1.heap a (xq C a d)from I1.hok a _ hH)
   exact⟨_,_,gx,rfl,rfl,rfl⟩
  ·obtain⟨gx,_,_⟩:=(show iH X.prog X.w H1 s1.heap a (Fp C a d)from I1.hok a _ hH)
   exact gx
 obtain⟨ob,vs,o1,o2,o3,o4⟩:=ac;obtain⟨mA,hN,hr⟩:=(show iH X.prog X.w H1 s1.heap d (.xd fs)from I1.hok d _ hd);obtain⟨v,hv,rv⟩:=Hg.some_of (v:=.int n) (o:=mA fn) (by rw[<-hl];exact hr fn);obtain⟨tk,rfl⟩:=rv;have aa:=I1.kIn;have I2:=I1.tok (s1.toks+1);obtain⟨h0,g,dr,tt,os⟩:=s1;exact Za (K:=X.K) aa Z hn g1 (g2.hasType (by rfl)) o1 o2 o3 o4 hN hv (λid z=>by cases z) ⟨.int n,H1,I2,⟨_,rfl⟩,q⟩
def Inv.landedF{pins:List (Addr×Obj)}{σ:St}{H1 H':Hp}{s1 s':Shared}{ea C d:Addr}{a0:Value}{B h6:Heap}(I:Inv X pins σ H1 s1)(os:s'.os=s1.os)(bare:AllBare s'.gens)(un:Un (frs X.stack) [] H1 H' s1.heap s'.heap)(hok:HOk X.prog X.w H' B)
  (fl:Heap.FlyingW B X.stack ea (.ref C) a0 s'.heap) (k1:∀b o,s1.heap.get? b=some o->H1 b=none->b∉frs X.stack->B.get? b=some o) (k2:∀b o,s1.heap.get? b=some o->b∉frs X.stack->∃o',B.get? b=some o') (hn:H' ea=none)
  (aa:Heap.FlyingW B X.stack ea (.ref C) a0 h6) (ae:s'.heap.UpToSlots h6) (ad:xO h6 ea (some d)):Inv X pins σ (upd H' ea (Fp C ea d)) {s' with heap:=h6}:=by
 have st:∀b o,B.get? b=some o->h6.get? b=some o:=aa.1
 have ab:∀b o,s1.heap.get? b=some o->b≠ea:=λb o q z=>by
  subst z;by_cases hb:b∈frs X.stack
  ·obtain⟨_,o2,q2,nd⟩:=aa.2.2.1.mem hb
   obtain⟨oe,vs,q3,_,dd,_⟩:=aa.first
   rw[q2]at q3;cases q3;exact nd vs dd
  ·obtain⟨o',q'⟩:=k2 b o q hb
   rw[aa.2.1]at q';cases q'
 have q3:∀b o,s1.heap.get? b=some o->b∈frs X.stack->∃o1,s'.heap.get? b=some o1/\(H1 b=none->∃sl,o1={o with slots:=sl})/\∃sl,h6.get? b=some {o1 with slots:=sl}:=λb o q hb=>by
  obtain⟨_,o1,z1,nd⟩:=fl.2.2.1.mem hb;refine⟨o1,z1,λn=>?_,ae b o1 z1 nd⟩;obtain⟨ac,y2⟩:=un.slot b _ q n hb (by simp);rw[z1]at y2;exact⟨ac,zf y2⟩
 refine I.call' (ch:=[]) (s':={s' with heap:=h6}) os ⟨λb o q n hb _=>st b o (k1 b o q n hb),λb o q n hb _=>?_,λb o q n _=>?_,λb o q _=>?_,λb xs z=>?_,λb o xs z=>?_,λb ps z=>?_⟩ (λb u q=>?_) bare (λb hb=>absurd hb (by simp))
 ·obtain⟨o1,_,e1,sl,e2⟩:=q3 b o q hb
  obtain⟨af,rfl⟩:=e1 n;exact⟨sl,e2⟩
 ·rw[fY (ab b o q)]
  exact un.free b o q n (by simp)
 ·by_cases hb:b∈frs X.stack
  ·obtain⟨o1,_,_,sl,e2⟩:=q3 b o q hb
   exact⟨_,e2⟩
  ·obtain⟨o',q'⟩:=k2 b o q hb
   exact⟨o',st b o' q'⟩
 ·have z':=un.tups b xs z
  rw[fY (gH z' hn)];exact z'
 ·have z':=un.frzs b o xs z
  rw[fY (gH z' hn)];exact z'
 ·obtain⟨mo,z'⟩:=un.tbls b ps z
  exact⟨mo,by rw[fY (gH z' hn)];exact z'⟩
 ·by_cases hb:b=ea
  ·subst hb
   rw[fK]at q;cases q;obtain⟨oe,vs,q3,cc,dd,_⟩:=aa.first
   obtain⟨o2,q4,q5,_⟩:=ad;rw[q3]at q4;cases q4;exact⟨⟨oe,vs,q3,cc,q5,dd⟩,⟨oe,q3⟩,λh1 h2 ⟨o,v2,e1,e2⟩ k=>⟨o,v2,k o e1,e2⟩⟩
  ·rw[fY hb]at q
   exact(hok b u q).stay (λc v _ z=>st c v z) (λc z=>by rw[fY (gH z hn)];exact z) λc xs z=>by rw[fY (gH z hn)];exact z
noncomputable def aaq(te:TX)(C:Addr)(i:Nat)(ts:TS):TS:=λD σ H=>te σ H (λ_ H1=>D.nx σ H1) λcls dd H1=>cls=.ref C/\∃d,dd=some d/\∀ea,H1 ea=none->
 ts {nx:=λσ2 H2=>D.nx (σ2.set i none) H2,rt:=D.rt,bk:=λσ2 H2=>D.bk (σ2.set i none) H2,ct:=λσ2 H2=>D.ct (σ2.set i none) H2} (σ.set i (some (.ref ea))) (upd H1 ea (Fp C ea d))
def Ye{fI:Addr}{te:TX}{i:Nat}{n:Str}{ts:TS}{b₀:Stmt}{ad:List Stmt}{np af hpos pos:Pos}(h:PEx X (CX1 X.prog X.w) e te)(c:mX X.K C fI)(hg:Gl X x)(hm:X.mg x=some (.ref C))(au:X.env.frame=some X.env.locals)(ae:X.stack=X.env::X.outer)
  (hN:X.N.Nodup) (hi:X.N[i]? =some n) (hk:X.env.kindOf n=some .local) (as:∀ea,PSs (X.inSuite ea) (b₀::ad) ts) (hd:(x==("__debug__" :Str))=false:=by decide)
  (hs:swapsWith e none af.line X.env=pure false:=by rfl):
  PS X (.Try [.Expr e af] [.ExceptHandler (some (.Name x np)) (some n) (b₀::ad) hpos] [] [] pos) (aaq te C i ts):=by
 intro pins s σ H D I hw;refine wpAny_Try_except (zze (wpAny_Expr_any (zR (h pins s σ H _ _ I hw) (λv s1 ⟨y,H1,I1,r1,q1⟩=>zzj (zzj ⟨σ,H1,I1,q1⟩)) λev s' hx=>?_) I.quiet hs));obtain⟨H1,s1,I1,ea,C',a0,H',B,dd,rfl,os,bare,un,hok,fl,k1,k2,hn,ar,hC,d,av,hE⟩:=hx;subst av;have aw:C'=C:=Value.ref.inj hC;subst aw;have fl':=fl;rw[ae]at fl';have am:X.A.frames=some (X.env::X.outer):=by rw[<-ae];exact I.ok.frames
 refine zR (jN (KD.noteFrame _ _) (wpAny_looks_onW (Q:=λ_ s2=>∃h4,s2={s' with heap:=h4}/\Heap.HeldW B (X.env::X.outer) ea (.ref C') a0 X.env.locals h4/\Heap.UpToSlots s'.heap h4) am au fl' λh4 aa aj=>⟨h4,rfl,aa,aj⟩)) (λ_ s2 z=>?_) (λ_ _ z=>z);obtain⟨⟨h4,rfl,aa,aj⟩,an⟩:=z;refine zR (jN (KD.setFlight _ _) (wpAny_landsW (Q:=λ_ s2=>∃h5,s2={s' with heap:=h5}/\Heap.FlyingW B (X.env::X.outer) ea (.ref C') a0 h5/\Heap.UpToSlots h4 h5) aa λh5 ac ai=>⟨h5,rfl,ac,ai⟩)) (λ_ s2 z=>?_) (λ_ _ z=>z);obtain⟨⟨h5,rfl,ac,ai⟩,ap⟩:=z;have ak:xO h5 ea (some d):=(ar.dk an).dk ap;have up5':=aj.trans ai;have I5:Inv X pins σ (upd H' ea (Fp C' ea d)) {s' with heap:=h5}:=I1.landedF os bare un hok fl k1 k2 hn (by rw[ae];exact ac) up5' ak;obtain⟨nm,qn,N,bs,bm,sn,sub,ab,col,ax,g0,bb,ba,az,ay,gC,gT⟩:=c.obj I5.kIn;obtain⟨ob,aq,al⟩:=ac.there;refine wpAny_handleBy_cons (codeAny_handlers_test (lQ (X:=X.inSuite ea) (I5.inSuite ea) hg hm ?_ hd)) (by intro q;cases q);refine zz9 gC aq al (gT.hasType rfl) (codeAny_handlers_suite_as ?_);refine zR (jN (KD.setFlight _ _) (lands_againW (Q:=λ_ s2=>∃h6,s2={s' with heap:=h6}/\Heap.FlyingW B (X.env::X.outer) ea (.ref C') a0 h6/\Heap.UpToSlots h5 h6) ac λh6 ag ah=>⟨h6,rfl,ag,ah⟩)) (λ_ s2 z=>?_) (λ_ _ z=>z);obtain⟨⟨h6,rfl,ag,ah⟩,ao⟩:=z;have I6:Inv X pins σ (upd H' ea (Fp C' ea d)) {s' with heap:=h6}:=I1.landedF os bare un hok fl k1 k2 hn (by rw[ae];exact ag) (up5'.trans ah) (ak.dk ao);refine Gu (X:=X) I6 hN hi (.inl hk) (v:=.ref ea) rfl (λs7 I7=>?_) (.inr hk);refine zR (as ea pins s7 _ _ _ (I7.inSuite ea) (hE ea hn)) (λf s8 hf=>?_) λ_ _ z=>False.elim z
 cases f with
 |next=>
  obtain⟨σ8,H8,I8,q8⟩:=hf;exact(I8.outSuite I.ok).gone hN hi hk λs9 I9=>⟨_,H8,I9,q8⟩
 |brk=>
  obtain⟨σ8,H8,I8,q8⟩:=hf;exact(I8.outSuite I.ok).gone hN hi hk λs9 I9=>⟨_,H8,I9,q8⟩
 |cont=>
  obtain⟨σ8,H8,I8,q8⟩:=hf;exact(I8.outSuite I.ok).gone hN hi hk λs9 I9=>⟨_,H8,I9,q8⟩
 |ret u=>
  obtain⟨v8,σ8,H8,I8,r8,q8⟩:=hf;exact(I8.outSuite I.ok).gone hN hi hk λs9 I9=>⟨v8,_,H8,I9,r8,q8⟩
def Dp{K:Fg_}{a C fI:Addr}(c:mX K C fI)(Z:OD K C):PySem.W.KitX K (.ref a) (.ref C) (λh=>∃o,h.get? a=some o/\o.cls=.ref C) where
 ty:=λM h _ ⟨o,e1,e2⟩=>e2▸(PySem.W.Looks.ld e1).andThen .now
 it:=λM h X _=>by
  obtain⟨nm,qn,N,bs,bm,sn,sub,ab,col,dd,k0,k1,k2,k3,k5,g1,_⟩:=c.obj X;intro A' Q' E' s' k q;unfold isType loadHead;exact ze (wpAny_loadPart (k _ _ g1) (zn q))
 ne:=λh tp dd its n sl X aa=>by
  obtain⟨nm,qn,N,bs,bm,sn,sub,ab,col,dd,k0,k1,k2,k3,k5,g1,_⟩:=c.obj X;refine Bool.eq_false_iff.mpr λz=>?_;have e:C=tp:=Value.ref.inj (beq_iff_eq.mp z);subst e;rw[g1]at aa;exact absurd (show Value.type "type" =Value.type "tuple" from congrArg Obj.cls (zf aa)) (by simp)
 ca:=fun{prog w A E Q s} X⟨o,e1,e2⟩ k=>by
  obtain⟨nm,qn,N,bs,bm,sn,sub,ab,col,dd,k0,k1,k2,k3,k5,g1,g4⟩:=c.obj X;obtain⟨h,g,d,t,os⟩:=s;exact XR X Z g1 (g4.hasType rfl) (g4.hasType rfl) e1 e2 k
noncomputable def aaZ(K:Fg_):List V->Hp->VK->Prop:=λxs H Q=>∃ea C c k,xs=[.ref ea,c]/\(∃d,H ea=some (Fp C ea d))/\(∃fI,mX K C fI)/\OD K C/\((∃D,c=.ref D/\PySem.W.kitOne K (.ref C) (.ref D)=some k)\/(∃T,c=.ty T/\PySem.W.kitOne K (.ref C) (.type T)=some k))/\Q (.bl k) H
def TY:jY X (.builtin "isinstance") (aaZ X.K):=by
 intro pins s σ H vs us Q I r h;obtain⟨ea,C,c,k,rfl,⟨d,hE⟩,⟨fI,xc⟩,xa,hk,q⟩:=h;obtain⟨u,v,rfl,ru,rv⟩:=vals2 r;cases ru;obtain⟨⟨o0,v0,ab,aa,_⟩,_,_⟩:=(show iH X.prog X.w H s.heap ea (Fp C ea d)from I.hok ea _ hE);rcases hk with⟨D,rfl,e⟩|⟨T,rfl,e⟩
 ·cases rv
  exact z8 (Dp xc xa) I.kIn ⟨o0,ab,aa⟩ e (λz=>nomatch z) λtk=>⟨.bl k,H,I.tok _,rfl,q⟩
 ·cases rv
  exact z8 (Dp xc xa) I.kIn ⟨o0,ab,aa⟩ e (λz=>nomatch z) λtk=>⟨.bl k,H,I.tok _,rfl,q⟩
noncomputable def Yg(K:Fg_):List V->Hp->VK->Prop:=λxs H Q=>∃(ea C p:Addr)(cs:List Addr)(k:Bool),xs=[.ref ea,.ref p]/\(∃d,H ea=some (Fp C ea d))/\(∃fI,mX K C fI)/\OD K C/\H p=some (.tup (cs.map V.ref))/\PySem.W.kitAny K (.ref C) (cs.map Value.ref)=some k/\Q (.bl k) H
def RM:jY X (.builtin "isinstance") (Yg X.K):=by
 intro pins s σ H vs us Q I r h;obtain⟨ea,C,p,cs,k,rfl,⟨d,hE⟩,⟨fI,xc⟩,xa,hp,e,q⟩:=h;obtain⟨u,v,rfl,ru,rv⟩:=vals2 r;cases ru;cases rv;obtain⟨⟨o0,v0,ad,ae,_⟩,_,_⟩:=(show iH X.prog X.w H s.heap ea (Fp C ea d)from I.hok ea _ hE);obtain⟨_,its,ac,o,ho,aa,nn,ab⟩:=(show iH X.prog X.w H s.heap p (.tup (cs.map V.ref))from I.hok p _ hp);have ei:=HY ac;subst ei;obtain⟨oc,od,ag,af⟩:=o;dsimp only at aa ab;subst aa ab;exact PySem.W.kia_tup (Dp xc xa) I.kIn ⟨o0,ad,ae⟩ ho e (λz=>nomatch z) λtk=>⟨.bl k,H,I.tok _,rfl,q⟩
noncomputable def tFI(t:TE):TE:=λσ H Q=>t σ H λv H1=>∃i:Int,v=.int i/\i.natAbs<2^300/\∀z:Str,z.length<=10000->Q (.str z) H1
def Bb{i:Int}(h:i.natAbs<2^300):(Str.ofString (toString i)).length<=400:=by
 have hn:i.natAbs.repr.length<=300:=nat_repr_length_le (by decide) h;have q:∀s:String,(Str.ofString s).length=s.length:=λs=>PySem.ofString_length s;rw[q]
 cases i with
 |ofNat n=>
  have:(toString (Int.ofNat n))=n.repr:=rfl;rw[this];have hn:n.repr.length<=300:=hn;omega
 |negSucc n=>
  have:(toString (Int.negSucc n))= "-" ++(n+1).repr:=rfl;rw[this,String.length_append];have hn:(n+1).repr.length<=300:=hn;have: "-".length=1:=rfl;omega
def HB{y z:Str}{j1 j2:Nat}{p1 p2 p3:Pos}{te:TE}(he:PE X e te)(h1:y.length<=1000:=by decide+kernel)(h2:z.length<=1000:=by decide+kernel):PE X (.JoinedStr [.Constant (.str y) j1 p1,.FormattedValue e (-1) none p2,.Constant (.str z) j2 p3] pos) (tFI te):=by
 intro pins s σ H Q I h
 have e0:∀z:Str,(Str.empty++z)=z:=λz=>by
  show Str.mk (#[]++z.cps)=z;rw[zzm]
 have la:∀y z:Str,(y++z).length=y.length+z.length:=λy z=>by
  show(y.cps++z.cps).size=_;rw[yL];rfl
 refine yyh (Joins_cons (Calls.Constant_str ⟨y,_,rfl,?_,Joins_cons (ye ?_)⟩))
 ·rw[e0,zc];omega
 ·rw[e0]
  refine thn (he pins _ σ H _ (I.tok _) h) λv s1 ⟨w,H1,I1,r1,i,ei,hi,q⟩=>?_;subst ei;obtain⟨t1,rfl⟩:=r1;have hl:=Bb hi
  have aa:i.natAbs.log2<1920:=by
   by_cases h0:i.natAbs=0
   ·rw[h0];decide
   ·have:=(Nat.log2_lt h0 (k:=300)).mpr hi
    omega
  refine y3 aa ⟨_,_,rfl,by rw[la,zc];omega,Joins_cons (Calls.Constant_str ⟨z,_,rfl,by rw[la,la,zc];omega,Joins_nil ⟨by rw[la,la,zc];omega,.str _,H1,I1.tok _,⟨_,rfl⟩,q _ (by rw[la,la];omega)⟩⟩)⟩
end
section
variable{X:Cx}{K:Fg_}{C:Addr}{sp:Sp}{dvs:List V}{E:XK}{x fn:Str}{p pos apos pos':Pos}{e o value:Expr}{es:List Expr}{ta tv:TE}{t:TA}{σ:St}{H:Hp}{Q:VK}{D:Ends}{te:TX}{i:Nat}{ts:TS}{ea pa:Addr}{c:V}
def Vt{B:Addr}{pl:Sem Bool}(Z:aaY K B)(z:Gl X x)(hm:X.mg x=some (.ref B))(ha:PA X (e::es) t)(q:X.K=K:=by rfl)(hdb:(x==("__debug__" :Str))=false:=by decide) (he:starEach (e::es) X.env=(false,eval e X.env)::starEach es X.env:=by rfl) (hpl:(backTo pos (starEach es X.env)).any (·.1)=false:=by rfl)
  (ht:eval (.Call (.Attribute (.Name x p) "__init__" apos) (e::es) [] pos) X.env=(do
   let ov<-eval (.Name x p) X.env
   standAt apos.atName
   let(f,first)<-holding [ov] (getMethod ov "__init__" pl)
   callWith pos f first (backTo pos (starEach (e::es) X.env)) (backToKw pos (keywordEach [] X.env))):=by rfl):PE X (.Call (.Attribute (.Name x p) "__init__" apos) (e::es) [] pos) (Xj K t):=by
 subst q;exact Yx Z z hm ha hdb he hpl ht
def Uo(ha:PE X o ta)(z:PE X value tv)(hs:swapsWith value (some (.Attribute o fn pos')) pos.line X.env=pure false)(q:X.K=K:=by rfl):PS X (.Assign [.Attribute o fn pos'] value pos) (Xd K ta tv fn):=q▸WW ha z hs
def Us(he:PE X e ta)(q:attributeBase e fn X.env (eval e X.env)=eval e X.env)(z:X.K=K:=by rfl):PE X (.Attribute e fn pos) (Yt K ta fn):=z▸Yv he q
def JH(q:X.K=K:=by rfl):jY X (.builtin "isinstance") (aaZ K):=q▸TY
def Ow(q:X.K=K:=by rfl):jY X (.builtin "isinstance") (Yg K):=q▸RM
def ap_raiseF:Qi C fn E t D σ H=t σ H λvs H1=>∃n:Int,vs=[.int n]/\n.natAbs<2^300/\∀d,H1 d=none->E (.ref C) (some d) (upd H1 d (.xd [(fn,.int n)])):=rfl
def ap_xini:Xj K t σ H Q=t σ H λvs H1=>∃e C fI z,vs=[.ref e,.str z]/\H1 e=some (Hh C e)/\mX K C fI/\Q .non H1:=rfl
def ap_sxfld:Xd K ta tv fn D σ H=tv σ H λy H1=>ta σ H1 λx H2=>∃e C fI,x=.ref e/\H2 e=some (Hh C e)/\mX K C fI/\gk K C fn/\∀d,H2 d=none->d≠e->D.nx σ (upd (upd H2 e (xq C e d)) d (.xd [(fn,y)])):=rfl
def ap_xfld:Yt K ta fn σ H Q=ta σ H λx H1=>∃e C fI d fs n,x=.ref e/\(H1 e=some (xq C e d)\/H1 e=some (Fp C e d))/\mX K C fI/\OD K C/\gk K C fn/\H1 d=some (.xd fs)/\fs.lookup fn=some (.int n)/\Q (.int n) H1:=rfl
def ap_tryF:aaq te C i ts D σ H=te σ H (λ_ H1=>D.nx σ H1) λcls dd H1=>cls=.ref C/\∃d,dd=some d/\∀ea,H1 ea=none->
 ts {nx:=λq H2=>D.nx (q.set i none) H2,rt:=D.rt,bk:=λq H2=>D.bk (q.set i none) H2,ct:=λq H2=>D.ct (q.set i none) H2} (σ.set i (some (.ref ea))) (upd H1 ea (Fp C ea d)):=rfl
def ap_isF:aaZ K [.ref ea,c] H Q=∃C k,(∃d,H ea=some (Fp C ea d))/\(∃fI,mX K C fI)/\OD K C/\((∃D,c=.ref D/\PySem.W.kitOne K (.ref C) (.ref D)=some k)\/(∃T,c=.ty T/\PySem.W.kitOne K (.ref C) (.type T)=some k))/\Q (.bl k) H:=propext
 ⟨fun⟨q,C,z,k,e,r⟩=>by cases e;exact⟨C,k,r⟩,fun⟨C,k,r⟩=>⟨ea,C,c,k,rfl,r⟩⟩
def ap_isFs:Yg K [.ref ea,.ref pa] H Q=∃(C:Addr)(q:List Addr)(k:Bool),(∃d,H ea=some (Fp C ea d))/\(∃fI,mX K C fI)/\OD K C/\H pa=some (.tup (q.map V.ref))/\PySem.W.kitAny K (.ref C) (q.map Value.ref)=some k/\Q (.bl k) H:=propext
 ⟨fun⟨z,C,p',q,k,e,r⟩=>by cases e;exact⟨C,q,k,r⟩,fun⟨C,q,k,r⟩=>⟨ea,C,pa,q,k,rfl,r⟩⟩
def ap_FI:tFI ta σ H Q=ta σ H λv H1=>∃i:Int,v=.int i/\i.natAbs<2^300/\∀z:Str,z.length<=10000->Q (.str z) H1:=rfl
end
end L2
namespace L2
open PySem PySem.W PySem.Spec PySem.Calls PyProof.Rows
section
variable{X:Cx}{pos:Pos}{e f:Expr}
noncomputable def gZ(i:Int):Str:=Str.ofString (toString i)
def kJ{i:Int}(h:i.natAbs<2^300):(gZ i).length<=400:=Bb h
def Mt{i:Int}(hi:i.natAbs<2^300):i.natAbs.log2<1920:=by
 by_cases q:i.natAbs=0
 ·rw[q];decide
 ·have:=(Nat.log2_lt q (k:=300)).mpr hi
  omega
noncomputable def abn:List V->Hp->VK->Prop:=λxs H Q=>(∃i:Int,xs=[.int i]/\i.natAbs<2^300/\Q (.str (gZ i)) H)\/(∃z,xs=[.str z]/\Q (.str z) H)
def vh:jY X (.type "str") abn:=by
 intro pins s σ H xs us Q I r h;rcases h with⟨i,rfl,hi,q⟩|⟨z,rfl,q⟩
 ·exact Jp pins s σ H _ us Q I r ⟨i,rfl,Mt hi,q⟩
 ·obtain⟨u,rfl,rx⟩:=vals1 r
  obtain⟨t,rfl⟩:=rx;exact P.str_of_str ⟨.str z,H,I,⟨_,rfl⟩,q⟩
theorem Qe:∀{xs:List Str}{its:List Value},Vals (xs.map V.str) its->∃l:List (Str×Tok),strValues l=its/\l.map (·.1)=xs
 |[],_,.nil=>⟨[],rfl,rfl⟩
 |x::xs,_,.cons r rs=>by
  obtain⟨t,rfl⟩:=r;obtain⟨l,q,e2⟩:=Qe rs;exact⟨(x,t)::l,by rw[<-q];rfl,by rw[zg,e2]⟩
theorem Jr(z:Str):∀(xs:List Str)(n:Nat),xs.foldl (λa x=>a+x.length+z.length) n=n+(xs.map (·.length)).sum+xs.length*z.length
 |[],n=>by simp
 |x::xs,n=>by
  rw[yB,Jr z xs,zg,yP,zA,Nat.succ_mul];omega
noncomputable def rJoin:V->List V->Hp->VK->Prop:=λv vs H Q=>∃(z:Str)(a:Addr)(xs:List Str),v=.str z/\vs=[.ref a]/\H a=some (.lst (xs.map V.str))/\(xs.map (·.length)).sum+xs.length*z.length<=1000000/\Q (.str (Txt.join z xs)) H
def ou:MtM X "str.join" rJoin:=by
 intro pins s σ H x vs v us Q I rx rv h;obtain⟨z,a,xs,rfl,rfl,hH,hb,q⟩:=h;obtain⟨t,rfl⟩:=rx;obtain⟨u,rfl,ru⟩:=rv.one;cases ru;obtain⟨hz,its,n,r,hl,e⟩:=I.lstM hH;obtain⟨l,e1,e2⟩:=Qe r;refine SC.join (D:=a) (l:=l) (texts:=xs) ⟨_,e,rfl,n,by rw[e1]⟩ e2 ?_ λt' k=>⟨.str _,H,I.tok _,⟨_,rfl⟩,q⟩;unfold JoinOk;rw[List.foldl_toArray,Jr];have:Builtin.Str.tooLong (0+(xs.map (·.length)).sum+xs.length*z.length)=false:=zF (by rw[zc];omega);rw[this];rfl
def ap_rStr{x:V}{H:Hp}{Q:VK}:abn [x] H Q=((∃i:Int,x=.int i/\i.natAbs<2^300/\Q (.str (gZ i)) H)\/(∃z,x=.str z/\Q (.str z) H)):=by simp[abn]
def ap_rJoin{z:Str}{a:Addr}{H:Hp}{Q:VK}:rJoin (.str z) [.ref a] H Q=∃(xs:List Str),H a=some (.lst (xs.map V.str))/\(xs.map (·.length)).sum+xs.length*z.length<=1000000/\Q (.str (Txt.join z xs)) H:=by simp[rJoin]
end
end L2
namespace L2
open PySem PySem.W PySem.Spec PySem.Calls PyProof.Rows
section
theorem Ks{c:Nat}:∀{a b r s:List Nat},c∉a->c∉b->a++c::r=b++c::s->a=b/\r=s
 |[],[],r,s,_,_,h=>⟨rfl,(yyb h).2⟩
 |[],y::b,r,s,_,hb,h=>(hb (by rw[(yyb h).1];exact zi)).elim
 |x::a,[],r,s,ha,_,h=>(ha (by rw[<-(yyb h).1];exact zi)).elim
 |x::a,y::b,r,s,ha,hb,h=>by
  obtain⟨e1,e2⟩:=yyb h;obtain⟨q,z⟩:=Ks (a:=a) (b:=b) (λm=>ha (zt _ m)) (λm=>hb (zt _ m)) e2;exact⟨by rw[e1,q],z⟩
def xP(c:Nat)(p q:Str)(r:List Str):(Str.join ⟨#[c]⟩ (p::q::r)).cps.toList=p.cps.toList++c::(Str.join ⟨#[c]⟩ (q::r)).cps.toList:=by
 show(p++⟨#[c]⟩++Str.join ⟨#[c]⟩ (q::r)).cps.toList=_;simp only[zY,yy];simp
def str_ext{a b:Str}(h:a.cps.toList=b.cps.toList):a=b:=Str.ext' (Array.toList_inj.mp h)
theorem LQ(c:Nat):∀{ps qs:List Str},ps≠[]->qs≠[]->(∀p∈ps,c∉p.cps.toList)->(∀q∈qs,c∉q.cps.toList)->(Str.join ⟨#[c]⟩ ps).cps.toList=(Str.join ⟨#[c]⟩ qs).cps.toList->ps=qs
 |[],_,h,_,_,_,_=>(h rfl).elim
 |_,[],_,h,_,_,_=>(h rfl).elim
 |[p],[q],_,_,_,_,h=>by rw[str_ext (a:=p) (b:=q) h]
 |[p],q::q2::qs,_,_,hp,_,h=>by
  rw[xP]at h;have h:p.cps.toList=_:=h;exact(hp p zi (by rw[h];exact zL _ zi)).elim
 |p::p2::ps,[q],_,_,_,hq,h=>by
  rw[xP]at h;have h:_=q.cps.toList:=h;exact(hq q zi (by rw[<-h];exact zL _ zi)).elim
 |p::p2::ps,q::q2::qs,_,_,hp,hq,h=>by
  rw[xP,xP]at h;obtain⟨e1,e2⟩:=Ks (hp p zi) (hq q zi) h;have e3:=LQ c (ps:=p2::ps) (qs:=q2::qs) (zzD _ _) (zzD _ _) (λx z=>hp x (zt _ z)) (λx z=>hq x (zt _ z)) e2;rw[str_ext (a:=p) (b:=q) e1,e3]
def split_join{c:Nat}{ps:List Str}(h:ps≠[])(q:∀p∈ps,c∉p.cps.toList):Txt.split (Txt.join ⟨#[c]⟩ ps) ⟨#[c]⟩=ps:=by
 have e:Txt.join ⟨#[c]⟩ ps=Str.join ⟨#[c]⟩ ps:=StrLaws.glued_eq_join _ _;refine LQ c (λz=>?_) h (StrLaws.split_free _ c) q ?_
 ·have:=split_pos (Txt.join ⟨#[c]⟩ ps) ⟨#[c]⟩
  rw[z]at this;exact absurd this (by decide)
 ·rw[StrLaws.join_split,e]
end
section
variable{X:Cx}
theorem Rr:∀(l:List (Str×Tok)),Vals ((l.map (·.1)).map V.str) (strValues l)
 |[]=> .nil
 |(z,t)::l=> .cons ⟨t,rfl⟩ (Rr l)
def NQ{prog:Program}{w:World}{A:Around}{E:Value->Shared->Prop}{s:Shared}{x y:Str}{t u:Tok}{Q:Value->Shared->Prop}(hy:(y.length==0)=false)
  (hsz:x.length<=sizeLine) (q:(Builtin.Str.partsBetween x (Builtin.Str.occurrences x y 0 x.length (x.length+1)) y.length).length<=sizeLine)
  (hq:∀(l:List (Str×Tok)) tk,l.map (·.1)=Txt.split x y->Q (.ref s.heap.objs.size) {s with toks:=tk,heap:=s.heap.push {cls:=.type "list",data:=.seq (strValues l).toArray}}):
  (wpAny (model prog w) A (call (.builtin "str.split") [.str x t,.str y u]) Q E s):=by
 cases h1:(decide (x.length<y.length)||decide (Builtin.Str.strKind x<Builtin.Str.strKind y))
 ·cases z:(Builtin.Str.occurrences x y 0 x.length (x.length+1)).isEmpty
  ·refine zzd (s:=s) F.slot_str_split (typeIs_str _ _ _) F.entry_str_split (F.args_str_split_2 _ _) (meets_str_split_sep x y t u h1 hy z hsz q) ?_
   show wants Q E _ {s with toks:=_,heap:=s.heap.push {cls:=.type "list",data:=.seq (strsFrom s.toks (Builtin.Str.partsBetween x (Builtin.Str.occurrences x y 0 x.length (x.length+1)) y.length)).toArray}};rw[strsFrom_eq];exact hq (numbered s.toks _) _ ((numbered_texts _ _).trans ((zo (ne_true_of_eq_false h1)).trans (zo (ne_true_of_eq_false z))).symm)
  ·exact zzd (s:=s) F.slot_str_split (typeIs_str _ _ _) F.entry_str_split (F.args_str_split_2 _ _) (meets_str_split_not_found x y t u h1 hy z)
    (hq [(x,t)] _ ((zo (ne_true_of_eq_false h1)).trans (zu z)).symm)
 ·exact zzd (s:=s) F.slot_str_split (typeIs_str _ _ _) F.entry_str_split (F.args_str_split_2 _ _) (meets_str_split_cannot_occur x y t u h1)
   (hq [(x,t)] _ (zu h1).symm)
noncomputable def TF:V->List V->Hp->VK->Prop:=λv vs H Q=>∃(z y:Str),v=.str z/\vs=[.str y]/\y.length=1/\z.length<=1000000/\∀p,H p=none->Q (.ref p) (upd H p (.lst ((Txt.split z y).map V.str)))
def Ca:MtM X "str.split" TF:=by
 intro pins s σ H x vs v us Q I rx rv h;obtain⟨z,y,rfl,rfl,hy,hz,q⟩:=h;obtain⟨t,rfl⟩:=rx;obtain⟨u,rfl,ru⟩:=rv.one;obtain⟨t2,rfl⟩:=ru;have ab:=split_le z y;have hl:(Txt.split z y).length<=sizeLine:=by rw[zc];omega
 refine NQ (by rw[hy];rfl) (by rw[zc];omega) ?_ λl tk aa=>?_
 ·rw[len_partsBetween,zc]
  have:=StrLaws.occ_length_le z y 0 z.length (z.length+1);omega
 ·refine⟨.ref s.heap.objs.size,_,I.laid (t':=tk) (o:=.lst ((Txt.split z y).map V.str)) (λb o' e=>zd _ e) (zj _) ?_,rfl,q _ (I.hok.fresh (zj _))⟩
  refine⟨by rw[zb];exact hl,strValues l,0,?_,zP _ rfl⟩;rw[<-aa];exact Rr l
def num_text{n:Int}(h0:0<=n)(h1:n.natAbs<2^300):PySem.intText? (gZ n)=some n:=by
 have hl:(gZ n).length<=400:=kJ h1;obtain⟨m,em⟩:=yS h0;subst em
 have hd:NumText.AllDigits (gZ ((m:Nat):Int)).cps.toList:=by
  intro c z;unfold gZ at z;rw[KIN.signs_num]at z;obtain⟨ch,g2,e⟩:=zO.mp z;have r:=digit_range (zzW (by decide) (by decide) g2);rw[<-e];exact r
 have q:(gZ ((m:Nat):Int)).cps.toList≠[]:=by
  unfold gZ;rw[KIN.signs_num];intro e;have h3:=toDigits_len_ge 10 m;rw[List.map_eq_nil_iff.mp e]at h3;exact absurd h3 (by decide)
 have e:=PySem.intText_digits hd q (zQ hl (by decide));unfold gZ at e⊢;rw[KIN.signs_num,KIN.val_back]at e;exact e
noncomputable def aby:List V->Hp->VK->Prop:=λxs H Q=>∃n:Int,xs=[.str (gZ n)]/\0<=n/\n.natAbs<2^300/\Q (.int n) H
def SM:jY X (.type "int") aby:=by
 intro pins s σ H xs us Q I r h;obtain⟨n,rfl,z,h1,q⟩:=h;obtain⟨u,rfl,ru⟩:=vals1 r;obtain⟨t,rfl⟩:=ru;exact KIN.call_text (num_text z h1) (zQ (kJ h1) (by decide)) ⟨.int n,H,I.tok _,⟨_,rfl⟩,q⟩
noncomputable def Lg:V->List V->Hp->VK->Prop:=λv vs H Q=>∃(z y:Str),v=.str z/\vs=[.str y]/\Q (.bl (Txt.startswith z y)) H
def GP:MtM X "str.startswith" Lg:=by
 intro pins s σ H x vs v us Q I rx rv h;obtain⟨z,y,rfl,rfl,q⟩:=h;obtain⟨t,rfl⟩:=rx;obtain⟨u,rfl,ru⟩:=rv.one;obtain⟨t2,rfl⟩:=ru;exact SC.startswith ⟨.bl _,H,I,rfl,q⟩
noncomputable def Xi:V->List V->Hp->VK->Prop:=λv vs H Q=>∃(z y:Str),v=.str z/\vs=[.str y]/\y.length=1/\z.length<=1000000/\∀p,H p=none->Q (.ref p) (upd H p (.tup [.str (Txt.partition z y).1,.str (Txt.partition z y).2.1,.str (Txt.partition z y).2.2]))
def RT{prog:Program}{w:World}{A:Around}{E:Value->Shared->Prop}{s:Shared}{x y:Str}{t u:Tok}{Q:Value->Shared->Prop}(q:(y.length==0)=false)(hsz:x.length<=sizeLine)
  (h:∀ta tb tc k,Q (.ref s.heap.objs.size) {s with toks:=k,heap:=s.heap.push {cls:=.type "tuple",data:=.seq [.str (Txt.partition x y).1 ta,.str (Txt.partition x y).2.1 tb,.str (Txt.partition x y).2.2 tc].toArray}}):
  (wpAny (model prog w) A (call (.builtin "str.partition") [.str x t,.str y u]) Q E s):=by
 refine zzd (s:=s) F.slot_str_partition (typeIs_str _ _ _) F.entry_str_partition (F.args_str_partition_2 _ _) (meets_str_partition x y t u q hsz) ?_;have h':=h;unfold Txt.partition at h';revert h'
 cases Builtin.Str.occurrences x y 0 x.length 1 with
 |nil=>intro h';exact h' _ _ _ _
 |cons i r=>intro h';exact h' _ _ _ _
def Jk:MtM X "str.partition" Xi:=by
 intro pins s σ H x vs v us Q I rx rv h;obtain⟨z,y,rfl,rfl,hy,hz,q⟩:=h;obtain⟨t,rfl⟩:=rx;obtain⟨u,rfl,ru⟩:=rv.one;obtain⟨t2,rfl⟩:=ru;refine RT (by rw[hy];rfl) (by rw[zc];omega) λta tb tc k=>?_;refine⟨.ref s.heap.objs.size,_,I.laid (t':=k) (o:=.tup [.str (Txt.partition z y).1,.str (Txt.partition z y).2.1,.str (Txt.partition z y).2.2]) (λb o' e=>zd _ e) (zj _) ?_,rfl,q _ (I.hok.fresh (zj _))⟩;exact⟨by rw[zc];simp,[.str (Txt.partition z y).1 ta,.str (Txt.partition z y).2.1 tb,.str (Txt.partition z y).2.2 tc],.cons ⟨_,rfl⟩ (.cons ⟨_,rfl⟩ (.cons ⟨_,rfl⟩ .nil)),_,zP _ rfl,rfl,_,rfl⟩
def part_at{c:Nat}{a b:Str}(ha:c∉a.cps.toList):Txt.partition (a++⟨#[c]⟩++b) ⟨#[c]⟩=(a,⟨#[c]⟩,b):=by
 have hx:(a++⟨#[c]⟩++b).cps.toList=a.cps.toList++c::b.cps.toList:=by
  simp only[zY,yy];simp
 have q:=zzX (a++⟨#[c]⟩++b) ⟨#[c]⟩;rcases partition_whole (a++⟨#[c]⟩++b) ⟨#[c]⟩with⟨_,hn⟩|⟨i,e,_,hno⟩
 ·obtain⟨i,hi⟩:=(mem_iff_at (a++⟨#[c]⟩++b) c).mp (by rw[hx];exact zL _ zi)
  exact(hn i hi).elim
 ·rw[e]at q⊢
  have hf:c∉(Builtin.Str.strSub (a++⟨#[c]⟩++b) 0 i).cps.toList:=by
   rw[StrLaws.strSub_toList,Nat.sub_zero,zzt];intro hm;obtain⟨j,hj⟩:=List.mem_iff_getElem?.mp hm
   have aa:j<i:=by
    have:=(zr.mp hj).1;rw[zv]at this;omega
   rw[yk aa]at hj;exact hno j aa ((StrLaws.subAt_one _ c j).mpr hj)
  have h2:=congrArg (λz:Str=>z.cps.toList) q;simp only[yy,zY]at h2;have h3:(Builtin.Str.strSub (a++⟨#[c]⟩++b) 0 i).cps.toList++c::(Builtin.Str.strSub (a++⟨#[c]⟩++b) (i+(⟨#[c]⟩:Str).length) (a++⟨#[c]⟩++b).length).cps.toList=a.cps.toList++c::b.cps.toList:=by simpa using h2
  obtain⟨e1,e2⟩:=Ks hf ha h3;rw[str_ext e1,str_ext e2]
def ap_rSplit{z y:Str}{H:Hp}{Q:VK}:TF (.str z) [.str y] H Q=(y.length=1/\z.length<=1000000/\∀p,H p=none->Q (.ref p) (upd H p (.lst ((Txt.split z y).map V.str)))):=by simp[TF]
def ap_rStarts{z y:Str}{H:Hp}{Q:VK}:Lg (.str z) [.str y] H Q=Q (.bl (Txt.startswith z y)) H:=by simp[Lg]
def ap_rPart{z y:Str}{H:Hp}{Q:VK}:Xi (.str z) [.str y] H Q=(y.length=1/\z.length<=1000000/\∀p,H p=none->Q (.ref p) (upd H p (.tup [.str (Txt.partition z y).1,.str (Txt.partition z y).2.1,.str (Txt.partition z y).2.2]))):=by simp[Xi]
end
end L2
namespace L2
open PySem PySem.W PySem.Spec PySem.Calls PyProof.Rows
section
variable{prog:Program}{w:World}{A:Around}{E:Value->Shared->Prop}{s:Shared}
def Va(a b:Value):checkTypeCall "enumerate" ⟨[a],[("start",b)]⟩=pure ():=by kernel_rfl
def Uy(a b:Value):checkBuiltinCall "enumerate.__new__" ⟨[.type "enumerate",a],[("start",b)]⟩=pure ():=by kernel_rfl
def Vi(obj a b:Value):argsOk "object.__init__" ⟨[obj,a],[("start",b)]⟩:=F.args_object_init_2 obj a
def abl{T newId q:String}{Bn Bi:Builtin}{args:List Value}{kw:List (Str×Value)}{S:PySem.Spec}{Q Q1:Value->Shared->Prop}(z:TypeCalled T newId q)(aj:checkTypeCall T ⟨args,kw⟩=pure ())(ac:checkBuiltinCall newId ⟨.type T::args,kw⟩=pure ())
  (eN:entryFor table newId=some Bn) (eI:entryFor table q=some Bi) (g:Meets (Bn ⟨.type T::args,kw⟩) S) (h:S A.in1 (wants Q1 E) s)
  (aa:∀obj s1,Q1 obj s1->s1.TypeIs obj T/\argsOk q ⟨obj::args,kw⟩/\∃Si,Meets (Bi ⟨obj::args,kw⟩) Si/\Si A.in1 (wants (λr s2=>r=.none/\Q obj s2) E) s1):wpAny (model prog w) A (call (.type T) args kw) Q E s:=by
 obtain⟨cc,tl,ae⟩:=z.mro;have af:=z.made;have ai:=z.sub;refine zz6 (codeAny_of_tree (?_:wpAny _ _ (callAny (.type T) _) _ _ _));refine zn ⟨Code.quiet_builtin _ (by decide+kernel),codeAny_builtin (F.entry_type_call) ?_⟩;rw[Around.under_plain (weight_type_call_type T args kw) (units_type_call_type T args kw)];have g1:=z.notType;have g2:=z.canCreate
 repeat (any_goals (first|wp_step|assumption))
 refine codeAny_mono (codeAny_call_builtin z.plain eN (wpAny_of_eq ac (g prog w A.in1 _ s h))) λr s1 hr=>?_
 cases r with
 |error e=>exact hr
 |ok fl=>
  cases fl with
  |ret obj=>
   obtain⟨hT,hok,Si,gi,ad⟩:=aa obj s1 hr;have ah:=z.init.lookup;have ag:=z.init.bind obj
   repeat (any_goals (first|wp_step|assumption))
   refine codeAny_mono (codeAny_call_builtin z.init.plain eI (z.init.check _ _ _ _ _ _ _ _ hT hok (gi prog w A.in1 _ s1 ad))) λr2 s2 ab=>?_
   cases r2 with
   |error e=>exact ab
   |ok fl2=>
    cases fl2 with
    |ret r=>
     obtain⟨rfl,hq⟩:=ab
     repeat (any_goals (first|wp_step|assumption))
    |_=>exact ab.elim
  |_=>exact hr.elim
def Yy{T newId:String}{self a:Value}{kw:List (Str×Value)}(hl:typeLookup (.type T) "__init__" =pure (some (.builtin "object.__init__"))) (hm:Bind.madeBy (.type T)=pure (some newId)) (q:(some newId !=some "object.__new__")=true):
  Meets (Builtin.«object.__init__» ⟨[self,a],kw⟩) (λ_ R s=>s.TypeIs self T/\R (.ok (.ret .none)) s):=by
 refine Meets.of_wp λp0 w A R s hs=>?_;obtain⟨hT,z⟩:=hs
 repeat (any_goals (first|wp_step|assumption))
 exact⟨_,rfl,z⟩
end
section
variable{prog:Program}{w:World}{A:Around}
def ZZ{it l:Addr}{items:Array Value}(ab:l≠it)(hh:A.handled=none):Draws prog w A it [it,l] (items.size+1) (λj x=>items[j - 1]? =some x) (λj h=>1<=j/\h.IsListIter it l (j - 1)/\h.IsList l items) where
 live:=λj h ⟨_,⟨o,ho,_⟩,_⟩=>⟨o,ho⟩
 frame:=λj h h' ⟨h1,⟨o,ho,r⟩,⟨ol,q,r2⟩⟩ k=>⟨h1,⟨o,k it (by simp) o ho,r⟩,⟨ol,k l (by simp) ol q,r2⟩⟩
 item:=λj s Q E hj ⟨h1,z,hl⟩ hQ=>by
  have ac:j - 1<items.size:=by omega
  refine wpAny_nextOf_list_item z hl (x:=items[j - 1]) (by simp) λh' aa hs=>hQ _ h' s.toks (by simp) ⟨by omega,?_,?_⟩ hs
  ·rw[show j+1 - 1=j - 1+1 by omega]
   exact aa
  ·obtain⟨ol,q,r⟩:=hl
   exact⟨ol,(hs.2 l ab).trans q,r⟩
 done:=λs Q E ⟨h1,z,hl⟩ hE=>wpAny_nextOf_list_end hh z hl (by simp) hE
def Qf{it l:Addr}{items:Array Value}{n:Nat}(hx:items[n - 1]? =none)(hh:A.handled=none):Draws prog w A it [it,l] n (λ_ _=>False) (λj h=>j=n/\h.IsListIter it l (n - 1)/\h.IsList l items) where
 live:=λj h ⟨_,⟨o,q,_⟩,_⟩=>⟨o,q⟩
 frame:=λj h h' ⟨h1,⟨o,q,r⟩,⟨ol,z,r2⟩⟩ k=>⟨h1,⟨o,k it (by simp) o q,r⟩,⟨ol,k l (by simp) ol z,r2⟩⟩
 item:=λj s Q E hj ⟨h1,_⟩ _=>absurd hj (by omega)
 done:=λs Q E ⟨h1,aa,hl⟩ hE=>wpAny_nextOf_list_end hh aa hl hx hE
def Vb{M:Model}{E:Value->Shared->Prop}{s:Shared}{env:Env}{pos:Pos}{T:String}{e:Expr}{rest:List Expr}{kws:List Keyword}{Q:Value->Shared->Prop}
  (h:wpAny M A (spliced (backTo pos (starEach (e::rest) env))) (λvs s1=>wpAny M A (evalAll ((backToKw pos (keywordEach kws env)).map (·.2))) (λkvs s2=>wpAny M A (call (.type T) vs (((backToKw pos (keywordEach kws env)).filterMap (·.1)).zip kvs)) Q E s2) E s1) E s)
  (he:backTo pos (starEach (e::rest) env)=(false,eval e env)::backTo pos (starEach rest env)) (aa:(backTo pos (starEach (e::rest) env)).any (·.1)=false)
  (q:(backToKw pos (keywordEach kws env)).all (·.1.isSome)=true) (ab:(backToKw pos (keywordEach kws env)).any (·.1.isNone)=false):
  wpAny M A (callWith pos (.type T) [] (backTo pos (starEach (e::rest) env)) (backToKw pos (keywordEach kws env))) Q E s:=by
 have h2:wpAny M A (evalArgs (.type T) true (backTo pos (starEach (e::rest) env)) (backToKw pos (keywordEach kws env))) (λa s1=>wpAny M A (call (.type T) ([]++a.pos) a.kw) Q E s1) E s:=by
  rw[he]at h⊢;exact evalArgs_kwB q h
 unfold callWith;refine ze (yn (zR h2 (λa s1 h1=>ze (yF ?_)) λ_ _ z=>z));simp only[ab,aa,Bool.or_false];exact ze (zn (ze (zR h1 (λr s2 hr=>ze (yn (wpAny_point (zn hr)))) λ_ _ z=>z)))
def RN(l:Addr)(items:Array Value)(n:Nat)(aa:Option Addr)(sl:Array (Option Value))(t:Tok):
  Meets (Builtin.«enumerate.__new__» ⟨[.type "enumerate",.ref l],[("start",.int 1 t)]⟩) (λ_ R s=>s.heap.get? l=some {cls:=.type "list",dict:=aa,data:=.seq items n,slots:=sl}/\
   R (.ok (.ret (.ref (s.heap.push {cls:=.type "list_iterator",data:=.fields #[.ref l,.int 0 0]}).objs.size))) {s with heap:=(s.heap.push {cls:=.type "list_iterator",data:=.fields #[.ref l,.int 0 0]}).push {cls:=.type "enumerate",data:=.fields #[.none,.bool false,.ref s.heap.objs.size,rawInt 1,.none,.none]}}):=
 .of_wp λp0 w A R s h=>by
  obtain⟨hp,gg,d,tk,os⟩:=s;obtain⟨q,h⟩:=h;have ab:=sub_enumerate;have z:Heap.IsList (Shared.heap ⟨hp,gg,d,tk,os⟩) l items:=⟨_,q,rfl,n,rfl⟩
  wp_walk using AutoSeq1.wpAny_loadPart' q
  refine wpAny_stack_any λ_=>zn ?_;split
  ·rename_i c0 _ _ _ _ _
   cases (c0==Value.type "enumerate")
   ·wp_walk using AutoSeq1.wpAny_loadPart' q,yN z
    exact⟨_,rfl,h⟩
   ·wp_walk using AutoSeq1.wpAny_loadPart' q,yN z
    exact⟨_,rfl,h⟩
  ·wp_walk using AutoSeq1.wpAny_loadPart' q,yN z
   exact⟨_,rfl,h⟩
def Ob{E:Value->Shared->Prop}{s:Shared}{l:Addr}{items:Array Value}{t:Tok}{Q:Value->Shared->Prop}(hL:s.heap.IsList l items)
  (h:∀h',IsEnum h' (s.heap.objs.size+1) s.heap.objs.size 1 .none->h'.IsListIter s.heap.objs.size l 0->h'.objs.size=s.heap.objs.size+2->(∀b o,s.heap.get? b=some o->h'.get? b=some o)->Q (.ref (s.heap.objs.size+1)) {s with heap:=h'}):
  wpAny (model prog w) A (call (.type "enumerate") [.ref l] [("start",.int 1 t)]) Q E s:=by
 obtain⟨⟨cc,aa,dt,sl⟩,hl,q,n,hd⟩:=hL;have q:cc=.type "list" :=q;have hd:dt=.seq items n:=hd;subst q hd;refine abl (Q1:=λobj s1=>s1.TypeIs obj "enumerate" /\Q obj s1) F.called_enumerate (Va _ _) (Uy _ _) F.entry_enumerate_new F.entry_object_init (RN l items n aa sl t) ⟨hl,?_⟩ λobj s1 z=>⟨z.1,Vi obj _ _,_,Yy F.called_enumerate.init.lookup F.called_enumerate.made (by decide),z.1,rfl,z.2⟩;have hz:(s.heap.push {cls:=.type "list_iterator",data:=.fields #[.ref l,.int 0 0]}).objs.size=s.heap.objs.size+1:=by rw[zzp]
 have he:IsEnum ((s.heap.push {cls:=.type "list_iterator",data:=.fields #[.ref l,.int 0 0]}).push {cls:=.type "enumerate",data:=.fields #[.none,.bool false,.ref s.heap.objs.size,rawInt 1,.none,.none]}) (s.heap.objs.size+1) s.heap.objs.size 1 .none:=by
  have:=zP (s.heap.push {cls:=.type "list_iterator",data:=.fields #[.ref l,.int 0 0]}) (o:={cls:=.type "enumerate",data:=.fields #[.none,.bool false,.ref s.heap.objs.size,rawInt 1,.none,.none]}) rfl;rw[hz]at this;exact this
 show _/\_;rw[hz];exact⟨⟨_,he,rfl⟩,h _ he ⟨_,zd _ (zP _ rfl),rfl,rfl⟩ (by rw[zzp,hz]) λb o x=>zd _ (zd _ x)⟩
end
noncomputable def aaK(K:Fg_)(a:Addr):It:=
 ⟨λi H=>∃xs x,SqL K H a xs/\xs[i]? =some x,
   λi H v H'=>∃p x,H p=none/\v=.ref p/\H'=upd H p (.tup [.int ((i+1:Nat):Int),x])/\∀xs,SqL K H a xs->xs[i]? =some x,
   λi H=>∃xs,SqL K H a xs/\xs.length<=i⟩
def Ny{P:Program}{w:World}{K:Fg_}{elts:List Expr}{x1:Nat}{pos:Pos}(a e it:Addr)(af:e≠it):
  Turn P w K (.Tuple elts x1 pos) (aaK K a) [e,it] e (λi h=>(∃ab,IsEnum h e it ((i+1:Nat):Int) ab)/\h.IsListIter it a i) where
 mem:=by simp
 obj:=λi h st c hb=>by
  obtain⟨⟨ab,he⟩,⟨o1,e1,c1,d1⟩⟩:=st;simp only[zp,zw,or_false]at hb;rcases hb with rfl|rfl
  ·exact⟨_,he,λv z=>by cases z⟩
  ·exact⟨_,e1,λv z=>by rw[d1]at z;cases z⟩
 keep:=λi h h' st k=>by
  obtain⟨⟨ab,he⟩,h1⟩:=st;exact⟨⟨ab,k _ (by simp) _ he⟩,h1.at λo e=>k _ (by simp) o e⟩
 item:=by
  intro X hP hw hK hc i pins s σ H E I hf st hg;subst hP hw hK;obtain⟨xs,x,ad,hx⟩:=hg;obtain⟨aa,ae,p1,_⟩:=I.list ad;obtain⟨u1,ag,aj⟩:=ae.get hx;obtain⟨⟨ab,he⟩,h1⟩:=st;have hL:=p1.isList
  have al:a≠it:=λz=>by
   obtain⟨o1,g1,c1,_⟩:=h1;obtain⟨o2,g2,c2,_⟩:=hL;rw[z,g1]at g2;cases g2;rw[c1]at c2;exact absurd c2 (by decide)
  have ak:e≠a:=λz=>by
   obtain⟨o2,g2,c2,_⟩:=hL;rw[<-z,he]at g2;cases g2;exact absurd (show Value.type "enumerate" =Value.type "list" from c2) (by decide)
  have hsz:i+1<aa.toArray.size+1:=by
   have:=(zr.mp ag).1;simp;omega
  refine wpAny_pyNext_enum_itemD (ZZ al (A:=X.A.in1) (show X.A.in1.handled=none from I.ok.hd hc)) he ⟨by omega,h1,hL⟩ hsz af (by simp;exact⟨af,ak⟩) λx' h' tk ac a1 a2 a3 a4 a5=>?_
  have ex:x'=u1:=by
   have ac:aa.toArray[i]? =some x':=ac;rw[show aa.toArray[i]? =some u1 by simpa using ag]at ac;exact(zf ac).symm
  rw[ex]at a1 a3;obtain⟨_,a2,_⟩:=a2;have a2:h'.IsListIter it a (i+1):=a2;refine⟨_,rfl,zz8 (s:={s with heap:=h',toks:=tk+1}) a1 λah b1 b2=>?_⟩;have ne:s.heap.objs.size≠e:=yye (zq he)
  have k:∀c o,c∉[e,it]->s.heap.get? c=some o->ah.get? c=some o:=λc o hc q=>by
   simp only[zp,zw,or_false,not_or]at hc;exact(b2.2 c hc.1).trans (a5 c o hc.1 hc.2 q)
  have ai:ah.get? s.heap.objs.size=some {cls:=.type "tuple",data:=.seq #[.int ((i+1:Nat):Int) tk,u1]}:=(b2.2 _ ne).trans a3
  refine ⟨.ref s.heap.objs.size,upd H s.heap.objs.size (.tup [.int ((i+1:Nat):Int),x]),I.turnedT (t':=tk+1) hf (zj _) k ⟨by rw[zc];simp,[.int ((i+1:Nat):Int) tk,u1],.cons ⟨_,rfl⟩ (.cons aj .nil),_,ai,rfl,_,rfl⟩,rfl,
   ⟨_,x,I.hok.fresh (zj _),rfl,rfl,λam q=>by rw[I.list_inj q ad];exact hx⟩,⟨⟨u1,by simpa using b1⟩,a2.at λo q=>(b2.2 _ (Ne.symm af)).trans q⟩,λc hb=>?_⟩
  obtain ⟨o,q⟩:∃o,s.heap.get? c=some o:=by
   simp only[zp,zw,or_false]at hb;rcases hb with rfl|rfl
   ·exact⟨_,he⟩
   ·obtain⟨o,q,_⟩:=h1;exact⟨o,q⟩
  rw[fY (zN (zq q))];exact(hf c hb).1
 done:=by
  intro X hP hw hK hc i pins s σ H E I hf st hg;subst hP hw hK;obtain⟨xs,ad,hx⟩:=hg;obtain⟨aa,ae,p1,_⟩:=I.list ad;obtain⟨⟨ab,he⟩,h1⟩:=st;have l1:=ae.length;have hL:=p1.isList;refine wpAny_pyNext_enum_endD (Qf (n:=i+1) (A:=X.A.in1) (items:=aa.toArray) (by simp;omega) (show X.A.in1.handled=none from I.ok.hd hc)) he ⟨rfl,h1,hL⟩ λh' k=>⟨rfl,I.turnedN (t':=s.toks) hf λc o hc q=>?_⟩;simp only[zp,zw,or_false,not_or]at hc;exact k c o hc.2 q
 self:=λ_ _ _ _ _ st h=>by
  obtain⟨⟨ab,he⟩,_⟩:=st;exact zzw he h
section
variable{X:Cx}{K:Fg_}{ta:TA}{elts:List Expr}{x1:Nat}{tpos:Pos}
noncomputable def VD(K:Fg_)(ta:TA):TI:=λσ H R=>ta σ H λvs H1=>∃a,vs=[.ref a]/\(∃xs,SqL K H1 a xs)/\R (aaK K a) H1
def Ud{a:Expr}{p pos kpos cpos:Pos}{j:Nat}(hg:Gl X "enumerate") (hm:X.mg "enumerate" =none) (ha:PA X [a] ta) (he:backTo pos (starEach [a] X.env)=(false,eval a X.env)::backTo pos (starEach [] X.env):=by rfl) (hpl:(backTo pos (starEach [a] X.env)).any (·.1)=false:=by rfl) (hK:X.K=K:=by rfl):
  PI X (.Tuple elts x1 tpos) (.Call (.Name "enumerate" p) [a] [⟨some "start",.Constant (.int 1) j cpos,kpos⟩] pos) (VD K ta):=by
 subst hK;intro pins s σ H R I h;refine ym (Ep I hg hm (show bootBuiltins "enumerate" =some (.type "enumerate")from by decide+kernel) ?_);refine Vb (thn (ha pos pins s σ H _ I h) λus s1 ⟨vs,H1,I1,r1,l1,e,⟨xs,hx⟩,q⟩=>?_) he hpl rfl rfl;have hk:PK X [⟨some "start",.Constant (.int 1) j cpos,kpos⟩] (uy (tC (.int 1)) Ro):=Yr fL aav;refine thn (hk pos pins s1 σ H1 (λzs H2=>zs=[.int 1]/\H2=H1) I1 ⟨rfl,rfl⟩) λws z ⟨zs,H2,I2,rz,ez,eH⟩=>?_;subst ez eH e;obtain⟨u,rfl,ru⟩:=vals1 r1;cases ru;obtain⟨v1,rfl,ab⟩:=vals1 rz;obtain⟨ad,rfl⟩:=ab;obtain⟨ac,_,p1,_⟩:=I2.list hx;refine Ob p1.isList λh' g1 g2 g3 k=>?_;have I3:Inv X pins σ H2 {z with heap:=h'}:=I2.kept (t':=z.toks) k;refine zzw (s:={z with heap:=h'}) g1 ⟨_,[z.heap.objs.size+1,z.heap.objs.size],_,_,H2,rfl,I3,Ny l1 _ _ (show((z.heap.objs.size:Nat)+1≠z.heap.objs.size) by omega),⟨⟨_,g1⟩,g2⟩,λc hc=>?_,q⟩
 have hc':z.heap.objs.size<=c:=by
  simp only[zp,zw,or_false]at hc
  have aa:∃k:Nat,c=z.heap.objs.size+k:=by
   rcases hc with rfl|rfl
   ·exact⟨1,rfl⟩
   ·exact⟨0,rfl⟩
  obtain⟨k,rfl⟩:=aa;exact zzC _ k
 exact I2.fpOk hc' (I2.hok.fresh hc')
def ap_iEnum1{σ:St}{H:Hp}{R:It->Hp->Prop}:VD K ta σ H R=ta σ H λvs H1=>∃a,vs=[.ref a]/\(∃xs,SqL K H1 a xs)/\R (aaK K a) H1:=rfl
variable{σ:St}{H:Hp}{g:TG}{tb:TS}{D:Ends}{a:Addr}{xs:List V}
def Kc.enum1(q:Nat->St->Hp->Prop)(h0:q 0 σ H)(hl:∀i σ H,i<=xs.length->q i σ H->SqL K H a xs)
  (hs:∀i x σ H p,xs[i]? =some x->q i σ H->H p=none->g (.ref p) σ (upd H p (.tup [.int ((i+1:Nat):Int),x])) λσ2 H2=>tb {D with nx:=q (i+1),ct:=q (i+1),bk:=D.nx} σ2 H2) (hd:∀σ H,q xs.length σ H->D.nx σ H):Kc (aaK K a) g tb D σ H:=by
 refine⟨λi m σ H=>m=xs.length - i/\i<=xs.length/\q i σ H,⟨xs.length,by simp,zV _,h0⟩,?_⟩;rintro i m σ H ⟨rfl,hi,p⟩;have q1:=hl i σ H hi p;by_cases z:i<xs.length
 ·refine .inr ⟨⟨xs,xs[i],q1,by simp[z]⟩,q (i+1),λσ' H' p'=>⟨xs.length - (i+1),by omega,rfl,z,p'⟩,λv H' y=>?_⟩
  obtain⟨pp,x,hp,rfl,rfl,e1⟩:=y;exact hs i x σ _ pp (e1 xs q1) p hp
 ·have e:i=xs.length:=by omega
  subst e;exact .inl ⟨⟨xs,q1,zj _⟩,hd σ H p⟩
end
end L2
namespace L2
open PySem PySem.W PySem.Spec PyProof.Rows
section
noncomputable def FZ(K:Fg_)(w:World)(a:Addr)(kvs:List (Key×V)):Prop:=
 (a==sysModules)=false/\∃(es:List DictEntry)(ep:Nat)(vs:List (Key×Value)),K.lookup a=some ⟨.type "dict",none,.dict es.toArray ep, #[]⟩/\KV kvs vs/\
  (∀P,Pairs (jj P w) es vs)/\(∀e∈es,∃k,Kl k e.key=true/\e.hash=Wq w k)/\(vs.map (·.1)).Nodup
variable{X:Cx}{K:Fg_}{a:Addr}{kvs:List (Key×V)}{pins:List (Addr×Obj)}{σ:St}{H:Hp}{s:Shared}
def FZ.at(g:FZ X.K X.w a kvs)(I:Inv X pins σ H s):∃vs,KV kvs vs/\s.heap.DictOf (jj X.prog X.w) a vs:=by
 obtain⟨_,es,ep,vs,hl,z,hp,q,hn⟩:=g;exact⟨vs,z,_,es.toArray,ep,I.kIn a _ hl,⟨rfl,rfl,rfl⟩,rfl,λe he=>q e (by simpa using he),by simpa using hp X.prog,hn⟩
noncomputable def ZV(K:Fg_)(w:World)(td ty:TE):TE:=λσ H Q=>td σ H λx H1=>ty σ H1 λy H2=>∃a kvs k v,x=.ref a/\FZ K w a kvs/\y=kV k/\nW kvs k=some v/\Q v H2
def Qo{w:World}{o i:Expr}{pos:Pos}{td ty:TE}(ho:PE X o td)(hi:PE X i ty)(hs:abA i)(hK:X.K=K:=by rfl)(z:X.w=w:=by rfl):PE X (.Subscript o i pos) (ZV K w td ty):=by
 subst hK z;intro pins s σ H Q I h;refine WN PySem.F.slot_dict_getitem.lookup hs (thn (ho pins s σ H _ I h) λu s1 ⟨x,H1,I1,rx,q1⟩=>thn (hi pins s1 σ H1 _ I1 q1) λiv s2 ⟨y,H2,I2,ry,a,kvs,k,v,ex,g,ey,l,q2⟩=>?_);subst ex ey;obtain rfl:u=Value.ref a:=rx;obtain⟨vs,rel,dd⟩:=g.at I2;obtain⟨w',z,q⟩:=Hg.some_of (v:=v) (o:=valueAt vs k) (by rw[<-l];exact rel.val k);exact⟨dd.typeIs,wpAny_getItem_of (JS ry) dd.mapOf z ⟨v,H2,I2.tok _,q,q2⟩⟩
noncomputable def abK(K:Fg_)(w:World)(neg:Bool):R2:=λy x H Q=>∃a kvs k,x=.ref a/\FZ K w a kvs/\y=kV k/\Q (.bl (if neg then !(nW kvs k).isSome else(nW kvs k).isSome)) H
def Te{w:World}(hK:X.K=K:=by rfl)(hw:X.w=w:=by rfl):OpR X (compareOp .NotIn) (abK K w true):=by
 subst hK hw;intro pins s σ H y x v u Q I z rx h;obtain⟨a,kvs,k,rfl,g,rfl,q⟩:=h;cases rx;obtain⟨vs,rel,dd⟩:=g.at I;refine wpAny_notIn_of (JS z) g.1 dd.mapOf ?_;rw[<-(rel.val k).isSome_eq];exact⟨.bl _,H,I.tok _,rfl,q⟩
variable{td ty:TE}{Q:VK}{w:World}
def ap_gget:ZV K w td ty σ H Q=td σ H λx H1=>ty σ H1 λy H2=>∃a kvs k v,x=.ref a/\FZ K w a kvs/\y=kV k/\nW kvs k=some v/\Q v H2:=rfl
def ap_inG{q:Bool}{x y:V}:abK K w q y x H Q=∃a kvs k,x=.ref a/\FZ K w a kvs/\y=kV k/\Q (.bl (if q then !(nW kvs k).isSome else(nW kvs k).isSome)) H:=rfl
end
end L2
namespace L2
open PySem PySem.W PySem.Spec PyProof.Rows
section
variable{X:Cx}
noncomputable def abC(te tf:TE):TE:=λσ H Q=>te σ H λv H1=>∃x:Str,v=.str x/\x.length<=1000/\tf σ H1 λu H2=>∃i:Int,u=.int i/\i.natAbs<2^300/\∀z,Q (.str z) H2
noncomputable def ZX(te tf tg:TE):TE:=λσ H Q=>te σ H λv H1=>∃x:Str,v=.str x/\x.length<=1000/\tf σ H1 λu H2=>∃i:Int,u=.int i/\i.natAbs<2^300/\tg σ H2 λu H3=>∃j:Int,u=.int j/\j.natAbs<2^300/\∀z,Q (.str z) H3
variable{e f g:Expr}{pos:Pos}
def e0'(z:Str):(Str.empty++z)=z:=by
 show Str.mk (#[]++z.cps)=z;rw[zzm]
def la'(y z:Str):(y++z).length=y.length+z.length:=by
 show(y.cps++z.cps).size=_;rw[yL];rfl
def Rt{y z:Str}{j1 j2:Nat}{p1 p2 p3 p4:Pos}{te tf:TE}(he:PE X e te)(hf:PE X f tf)(h1:y.length<=1000:=by decide+kernel)(h2:z.length<=1000:=by decide+kernel):
  PE X (.JoinedStr [.FormattedValue e (-1) none p1,.Constant (.str y) j1 p2,.FormattedValue f (-1) none p3,.Constant (.str z) j2 p4] pos) (abC te tf):=by
 intro pins s σ H Q I h;refine yyh (Joins_cons (ye ?_));refine thn (he pins _ σ H _ I h) λv s1 ⟨w,H1,I1,r1,x,ex,hx,q⟩=>?_;subst ex;obtain⟨t1,rfl⟩:=r1;have l1:(Str.empty++x).length<=1000:=by rw[e0'];exact hx
 refine wpAny_formatField_str ⟨_,_,rfl,by rw[zc];omega,?_⟩ ⟨_,_,rfl,by rw[zc];omega,?_⟩ (by rw[zc];omega)
 all_goals
  refine Joins_cons (Calls.Constant_str ⟨y,_,rfl,by rw[la',zc];omega,Joins_cons (ye ?_)⟩);refine thn (hf pins _ σ H1 _ (I1.tok _) q) λv s2 ⟨w,H2,I2,r2,j,ej,hj,q⟩=>?_;subst ej;obtain⟨t2,rfl⟩:=r2;have aa:(gZ j).length<=400:=kJ hj;refine y3 (Mt hj) ⟨_,_,rfl,by rw[la',la',zc];show _+(gZ j).length<=_;omega,Joins_cons (Calls.Constant_str ⟨z,_,rfl,by rw[la',la',la',zc];show _+(gZ j).length+_<=_;omega,Joins_nil ⟨by rw[la',la',la',zc];show _+(gZ j).length+_<=_;omega,.str _,H2,I2.tok _,⟨_,rfl⟩,q _⟩⟩)⟩
def Pq{y z:Str}{j1 j2:Nat}{p1 p2 p3 p4 p5:Pos}{te tf tg:TE}(he:PE X e te)(hf:PE X f tf)(hg:PE X g tg)(h1:y.length<=1000:=by decide+kernel)(h2:z.length<=1000:=by decide+kernel):
  PE X (.JoinedStr [.FormattedValue e (-1) none p1,.Constant (.str y) j1 p2,.FormattedValue f (-1) none p3,.Constant (.str z) j2 p4,.FormattedValue g (-1) none p5] pos) (ZX te tf tg):=by
 intro pins s σ H Q I h;refine yyh (Joins_cons (ye ?_));refine thn (he pins _ σ H _ I h) λv s1 ⟨w,H1,I1,r1,x,ex,hx,q⟩=>?_;subst ex;obtain⟨t1,rfl⟩:=r1;have l1:(Str.empty++x).length<=1000:=by rw[e0'];exact hx
 refine wpAny_formatField_str ⟨_,_,rfl,by rw[zc];omega,?_⟩ ⟨_,_,rfl,by rw[zc];omega,?_⟩ (by rw[zc];omega)
 all_goals
  refine Joins_cons (Calls.Constant_str ⟨y,_,rfl,by rw[la',zc];omega,Joins_cons (ye ?_)⟩);refine thn (hf pins _ σ H1 _ (I1.tok _) q) λv s2 ⟨w,H2,I2,r2,j,ej,hj,q⟩=>?_;subst ej;obtain⟨t2,rfl⟩:=r2;have ab:(gZ j).length<=400:=kJ hj;refine y3 (Mt hj) ⟨_,_,rfl,by rw[la',la',zc];show _+(gZ j).length<=_;omega,Joins_cons (Calls.Constant_str ⟨z,_,rfl,by rw[la',la',la',zc];show _+(gZ j).length+_<=_;omega,Joins_cons (ye ?_)⟩)⟩;refine thn (hg pins _ σ H2 _ (I2.tok _) q) λv s3 ⟨w,H3,I3,r3,i,ei,hi,q⟩=>?_;subst ei;obtain⟨t3,rfl⟩:=r3;have aa:(gZ i).length<=400:=kJ hi;refine y3 (Mt hi) ⟨_,_,rfl,by rw[la',la',la',la',zc];show _+(gZ j).length+_+(gZ i).length<=_;omega,Joins_nil ⟨by rw[la',la',la',la',zc];show _+(gZ j).length+_+(gZ i).length<=_;omega,.str _,H3,I3.tok _,⟨_,rfl⟩,q _⟩⟩
def ap_FTI{te q:TE}{σ:St}{H:Hp}{Q:VK}:abC te q σ H Q=te σ H λv H1=>∃x:Str,v=.str x/\x.length<=1000/\q σ H1 λu H2=>∃i:Int,u=.int i/\i.natAbs<2^300/\∀z,Q (.str z) H2:=rfl
def ap_FTII{te q tg:TE}{σ:St}{H:Hp}{Q:VK}:ZX te q tg σ H Q=te σ H λv H1=>∃x:Str,v=.str x/\x.length<=1000/\q σ H1 λu H2=>∃i:Int,u=.int i/\i.natAbs<2^300/\tg σ H2 λu H3=>∃j:Int,u=.int j/\j.natAbs<2^300/\∀z,Q (.str z) H3:=rfl
end
end L2
namespace HT
open PySem PyProof.Rows
section
open PySem.SeqAt
open PySem.AutoSeq1 (wpAny_loadPart')
open PySem.MeetsSeq PySem.MeetsSeq2 PySem.MeetsSeq3
end
end HT
namespace L2
open PySem PySem.W PySem.Spec PySem.Calls PyProof.Rows
section
variable{X:Cx}
noncomputable def abZ:V->Option Int->Option Int->Hp->VK->Prop:=λx lo hi H Q=>∃z:Str,x=.str z/\z.length<=sizeLine/\Q (.str (Txt.slice z lo hi)) H
def Xg:SlR X abZ:=by
 intro pins s σ H x v vl vu lo hi sl Q I rx hs pl pu h;obtain⟨z,rfl,hz,q⟩:=h;obtain⟨t,rfl⟩:=rx
 have aa:∀{v:Value}{o:Option Int},IsPart v o->∃l,v=partValue l/\l.map (·.1)=o:=fun{v o} h=>by
  cases h with
  |none=>exact⟨none,rfl,rfl⟩
  |int i t=>exact⟨some (i,t),rfl,rfl⟩
 obtain⟨l,rfl,rfl⟩:=aa pl;obtain⟨u,rfl,rfl⟩:=aa pu;refine⟨"str",_,slot_str_getitem.lookup,typeIs_str s z t,?_⟩;refine wpAny_getItem_str_slice (st:=none) hs rfl ?_;have hl:=Txt.slice_le z (l.map (·.1)) (u.map (·.1));unfold Txt.slice at hl q;unfold sliceMade;split
 ·rename_i ab
  rw[zu (by exact ab)]at q;exact⟨.str z,H,I,⟨_,rfl⟩,q⟩
 ·rename_i ab
  rw[zo (by exact ab)]at hl q;exact⟨zQ hl hz,.str _,H,I.tok _,⟨_,rfl⟩,q⟩
end
end L2
namespace L2
open PySem PySem.Spec PyProof.Rows
section
variable{K:Fg_}{H:Hp}{Q:VK}{σ:St}{v:V}{a0 a1 a2 a3 a4 a5 a6 a7 a8 a9:Option V}
def rd{x C dx:Addr}{fs:List (Str×V)}{f:Str}{R:V->Prop}(h:H x=some (.ins C dx fs))(c:Cls K C)(n:gk K C f)(l:List.lookup f fs=some v)(k:R v):∃C dx fs,H x=some (.ins C dx fs)/\Cls K C/\gk K C f/\∃v,List.lookup f fs=some v/\R v:=⟨C,dx,fs,h,c,n,v,l,k⟩
def sw{x C dx:Addr}{fs:List (Str×V)}{f:Str}{R:Addr->Addr->List (Str×V)->Prop}(h:H x=some (.ins C dx fs))(c:Cls K C)(n:gk K C f)(l:fs.length<1000)(k:R C dx fs):∃C dx fs,H x=some (.ins C dx fs)/\Cls K C/\gk K C f/\fs.length<1000/\R C dx fs:=⟨C,dx,fs,h,c,n,l,k⟩
def sz{n:Nat}(h:n<=1000:=by decide):n<=sizeLine:=by rw[zc];omega
def md{x C dx:Addr}{fs:List (Str×V)}{m:Str}{tab:List (Addr×Sp)}{sp:Sp}{R:Sp->Prop}(h:H x=some (.ins C dx fs))(i:(C,sp)∈tab)(l:List.lookup m fs=Option.none)(k:R sp):∃C dx fs,H x=some (.ins C dx fs)/\∃sp,(C,sp)∈tab/\List.lookup m fs=Option.none/\R sp:=⟨C,dx,fs,h,sp,i,l,k⟩
def ln0{α:Type}{P:List α->Prop}(h:P []):∀us:List α,us.length=0->P us:=by
 intro us e
 cases us with
 |nil=>exact h
 |cons=>cases e
def lnS{α:Type}{P:List α->Prop}{n:Nat}(h:∀a us,us.length=n->P (a::us)):∀us:List α,us.length=n+1->P us:=by
 intro us e
 cases us with
 |nil=>cases e
 |cons a us=>exact h a us (Nat.succ.inj e)
def ln1{α:Type}{P:List α->Prop}(h:∀a0,P [a0]):∀us:List α,us.length=1->P us:=lnS λa=>ln0 (h a)
def ln2{α:Type}{P:List α->Prop}(h:∀a0 a1,P [a0,a1]):∀us:List α,us.length=2->P us:=lnS λa=>ln1 (h a)
def ln3{α:Type}{P:List α->Prop}(h:∀a0 a1 a2,P [a0,a1,a2]):∀us:List α,us.length=3->P us:=lnS λa=>ln2 (h a)
def ln4{α:Type}{P:List α->Prop}(h:∀a0 a1 a2 a3,P [a0,a1,a2,a3]):∀us:List α,us.length=4->P us:=lnS λa=>ln3 (h a)
def ln5{α:Type}{P:List α->Prop}(h:∀a0 a1 a2 a3 a4,P [a0,a1,a2,a3,a4]):∀us:List α,us.length=5->P us:=lnS λa=>ln4 (h a)
def ln6{α:Type}{P:List α->Prop}(h:∀a0 a1 a2 a3 a4 a5,P [a0,a1,a2,a3,a4,a5]):∀us:List α,us.length=6->P us:=lnS λa=>ln5 (h a)
def ln7{α:Type}{P:List α->Prop}(h:∀a0 a1 a2 a3 a4 a5 a6,P [a0,a1,a2,a3,a4,a5,a6]):∀us:List α,us.length=7->P us:=lnS λa=>ln6 (h a)
def ln8{α:Type}{P:List α->Prop}(h:∀a0 a1 a2 a3 a4 a5 a6 a7,P [a0,a1,a2,a3,a4,a5,a6,a7]):∀us:List α,us.length=8->P us:=lnS λa=>ln7 (h a)
end
end L2
namespace L2
open PySem PySem.Spec PyProof.Rows
section
variable{X:Cx}{K:Fg_}{H:Hp}{Q:VK}{σ:St}{v:V}{a0 a1 a2 a3 a4 a5 a6 a7 a8 a9 a10 a11 a12 a13 a14:Option V}{P:V->Prop}{R:Addr->Prop}{i:Nat}{f m:Str}{tab:List (Addr×Sp)}{E:XK}{t:TA}{tv:TE}{D:Ends}{e:Expr}{tg:Expr}{st:Stmt}{a:Addr}
noncomputable def atV(σ:St)(i:Nat)(P:V->Prop):Prop:=match σ[i]? with
 |some (some v)=>P v
 |_=>False
noncomputable def onR(x:V)(P:Addr->Prop):Prop:=match x with
 |.ref a=>P a
 |_=>False
def atV_iff:atV σ i P=∃v,σ[i]? =some (some v)/\P v:=by
 unfold atV;split
 ·next v e=>exact propext ⟨λh=>⟨v,e,h⟩,fun⟨w,q,h⟩=>by rw[e]at q;cases q;exact h⟩
 ·next n=>exact propext ⟨λh=>h.elim,fun⟨w,q,_⟩=>(n w q).elim⟩
def Gp{x:V}:onR x R=∃a,x=.ref a/\R a:=propext ⟨λh=>by
 cases x<;>first|exact h.elim|exact⟨_,rfl,h⟩,fun⟨a,e,h⟩=>by rw[e];exact h⟩
noncomputable def tV(i:Nat):TE:=λσ H Q=>atV σ i λv=>Q v H
noncomputable def tFV(K:Fg_)(i:Nat)(f:Str):TE:=λσ H Q=>atV σ i λx=>onR x λa=>∃C dx fs,H a=some (.ins C dx fs)/\Cls K C/\gk K C f/\∃v,List.lookup f fs=some v/\Q v H
noncomputable def tMV(tab:List (Addr×Sp))(m:Str)(E:XK)(i:Nat)(t:TA):TE:=λσ H Q=>atV σ i λx=>onR x λa=>∃C dx fs,H a=some (.ins C dx fs)/\∃sp,(C,sp)∈tab/\List.lookup m fs=none/\t σ H λvs H2=>sp (.ref a::vs) H2 Q E
noncomputable def sFV(K:Fg_)(i:Nat)(tv:TE)(f:Str):TS:=λD σ H=>tv σ H λy H1=>atV σ i λx=>onR x λa=>∃C dx fs,H1 a=some (.ins C dx fs)/\Cls K C/\gk K C f/\fs.length<1000/\D.nx σ (upd H1 a (.ins C dx (Cd f y fs)))
noncomputable def iLV(K:Fg_)(i:Nat):TI:=λσ H R=>atV σ i λx=>onR x λa=>(∃xs,SqL K H a xs)/\R (Itl K a) H
def aaQ:Ij i=tV i:=funext λσ=>funext λH=>funext λQ=>atV_iff.symm
def aaw:aaH K (Ij i) f=tFV K i f:=by
 funext σ H Q;unfold tFV aaH Ij;rw[atV_iff];simp only[Gp,exists_and_left]
def Zj:Lk tab m E (Ij i) t=tMV tab m E i t:=by
 funext σ H Q;unfold tMV Lk Ij;rw[atV_iff];simp only[Gp];refine propext ⟨fun⟨v,e,a,C,dx,fs,sp,q,h1,h2,z,h4⟩=>⟨v,e,a,q,C,dx,fs,h1,sp,h2,z,q▸h4⟩,fun⟨v,e,a,q,C,dx,fs,h1,sp,h2,z,h4⟩=>⟨v,e,a,C,dx,fs,sp,q,h1,h2,z,q▸h4⟩⟩
def YM:Zm K (Ij i) tv f=sFV K i tv f:=by
 funext D σ H;unfold sFV Zm Ij;simp only[atV_iff,Gp,exists_and_left]
def aaD:RW K (Ij i)=iLV K i:=by
 funext σ H R;unfold iLV RW Ij;rw[atV_iff];simp only[Gp]
noncomputable def YC(x:Str):Bool:=!(x==("__debug__" :Str)) && !(x==("__classdict__" :Str))
def orl{α:Sort _}{a:α}{p:Prop}:a=a\/p:=Or.inl rfl
def orr{α:Sort _}{a:α}{p:Prop}:p\/a=a:=Or.inr rfl
def nd1{x:Str}:[x].Nodup:=yI.mpr ⟨zw,List.nodup_nil⟩
def nm1{x:Str}(h:YC x=true):(x==("__debug__" :Str))=false:=by unfold YC at h;revert h;cases x==("__debug__" :Str)<;>simp
def nm2{x:Str}(h:YC x=true):(x==("__classdict__" :Str))=false:=by unfold YC at h;revert h;cases x==("__classdict__" :Str)<;>simp
def pvD(i:Nat){x:Str}{pos:Pos}(q:X.N[i]? =some x:=by rfl)(hv:Vis X.env.scope x:=by walk_at "o") (hd:YC x=true:=by rfl):PE X (.Name x pos) (tV i):=aaQ▸pv i q hv (nm1 hd) (nm2 hd)
def pav(i:Nat){x:Str}{pos:Pos}{es:List Expr}{t:TA}(q:PA X es t)(z:X.N[i]? =some x:=by rfl)(hv:Vis X.env.scope x:=by walk_at "o") (hd:YC x=true:=by rfl) (hs:starEach (.Name x pos::es) X.env=(false,eval (.Name x pos) X.env)::starEach es X.env:=by rfl):PA X (.Name x pos::es) (uy (tV i) t):=fH (pvD i z hv hd) q hs
def Yc{pos:Pos}(he:PE X e (Ij i))(q:attributeBase e f X.env (eval e X.env)=eval e X.env)(z:X.K=K:=by rfl):PE X (.Attribute e f pos) (tFV K i f):=aaw▸XH he q z
def iR{o value:Expr}{pos pos':Pos}(ha:PE X o (Ij i))(hv:PE X value tv)(q:swapsWith value (some (.Attribute o f pos')) pos.line X.env=pure false)(z:X.K=K:=by rfl):PS X (.Assign [.Attribute o f pos'] value pos) (sFV K i tv f):=YM▸XF ha hv q z
def lG(z:PE X e (Ij i))(q:X.K=K:=by rfl):PI X tg e (iLV K i):=aaD▸vC z q
def lV{CX:CXT}{pos apos:Pos}{o:Expr}{pl:Sem Bool}(he:PE X o (Ij i))(T:Uv X CX m tab)(q:vN CX X E)
  (z:eval (.Call (.Attribute o m apos) [] [] pos) X.env=(do
   let ov<-eval o X.env
   standAt apos.atName
   let(f,first)<-holding [ov] (getMethod ov m pl)
   callWith pos f first (backTo pos (starEach [] X.env)) (backToKw pos (keywordEach [] X.env))):=by rfl):
  PE X (.Call (.Attribute o m apos) [] [] pos) (tMV tab m E i Ro):=Zj▸QL (pl:=pl) he T q z
def av_V:tV i σ H Q=atV σ i λv=>Q v H:=rfl
def av_F:tFV K i f σ H Q=atV σ i λx=>onR x λa=>∃C dx fs,H a=some (.ins C dx fs)/\Cls K C/\gk K C f/\∃v,List.lookup f fs=some v/\Q v H:=rfl
def av_M:tMV tab m E i t σ H Q=atV σ i λx=>onR x λa=>∃C dx fs,H a=some (.ins C dx fs)/\∃sp,(C,sp)∈tab/\List.lookup m fs=none/\t σ H λvs H2=>sp (.ref a::vs) H2 Q E:=rfl
def av_S:sFV K i tv f D σ H=tv σ H λy H1=>atV σ i λx=>onR x λa=>∃C dx fs,H1 a=some (.ins C dx fs)/\Cls K C/\gk K C f/\fs.length<1000/\D.nx σ (upd H1 a (.ins C dx (Cd f y fs))):=rfl
def av_L{R:It->Hp->Prop}:iLV K i σ H R=atV σ i λx=>onR x λa=>(∃xs,SqL K H a xs)/\R (Itl K a) H:=rfl
def av_r:onR (.ref a) R=R a:=rfl
def av0:atV (some v::σ) 0 P=P v:=rfl
def av1:atV (a0::some v::σ) 1 P=P v:=rfl
def av2:atV (a0::a1::some v::σ) 2 P=P v:=rfl
def av3:atV (a0::a1::a2::some v::σ) 3 P=P v:=rfl
def av4:atV (a0::a1::a2::a3::some v::σ) 4 P=P v:=rfl
def av5:atV (a0::a1::a2::a3::a4::some v::σ) 5 P=P v:=rfl
def av6:atV (a0::a1::a2::a3::a4::a5::some v::σ) 6 P=P v:=rfl
def av7:atV (a0::a1::a2::a3::a4::a5::a6::some v::σ) 7 P=P v:=rfl
def av8:atV (a0::a1::a2::a3::a4::a5::a6::a7::some v::σ) 8 P=P v:=rfl
def av9:atV (a0::a1::a2::a3::a4::a5::a6::a7::a8::some v::σ) 9 P=P v:=rfl
def av10:atV (a0::a1::a2::a3::a4::a5::a6::a7::a8::a9::some v::σ) 10 P=P v:=rfl
def av11:atV (a0::a1::a2::a3::a4::a5::a6::a7::a8::a9::a10::some v::σ) 11 P=P v:=rfl
def av12:atV (a0::a1::a2::a3::a4::a5::a6::a7::a8::a9::a10::a11::some v::σ) 12 P=P v:=rfl
def av13:atV (a0::a1::a2::a3::a4::a5::a6::a7::a8::a9::a10::a11::a12::some v::σ) 13 P=P v:=rfl
def av14:atV (a0::a1::a2::a3::a4::a5::a6::a7::a8::a9::a10::a11::a12::a13::some v::σ) 14 P=P v:=rfl
def av15:atV (a0::a1::a2::a3::a4::a5::a6::a7::a8::a9::a10::a11::a12::a13::a14::some v::σ) 15 P=P v:=rfl
def mc{CX:CXT}{C f:Addr}{fd:FuncData}{ps:List Str}{sp:Sp}{k n:Nat}{r:List (Addr×Sp)}(c:Cls X.K C)(hm:Meth X.K C m f)(F:jn X.prog X.w X.K X.mg X.base CX k f fd ps sp)(hr:mH n X.A)(z:Binds X.K fd ps [])(t:Uv X CX m r)(q:k<=n:=by decide):Uv X CX m ((C,sp)::r):=.cons c hm F (hr.mono q) z t
end
end L2
namespace L2
open PySem PySem.Spec PyProof.Rows
structure FG(K:Fg_)(mg:Str->Option Value)(x:Str)(st:Stmt)(f:Addr)(fd:FuncData):Prop where
 m:mg x=some (.ref f)
 k:PySem.W.keepIn K (.ref f)=true
 F:Fun K x x st f fd
section
variable{X:Cx}{t:TA}{e:Expr}
def pcg{k n:Nat}{f:Addr}{fd:FuncData}{ps:List Str}{sp:Sp}{x:Str}{st:Stmt}{p pos:Pos}{es:List Expr}(F:jn X.prog X.w X.K X.mg X.base CX0 k f fd ps sp)(hr:mH n X.A)(g:FG X.K X.mg x st f fd)(z:Binds X.K fd ps [])(ha:PA X (e::es) t)(q:k<=n:=by decide)(hg:Gl X x:=by rfl)(hd:(x==("__debug__" :Str))=false:=by decide)
  (hst:starEach (e::es) X.env=(false,eval e X.env)::starEach es X.env:=by rfl) (hpl:(backTo pos (starEach es X.env)).any (·.1)=false:=by rfl):PE X (.Call (.Name x p) (e::es) [] pos) (Vd sp [] E0 t):=iu F (hr.mono q) hg g.m g.k z .nil Jl ha hd hst hpl
end
end L2
namespace L2
open PySem PySem.Spec PyProof.Rows
section
variable{M:Model}{A:Around}{E:Value->Shared->Prop}{s:Shared}
def Gm{base:Heap}{l:List Env}{e L:Addr}{cls a0 fl:Value}{Q:Unit->Shared->Prop}(ae:base.StaysIn s.heap)(hl:s.heap.FunFrames base l)(R:s.heap.TracedAtW base e cls a0 fl)
  (h:∀h',base.StaysIn h'->h'.FunFrames base l->h'.TracedAtW base e cls a0 (rawInt L)->s.heap.UpToSlots h'->Q () {s with heap:=h'}):wpAny M A (setFlight (.ref e) (some L)) Q E s:=by
 obtain⟨oe,vs,T,oT,ts,he,hc,hd,h1,ad,ac,hT,aa,h3⟩:=R;have z3:3<ts.size:=(zz0.mp h3).1;have ab:∀b,b≠T->(s.heap.update T (Obj.mapFields (·.setIfInBounds 3 ((some L).elim Value.none λf=>rawInt f)))).get? b=s.heap.get? b:=λb z=>yD _ _ (Ne.symm z)
 have nr:∀b o,s.heap.get? b=some o->(∀vs,o.data≠.fields vs)->b≠T:=λb o z hn q=>by
  rw[q,hT]at z;injection z with z;subst z;exact hn ts aa
 unfold setFlight;refine ze (zzc he hd h1 ?_);rw[zu (show(Value.ref T !=Value.none)=true from by simp)];refine wpAny_setField hT aa z3 (h _ (λb o z=>(ab b λq=>by rw[q,ad]at z;cases z).trans (ae b o z)) (hl.of_keeps λb o z hn=>⟨o,(ab b (nr b o z hn)).trans z,rfl⟩) ?_ λb o z hn=>⟨o.slots,(ab b (nr b o z hn)).trans z⟩);exact⟨oe,vs,T,_,_,(ab e (Ne.symm ac)).trans he,hc,hd,h1,ad,ac,yi _ hT (Obj.isFreed_of_fields (Obj.data_mapFields aa _)),Obj.data_mapFields aa _,by simp[z3]⟩
def Ea{base:Heap}{env:Env}{outer:List Env}{L e:Addr}{oe:Obj}{vs:Array Value}{a0:Value}{Q:Unit->Shared->Prop}
  (aa:A.frames=some (env::outer)) (hl:s.heap.FunFrames base (env::outer)) (hf:env.frame=some L)
  (he:s.heap.get? e=some oe) (z:base.StaysIn s.heap) (q:base.get? e=none) (hd:oe.data=.fields vs) (h1:vs[1]? =some .none) (h0:vs[0]? =some a0)
  (h:∀h',Heap.NotedW base (env::outer) e oe.cls a0 (rawInt L) s.heap h'->Q () {s with heap:=h'}):wpAny M A (noteFrame (.ref e) env) Q E s:=by
 unfold noteFrame;simp only[hf];refine ze (zzc he hd h1 ?_);rw[zo (by decide)];exact wpAny_entryW aa hl hf he z q hd (zz0.mp h1).1 h0 h
end
noncomputable def RJ(X:Cx)(E:XK):Prop:=∀(pins:List (Addr×Obj))(σ:St)(H:Hp)(s:Shared)(e C d ea:Addr)(t0:Value),Inv X pins σ H s->s.heap.get? e=some ⟨.ref C,some d,.fields #[t0,.none,.ref ea,.none,.bool true,.none], #[]⟩->H e=none->X.s₀.heap.get? e=none->E (.ref C) (some d) H->
 notedBy (model X.prog X.w) (X.A.mark (some (.ref ea))) X.env (λx s2=>cameBackBy (model X.prog X.w) X.A X.env X.xe x s2) (.ref e) s
section
variable{P:Program}{w:World}{K:Fg_}{mg:Str->Option Value}{base:Heap}{N:List Str}{qual:Str}{scope:Scope}{f:Addr}{cd:Value}{A:Around}{outer:List Env}{s₀:Shared}{H₀:Hp}{E:XK}
def Pa:RJ (uD (CX1 P w) P w K mg base N qual scope f cd A outer s₀ H₀ E) E:=by
 intro pins σ H s e C d ea t0 I he hH hs hE;have fr:=I.ok.frames;have ab:∀env∈(envOfC qual scope s₀.heap.objs.size f cd::outer),∀b,env.frame=some b->b∈e::frs (envOfC qual scope s₀.heap.objs.size f cd::outer):=λenv he b hb=>zt _ (yd.mpr ⟨env,he,hb⟩);have stk:s.heap.FunFrames (PySem.W.hideAll s.heap (e::frs (envOfC qual scope s₀.heap.objs.size f cd::outer))) (envOfC qual scope s₀.heap.objs.size f cd::outer):=zzu I.stack ab;have ae:(PySem.W.hideAll s.heap (e::frs (envOfC qual scope s₀.heap.objs.size f cd::outer))).get? e=none:=y9 _ zi;show wpAny _ _ (noteFrame (.ref e) (envOfC qual scope s₀.heap.objs.size f cd)) _ _ s;refine zR (jN (KD.noteFrame _ _) (Ea (base:=PySem.W.hideAll s.heap (e::frs (envOfC qual scope s₀.heap.objs.size f cd::outer))) (Q:=λ_ s2=>∃h2,s2={s with heap:=h2}/\Heap.NotedW (PySem.W.hideAll s.heap (e::frs (envOfC qual scope s₀.heap.objs.size f cd::outer))) (envOfC qual scope s₀.heap.objs.size f cd::outer) e (.ref C) t0 (rawInt s₀.heap.objs.size) s.heap h2) fr stk rfl he (λb o q=>zzZ _ q) ae rfl rfl rfl λh2 lw=>⟨h2,rfl,lw⟩)) (λ_ s2 z=>?_) (λ_ _ z=>z);obtain⟨⟨h2,rfl,n1,n2,n3,n4⟩,ad⟩:=z
 show wpAny _ _ (do
  if(<-field (.ref e) 1)==.none then unsupported "frame.own-activation:exception-without-traceback"
  setFlight (.ref e) (some s₀.heap.objs.size)) _ _ _
 obtain⟨oe,vs,T,oT,ts,g1,g2,g3,g4,g5⟩:=id n3;refine ze (zzc g1 g3 g4 ?_);rw[zo (show¬((Value.ref T==Value.none)=true)from by simp)];refine zR (jN (KD.setFlight _ _) (Gm (Q:=λ_ s2=>∃h3,s2={s with heap:=h3}/\(PySem.W.hideAll s.heap (e::frs (envOfC qual scope s₀.heap.objs.size f cd::outer))).StaysIn h3/\h3.FunFrames (PySem.W.hideAll s.heap (e::frs (envOfC qual scope s₀.heap.objs.size f cd::outer))) (envOfC qual scope s₀.heap.objs.size f cd::outer)/\h3.TracedAtW (PySem.W.hideAll s.heap (e::frs (envOfC qual scope s₀.heap.objs.size f cd::outer))) e (.ref C) t0 (rawInt s₀.heap.objs.size)/\h2.UpToSlots h3) n1 n2 n3 λh3 a b c d=>⟨h3,rfl,a,b,c,d⟩)) (λ_ s3 z=>?_) (λ_ _ z=>z);obtain⟨⟨h3,rfl,m1,m2,m3,m4⟩,ac⟩:=z;show wpAny _ _ (leaving (envOfC qual scope s₀.heap.objs.size f cd) (.ref e)) _ _ _;unfold leaving;refine ze (wpAny_noteFrame_againW rfl m3 ?_);refine zR (jN (KD.setFlight _ _) (wpAny_setFlight_noneW (Q:=λ_ s2=>∃h4,s2={s with heap:=h4}/\(PySem.W.hideAll s.heap (e::frs (envOfC qual scope s₀.heap.objs.size f cd::outer))).StaysIn h4/\h4.FunFrames (PySem.W.hideAll s.heap (e::frs (envOfC qual scope s₀.heap.objs.size f cd::outer))) (envOfC qual scope s₀.heap.objs.size f cd::outer)/\h4.TracedW (PySem.W.hideAll s.heap (e::frs (envOfC qual scope s₀.heap.objs.size f cd::outer))) e (.ref C) t0/\h3.UpToSlots h4) m1 m2 m3 λh4 a b c d=>⟨h4,rfl,a,b,c,λq o z1 z2=>⟨o.slots,d q o z1 z2⟩⟩)) (λ_ s3 z=>?_) (λ_ _ z=>z);obtain⟨⟨h4,rfl,p1,p2,p3,p4⟩,aa⟩:=z;exact Fo I he rfl rfl rfl rfl hH hs hE (λz=>nomatch z) ⟨p1,p2,p3,((show s.heap.UpToSlots h2 from n4).trans m4).trans p4⟩ ((ad.trans ac).trans aa)
end
end L2
namespace L2
open PySem PySem.Spec PyProof.Rows
section
variable{prog:Program}{w:World}{A:Around}{E:Value->Shared->Prop}
def GC:entryFor table "proto.unchain" =some Builtin.«proto.unchain»:=entryFor_of_fast (by kernel_rfl)
def Gr:plainId "proto.unchain" =true:=by decide+kernel
def NP{s:Shared}{e ea:Addr}{z:Obj}{q:Array Value}{Q:Value->Shared->Prop}(ha:s.heap.get? ea=some z)(hd:z.data=.fields q)(h2:q[2]? =some .none)(hq:Q .none s):
  wpAny (model prog w) A (runValue (.builtin "proto.unchain" ⟨[.ref e,.ref ea,.ref ea,.bool false],[]⟩)) Q E s:=by
 refine wpAny_runValue (codeAny_builtin GC ?_);rw[Around.under_plainId Gr _]
 show wpAny _ _ (do
  let context<-field (.ref ea) 2
  if context==.none then return<-ret .none
  if context==Value.ref e then
   rule "raise.context-cycle-cut"
   setField (.ref ea) 2 .none
   return<-ret .none
  if context==Value.ref ea then rule "raise.context-old-cycle";return<-ret .none
  let slow<-if false then field (.ref ea) 2 else pure (Value.ref ea)
  again (.builtin "proto.unchain" ⟨[.ref e,context,slow,.bool !false],[]⟩)) _ _ s
 refine ze (zzc ha hd h2 ?_);rw[zu (by decide)];exact zn hq
def Le{C N ea:Addr}{nm q:Str}{bs bm:List Value}{hdct:Bool}{sn:List Str}{sub:List Value}{ab:Bool}{col:Option Bool}{dd:Option Addr}{k0 k1 k2 k3 k5:Option Value}{newId:String}{env:Env}{s:Shared}{x c:Sem Value}{Q:Flow->Shared->Prop}
  (hB:bm.contains (.type "BaseException")=true) (hh:A.handled=some (.ref ea)) (hc:∀{s:Shared}{R:Value->Shared->Prop},R .none s->wpAny (model prog w) A c R E s)
  (hx:wpAny (model prog w) A x (λv s₁=>∃e d t0 oa va,v=.ref e/\s₁.heap.get? C=some (excClassObj nm q C N bs bm hdct sn sub ab col dd k0 k1 k2 k3 k5 newId)/\s₁.heap.get? e=some ⟨.ref C,some d,.fields #[t0,.none,.none,.none,.bool false,.none], #[]⟩/\ea≠e/\
   s₁.heap.get? ea=some oa/\oa.data=.fields va/\va[2]? =some .none/\∀h',h'.get? e=some ⟨.ref C,some d,.fields #[t0,.none,.ref ea,.none,.bool true,.none], #[]⟩->(∀b,b≠e->h'.get? b=s₁.heap.get? b)->E (.ref e) {s₁ with heap:=h'}) (λ_ _=>False) s):
  wpAny (model prog w) A (raiseStmt env (some x) (some c)) Q E s:=by
 unfold raiseStmt;refine ze (zR hx (λv s₁ hv=>?_) λ_ _ z=>False.elim z);obtain⟨e,d,t0,oa,va,rfl,gC,ge,aa,ga,gd,g2,hE⟩:=hv;obtain⟨h,g,dr,t,os⟩:=s₁;have ae:(Value.ref C::bm).contains (.type "BaseException")=true:=by rw[yu,hB,zzv]
 refine ze (yn (hc (ze (zn ?_))));dsimp only;refine ze (yn ?_);unfold excFromValue
 repeat (any_goals (first|assumption|(with_reducible refine zD ge ?_)|(with_reducible refine zD gC ?_)|(with_reducible refine yq gC ?_;rw[ae])|wp_step))
 have e1:(h.update e (Obj.mapFields λx=>x.setIfInBounds 3 Value.none)).get? e=some ⟨.ref C,some d,.fields #[t0,.none,.none,.none,.bool false,.none], #[]⟩:=yi (o:=⟨.ref C,some d,.fields #[t0,.none,.none,.none,.bool false,.none], #[]⟩) _ ge rfl;have e2:((h.update e (Obj.mapFields λx=>x.setIfInBounds 3 Value.none)).update e (Obj.mapFields λx=>x.setIfInBounds 4 (Value.bool true))).get? e=some ⟨.ref C,some d,.fields #[t0,.none,.none,.none,.bool true,.none], #[]⟩:=yi (o:=⟨.ref C,some d,.fields #[t0,.none,.none,.none,.bool false,.none], #[]⟩) _ e1 rfl;have e3:∀b,b≠e->((h.update e (Obj.mapFields λx=>x.setIfInBounds 3 Value.none)).update e (Obj.mapFields λx=>x.setIfInBounds 4 (Value.bool true))).get? b=h.get? b:=λb hb=>(yD _ _ (Ne.symm hb)).trans (yD _ _ (Ne.symm hb))
 have ac:C≠e:=λz=>by
  have gC:h.get? C=_:=gC;have ge:h.get? e=_:=ge;rw[z,ge]at gC;exact absurd (congrArg Obj.data (zf gC)) (λz=>nomatch z)
 generalize(h.update e (Obj.mapFields λx=>x.setIfInBounds 3 Value.none)).update e (Obj.mapFields λx=>x.setIfInBounds 4 (Value.bool true))=h2 at e2 e3⊢;have af:=(e3 C ac).trans gC;have ad:=(e3 ea aa).trans ga;refine zD af ?_;refine zn ?_;rw[zu (by rfl)];refine zn ?_;refine ze ?_;unfold setFlight;refine ze (zzc (x:=Value.none) e2 rfl rfl ?_);rw[zo (show¬((Value.none !=Value.none)=true)from by decide)];refine zn ?_;unfold raiseNew;refine ze (wpAny_handled ?_);rw[hh];dsimp only;rw[zu (show(Value.ref ea !=Value.ref e)=true from by simpa using aa)];refine ze (yn (NP ad gd g2 ?_));refine ze ?_;refine wpAny_setField (a:=e) (i:=2) e2 rfl (show 2<6 from by decide) ?_;refine wpAny_throw (hE _ ?_ λb hb=>?_)
 ·exact yi (o:=⟨.ref C,some d,.fields #[t0,.none,.none,.none,.bool true,.none], #[]⟩) _ e2 rfl
 ·exact(yD _ _ (Ne.symm hb)).trans (e3 b hb)
end
end L2
namespace L2
open PySem PySem.Spec PyProof.Rows
structure QW(k:Nat)(A:Around):Prop where
 dp:A.depth+3*k+5<recursionLimit
 un:A.units+16*k+200<cLine
def QW.make{k:Nat}{A:Around}(r:QW (k+1) A)(C:Addr)(us:List Value)(q:List (Str×Value)):QW k (A.under (.builtin "type.__call__" ⟨.ref C::us,q⟩)):=
 ⟨by have:=r.dp;rw[Eu];omega,by have:=r.un;rw[Ff];omega⟩
structure Oc(P:Program)(w:World)(K:Fg_)(mg:Str->Option Value)(base:Heap)(k:Nat)(f:Addr)(fd:FuncData)(ps:List Str)(sp:Sp):Prop where
 len:∀vs H Q E,sp vs H Q E->vs.length=ps.length
 run:∀(A:Around)(outer:List Env)(s:Shared)(H:Hp)(args:Args)(us:List Value)(vs:List V)(Q:VK)(E:XK),QW k A->Vy P w K mg base A outer s H->BindsTo s fd args (ps.zip us)->Vals vs us->sp vs H Q E->
  codeAny (model P w) A (.call (.ref f) args) (CR CX0 outer P w H s Q E) s
def Oc.ok{P:Program}{w:World}{K:Fg_}{mg:Str->Option Value}{base:Heap}{k:Nat}{f:Addr}{fd:FuncData}{ps:List Str}{sp:Sp}(F:Oc P w K mg base k f fd ps sp):jn P w K mg base CX0 k f fd ps sp:=
 ⟨F.len,λA outer s H args us vs Q E q=>F.run A outer s H args us vs Q E ⟨q.dp,q.un⟩⟩
abbrev cxH(P:Program)(w:World)(K:Fg_)(mg:Str->Option Value)(base:Heap)(N:List Str)(qual:Str)(scope:Scope)(f:Addr)(cd:Value)(A:Around)(outer:List Env)(s:Shared)(H:Hp):Cx:=
 {uD CX0 P w K mg base N qual scope f cd A outer s H E0 with calm:=false,xe:=λ_ _=>False}
def Fun.okH{P:Program}{w:World}{K:Fg_}{mg:Str->Option Value}{base:Heap}{x qual:Str}{st:Stmt}{f:Addr}{fd:FuncData}{N ps:List Str}{k:Nat}{sp:Sp}(F:Fun K x qual st f fd)(S:gb N ps (fP st))(len:∀vs H Q E,sp vs H Q E->vs.length=ps.length)
  (ac:∀(aa:Value)(A:Around)(outer:List Env)(s:Shared)(H:Hp)(vs:List V)(Q:VK)(E:XK),sp vs H Q E->
   ∃t,PSs (cxH P w K mg base N qual (fP st) f aa A outer s H) (iC st) t/\t {nx:=λ_ H'=>Q .non H',rt:=Q} (start N vs) H):Oc P w K mg base (k+1) f fd ps sp:=by
 obtain⟨oc,od,kV,ai,pm,an,aa,ct,ah,rfl,lk,ag⟩:=F.ex;refine⟨len,λA outer s H args us vs Q E hr e0 hb r ae=>?_⟩;have hl:=len _ _ _ _ ae;have KX:K.In s.heap:=e0.mod.kin.keeps λb o e=>(e0.bs b o e).1;have af:s.heap.NoLimit:=e0.mod.nolimit.keeps λb o e=>(e0.bs b o e).1
 have ab:∀y∈ps.zip us,(fP st).names.lookup y.1=some .local\/((fP st).names.lookup y.1=some .cell/\((cellsFrom (s.heap.objs.size+1) (fP st).names []).lookup y.1).isSome=true):=fun⟨n,v⟩ hy=>by
  rcases S.par n (zzL hy).1 with q|q
  ·exact .inl q
  ·exact .inr ⟨q,zzq _ _ _ (.inl q)⟩
 refine codeAny_call_function (by have:=hr.dp;omega) (KX _ _ lk) rfl S.co S.gen rfl (PySem.W.codeRec_of KX ag) (hb _ _ _ _ ?_);refine zz7 S.kind ab λenv he s1 x=>?_;subst he;refine⟨af.keeps x.toInCall.keep,codeAny_func ?_⟩;obtain⟨t,ht,hq⟩:=ac aa A outer s H vs Q E ae;have J:Inv (uD CX0 P w K mg base N qual (fP st) f aa {A with handled:=none} outer s H E0) [] (start N vs) H s1:=Iu S rfl ⟨e0.frames,e0.mod,e0.bs,e0.bsz,e0.funs,e0.frf,e0.hok,e0.bare⟩ hl r x
 have I:Inv (cxH P w K mg base N qual (fP st) f aa A outer s H) [] (start N vs) H s1:=
  ⟨⟨J.ok.mod,J.ok.kind,J.ok.glob,J.ok.blt,J.ok.above,J.ok.inj,J.ok.has,J.ok.cab,λz=>(nomatch z),Around.frames_deeper e0.frames,J.ok.stk,J.ok.exf,J.ok.bs,J.ok.bsz,J.ok.noex,J.ok.exfs,J.ok.funs,J.ok.frf⟩,J.os,J.bare,J.base,J.loc,J.cell,J.free,J.freeC,J.pin,J.hok,J.len⟩
 refine zR (ht [] s1 (start N vs) H _ I hq) (λfl s' hs=>?_) λe s' hs=>False.elim hs
 have ad:∀{σ':St}{H':Hp}{v:V}{u:Value},Inv (cxH P w K mg base N qual (fP st) f aa A outer s H) [] σ' H' s'->RelV v u->Q v H'->CE outer P w H s Q u s':=
  fun{σ' H' v u} J rv q=>⟨v,H',J.os,J.bare,J.base,J.hok,rv,q⟩
 cases fl with
 |ret u=>
  obtain⟨v,σ',H',J,rv,q⟩:=hs;exact ad J rv q
 |next=>
  obtain⟨σ',H',J,q⟩:=hs;exact ad (v:=V.non) (u:=Value.none) J rfl q
 |brk=>
  obtain⟨_,_,_,q⟩:=hs;exact False.elim q
 |cont=>
  obtain⟨_,_,_,q⟩:=hs;exact False.elim q
section
variable{X:Cx}{k:Nat}{f C:Addr}{fd:FuncData}{ps:List Str}{sp:Sp}{dvs:List V}{ds:List Value}
def Pj{pins:List (Addr×Obj)}{σ:St}{H:Hp}{s:Shared}{Q:Addr->Hp->Prop}{us:List Value}{vs:List V}(M:mX X.K C f)(F:Oc X.prog X.w X.K X.mg X.base k f fd ps sp)(hr:QW (k+1) X.A)(hb:Binds X.K fd ps ds)(hd:Vals dvs ds)
  (I:Inv X pins σ H s) (r:Vals vs us) (hz:vs.length<=sizeLine)
  (h:∀e,H e=none->sp (.ref e::(vs++dvs)) (upd H e (Hh C e)) (λv H2=>v=.non/\Q e H2) E0):
  wpAny (model X.prog X.w) X.A (call (.ref C) us) (λu s'=>∃e H',u=.ref e/\X.s₀.heap.objs.size<=e/\Inv X pins σ H' s'/\Q e H') X.xe s:=by
 obtain⟨nm,qn,N,bs,bm,sn,sub,ab,col,dd,k0,k1,k2,k3,k5,g1,g2⟩:=M.obj I.kIn;obtain⟨oI,g3,g4⟩:=M.fun_ I.kIn;have hsz:=I.sz;have aa:=I.kIn;have hq:=h (s.heap.objs.size+1) (I.hok.fresh (zzn _));obtain⟨h0,g,d,tt,os⟩:=s;refine YS (K:=X.K) aa yo g2 g1 M.ini g3 g4 (by rw[<-r.length];exact hz) λh' mk=>?_;obtain⟨t0,q1,q2,q3⟩:=mk.there;have I2:Inv X pins σ (upd H (h0.objs.size+1) (Hh C (h0.objs.size+1))) ⟨h',g,d,tt,os⟩:=I.laid (t':=tt) mk.keeps (zzn _) (show iH _ _ _ _ _ (Hh C _)from⟨⟨_,q1⟩,⟨_,q1⟩,λh1 h2 ⟨t1,z⟩ kk=>⟨t1,kk _ z⟩⟩);have r2:Vals (V.ref (h0.objs.size+1)::(vs++dvs)) (Value.ref (h0.objs.size+1)::(us++ds)):=.cons rfl (r.append hd)
 have hl:(Value.ref (h0.objs.size+1)::us++ds).length=ps.length:=by
  have e:=r2.length;rw[F.len _ _ _ _ hq]at e;exact e.symm
 refine codeAny_mono (F.run _ X.stack _ _ ⟨Value.ref (h0.objs.size+1)::us,[]⟩ (Value.ref (h0.objs.size+1)::(us++ds)) _ _ E0 (hr.make C us []) (I2.env0.make C us []) (hb _ (Value.ref (h0.objs.size+1)::us) I2.kIn hl) r2 hq) λr s' q=>?_
 cases r with
 |error e=>exact False.elim q
 |ok fl=>
  cases fl with
  |ret u=>
   obtain⟨v,H',I3,rv,ev,q3⟩:=I2.after q;subst ev;exact⟨rv,⟨_,H',rfl,zQ hsz (zzn _),I3,q3⟩⟩
  |next=>exact False.elim q
  |brk=>exact False.elim q
  |cont=>exact False.elim q
end
end L2
namespace L2
open PySem PySem.Spec PyProof.Rows
section
variable{X:Cx}{k:Nat}{f C D:Addr}{fd:FuncData}{ps:List Str}{E:XK}{x y fn:Str}{np yp cpos pos rpos kpos hpos rp:Pos}{e a ke:Expr}{es:List Expr}{t:TA}{te:TX}
noncomputable def Px(C e:Addr):HO:=.ext λh=>∃o vs,h.get? e=some o/\o.cls=.ref C/\o.data=.fields vs/\vs[2]? =some .none
noncomputable def aam(te:TX)(C D:Addr)(fn:Str)(E:XK)(t:TA):TS:=λDn σ H=>te σ H (λv H1=>Dn.rt v H1) λcls dd H1=>cls=.ref C/\dd=none/\∀ea,H1 ea=none->t σ (upd H1 ea (Px C ea)) λvs H2=>∃n:Int,vs=[.int n]/\n.natAbs<2^300/\H2 ea=some (Px C ea)/\∀d,H2 d=none->E (.ref D) (some d) (upd H2 d (.xd [(fn,.int n)]))
def Inv.landedN{pins:List (Addr×Obj)}{σ:St}{H1 H':Hp}{s1 s':Shared}{ea C:Addr}{a0:Value}{B h6:Heap}(I:Inv X pins σ H1 s1)(os:s'.os=s1.os)(bare:AllBare s'.gens)(un:Un (frs X.stack) [] H1 H' s1.heap s'.heap)(hok:HOk X.prog X.w H' B)
  (fl:Heap.FlyingW B X.stack ea (.ref C) a0 s'.heap) (k1:∀b o,s1.heap.get? b=some o->H1 b=none->b∉frs X.stack->B.get? b=some o) (k2:∀b o,s1.heap.get? b=some o->b∉frs X.stack->∃o',B.get? b=some o') (hn:H' ea=none)
  (q:Heap.FlyingW B X.stack ea (.ref C) a0 h6) (ab:s'.heap.UpToSlots h6) (aa:xO h6 ea none):Inv X pins σ (upd H' ea (Px C ea)) {s' with heap:=h6}:=by
 have I0:=I.landed os bare un hok fl k1 k2 hn q ab
 have eH:upd (upd H' ea (abN C ea)) ea (Px C ea)=upd H' ea (Px C ea):=by
  funext b;by_cases hb:b=ea
  ·subst hb;rw[fK,fK]
  ·rw[fY hb,fY hb,fY hb]
 rw[<-eH];obtain⟨oe,vs,q3,cc,dd,_⟩:=q.first
 obtain⟨o2,q4,q5,q6⟩:=aa;rw[q3]at q4;cases q4;exact I0.write (t':=s'.toks) (x:=ea) (e:=ea) (by rw[fK];exact True.intro) (.inl rfl) (λb u _ z=>z) ⟨_,q3⟩ (show iH _ _ _ _ _ (Px C ea)from⟨⟨oe,vs,q3,cc,dd,q6 rfl vs dd⟩,⟨oe,q3⟩,λh1 h2 ⟨o,v2,e1,e2⟩ k=>⟨o,v2,k o e1,e2⟩⟩)
def Xo{fI:Addr}(hR:RJ X E)(h:PEx X (CX1 X.prog X.w) e te)(c:aaG X.K C)(hg:Gl X x)(hm:X.mg x=some (.ref C))(bl:X.env.frame=some X.env.locals)(ae:X.stack=X.env::X.outer)
  (M:mX X.K D f) (F:Oc X.prog X.w X.K X.mg X.base k f fd ps (Ft D fn)) (hr:mH (k+1) X.A) (az:Gl X y) (av:X.mg y=some (.ref D)) (hb:Binds X.K fd ps []) (ha:∀ea,PA (X.inSuite ea) (a::es) t)
  (hd:(x==("__debug__" :Str))=false:=by decide) (hdb:(y==("__debug__" :Str))=false:=by decide) (hce:eval ke X.env=pure Value.none:=by rfl)
  (he:starEach (a::es) X.env=(false,eval a X.env)::starEach es X.env:=by rfl) (hpl:(backTo cpos (starEach es X.env)).any (·.1)=false:=by rfl):
  PS X (.Try [.Return (some e) rpos] [.ExceptHandler (some (.Name x np)) none [.Raise (some (.Call (.Name y yp) (a::es) [] cpos)) (some ke) rp] hpos] [] [] pos) (aam te C D fn E t):=by
 intro pins s σ H Dn I hw;refine wpAny_Try_except (zze (wpAny_Return_some (zR (h pins s σ H _ _ I hw) (λv s1 ⟨y,H1,I1,r1,q1⟩=>?_) λev s' hx=>?_)))
 ·exact⟨y,σ,H1,I1,r1,q1⟩
 obtain⟨H1,s1,I1,ea,C',a0,H',B,dd,rfl,os,bare,un,hok,fl,k1,k2,hn,ay,hC,bo,hE⟩:=hx;subst bo;have bi:C'=C:=Value.ref.inj hC;subst bi;have fl':=fl;rw[ae]at fl';have bj:X.A.frames=some (X.env::X.outer):=by rw[<-ae];exact I.ok.frames
 refine zR (jN (KD.noteFrame _ _) (wpAny_looks_onW (Q:=λ_ s2=>∃h4,s2={s' with heap:=h4}/\Heap.HeldW B (X.env::X.outer) ea (.ref C') a0 X.env.locals h4/\Heap.UpToSlots s'.heap h4) bj bl fl' λh4 aa ak=>⟨h4,rfl,aa,ak⟩)) (λ_ s2 z=>?_) (λ_ _ z=>z);obtain⟨⟨h4,rfl,aa,ak⟩,ar⟩:=z;refine zR (jN (KD.setFlight _ _) (wpAny_landsW (Q:=λ_ s2=>∃h5,s2={s' with heap:=h5}/\Heap.FlyingW B (X.env::X.outer) ea (.ref C') a0 h5/\Heap.UpToSlots h4 h5) aa λh5 ad aj=>⟨h5,rfl,ad,aj⟩)) (λ_ s2 z=>?_) (λ_ _ z=>z);obtain⟨⟨h5,rfl,ad,aj⟩,bg⟩:=z;have ao:xO h5 ea none:=(ay.dk ar).dk bg;have up5':=ak.trans aj;have I5:Inv X pins σ (upd H' ea (Px C' ea)) {s' with heap:=h5}:=I1.landedN os bare un hok fl k1 k2 hn (by rw[ae];exact ad) up5' ao;obtain⟨bm,N,nm,qn,bs,br,sn,sub,ab,col,dd,g0,bu,bq,bt,bp,mN,gC,gN,gi,gT⟩:=c.obj I5.kIn;obtain⟨ob,aw,am⟩:=ad.there;refine wpAny_handleBy_cons (codeAny_handlers_test (lQ (X:=X.inSuite ea) (I5.inSuite ea) hg hm ?_ hd)) (by intro q;cases q);refine zz9 gC aw am (gT.hasType rfl) (codeAny_handlers_suite ?_);refine zR (jN (KD.setFlight _ _) (lands_againW (Q:=λ_ s2=>∃h6,s2={s' with heap:=h6}/\Heap.FlyingW B (X.env::X.outer) ea (.ref C') a0 h6/\Heap.UpToSlots h5 h6) ad λh6 ah ag=>⟨h6,rfl,ah,ag⟩)) (λ_ s2 z=>?_) (λ_ _ z=>z);obtain⟨⟨h6,rfl,ah,ag⟩,be⟩:=z;have I6:Inv X pins σ (upd H' ea (Px C' ea)) {s' with heap:=h6}:=I1.landedN os bare un hok fl k1 k2 hn (by rw[ae];exact ah) (up5'.trans ag) (ao.dk be);have J6:=I6.inSuite ea;refine zze ?_;rw[arm_exec_Raise];obtain⟨nm2,bf,N2,bc,ax,au,an,bd,ap,bn,bh,bk,aq,as,ba,G1,G2⟩:=M.obj I6.ok.mod.kin;refine ze (yF (Le (C:=D) (nm:=nm2) (q:=bf) (N:=N2) (bs:=bc) (bm:=ax) (hdct:=true) (sn:=au) (sub:=an) (ab:=bd) (col:=ap) (dd:=bn) (k0:=bh) (k1:=bk) (k2:=aq) (k3:=as) (k5:=ba) (newId:= "ValueError.__new__") (ea:=ea) (G2.hasType (by rfl)) rfl (λhq=>?_) ?_))
 ·show wpAny _ _ (do let v<-eval ke X.env;standAt rp;pure v) _ _ _
  rw[hce];exact ze (zn (ze (yF (zn hq))))
 refine ze (ym (lQ J6 az av ?_ hdb));refine yH (h₀:=X.base) J6.ok.mod.kin M.kp (thn (ha ea cpos pins _ σ _ _ J6 (hE ea hn)) λus s1 ⟨vs,H3,I3,r,n,ev,bb,al,q⟩=>⟨I3.kIn,?_⟩) he hpl;have ac:∀b,H3 b=none->b≠ea:=λb z w=>by rw[w,al]at z;cases z
 refine thn (Pj (X:=X.inSuite ea) (dvs:=[]) (ds:=[]) (Q:=λe H2=>∃d,H2 e=some (xq D e d)/\H2 ea=some (Px C' ea)/\ea≠e/\E (.ref D) (some d) (del H2 e)) M F ⟨hr.dp,hr.un⟩ hb .nil I3 r (by rw[ev,zc];show 1<=_;omega) λe he=>?_) λu s2 ⟨e,H2,eu,hsz,I2,d,q2,q4,q5,q3⟩=>?_
 ·subst ev
  refine⟨e,n,rfl,bb,fK,λd hd af=>⟨rfl,d,?_,?_,Ne.symm (ac e he),?_⟩⟩
  ·rw[fY (Ne.symm af),fK]
  ·have hd':H3 d=none:=by rw[fY af]at hd;exact hd
   rw[fY (Ne.symm (ac d hd')),fY (Ne.symm (ac e he)),fY (Ne.symm (ac e he))];exact al
  ·have hd':H3 d=none:=by rw[fY af]at hd;exact hd
   have e1:del (upd (upd (upd H3 e (Hh D e)) e (xq D e d)) d (.xd [(fn,.int n)])) e=upd H3 d (.xd [(fn,.int n)]):=by
    funext b;by_cases hb:b=e
    ·subst hb
     rw[uJ,fY (Ne.symm af),he]
    ·rw[vP hb]
     by_cases ai:b=d
     ·subst ai;rw[fK,fK]
     ·rw[fY ai,fY ai,fY hb,fY hb]
   rw[e1];exact q d hd'
 ·subst eu
  refine ze (yF (zn ?_));obtain⟨⟨t0,gx⟩,_,_⟩:=(show iH X.prog X.w H2 s2.heap e (xq D e d)from I2.hok e _ q2);obtain⟨⟨oa,va,z1,z2,z3,z4⟩,_,_⟩:=(show iH X.prog X.w H2 s2.heap ea (Px C' ea)from I2.hok ea _ q4);refine⟨e,d,t0,oa,va,rfl,I2.bk _ _ G1,gx,q5,z1,z3,z4,λh' w1 w2=>?_⟩;have I7:=(I2.write (h':=h') (o:=.ext λh=>∃t0,h.get? e=some ⟨.ref D,some d,.fields #[t0,.none,.ref ea,.none,.bool true,.none], #[]⟩) (t':=s2.toks) (x:=e) (e:=e) (by rw[q2];exact True.intro) (.inl rfl) (λb u z w=>(w2 b z).trans w) ⟨_,w1⟩ ⟨⟨t0,w1⟩,⟨_,w1⟩,λh1 h2 ⟨t1,z⟩ kk=>⟨t1,kk _ z⟩⟩).drop fK
  have eH:∀o:HO,del (upd H2 e o) e=del H2 e:=λo=>by
   funext b;by_cases hb:b=e
   ·subst hb;rw[uJ,uJ]
   ·rw[vP hb,vP hb,fY hb]
  rw[eH]at I7;exact hR pins σ (del H2 e) _ e D d ea t0 (I7.outSuite I.ok) w1 uJ (yJ hsz) q3
def ap_tryN{Dn:Ends}{σ:St}{H:Hp}:aam te C D fn E t Dn σ H=te σ H (λv H1=>Dn.rt v H1) λcls dd H1=>cls=.ref C/\dd=none/\∀ea,H1 ea=none->t σ (upd H1 ea (Px C ea)) λvs H2=>∃n:Int,vs=[.int n]/\n.natAbs<2^300/\H2 ea=some (Px C ea)/\∀d,H2 d=none->E (.ref D) (some d) (upd H2 d (.xd [(fn,.int n)])):=rfl
end
end L2
namespace L2
open PySem PySem.W PySem.Spec PySem.Calls PyProof.Rows PySem.Builtin PySem.Builtin.Str
section
variable{X:Cx}
theorem Ma{α:Type}(a:Array α):∀(k:Nat)(acc:Array α),((List.replicate k a).foldl (·++·) acc).size=acc.size+k*a.size
 |0,acc=>by simp
 |k+1,acc=>by
  rw[yh,yB,Ma a k,yL,Nat.succ_mul];omega
noncomputable def Xl:V->V->Hp->VK->Prop:=λx y H Q=>∃(z:Str)(k:Int),x=.str z/\y=.int k/\2<=k/\k<=1000/\1<=z.length/\z.length<=1000/\Q (.str ⟨(List.replicate k.toNat z.cps).foldl (·++·) #[]⟩) H
def WQ:OpR X (binaryOp .Mult) Xl:=by
 intro pins s σ H x y v u Q I rx ry h;obtain⟨z,k,rfl,rfl,h1,h2,h3,h4,q⟩:=h;obtain⟨t,rfl⟩:=rx;obtain⟨t',rfl⟩:=ry;have hm:z.length*k.toNat<=1000*1000:=Nat.mul_le_mul h4 (by omega);refine PySem.P.mul_str (by rw[zF (by omega),zF (by omega)];rfl) (λ_ _=>?_) (λ_ _=>?_) ?_
 ·have:(1000:Int)<=(2^63 - 1)/k:=Int.le_ediv_of_mul_le (by omega) (by omega)
  omega
 ·unfold tooLong
  exact zF (by rw[zc];omega)
 ·rw[zo (by omega),zo (by simp;omega)]
  refine⟨?_,.str _,H,I.tok _,⟨_,rfl⟩,q⟩;show((List.replicate k.toNat z.cps).foldl (·++·) #[]).size<=_;rw[Ma,zc,Nat.mul_comm];show 0+z.length*k.toNat<=_;omega
def ap_repS{z:Str}{k:Int}{H:Hp}{Q:VK}:Xl (.str z) (.int k) H Q=(2<=k/\k<=1000/\1<=z.length/\z.length<=1000/\Q (.str ⟨(List.replicate k.toNat z.cps).foldl (·++·) #[]⟩) H):=by simp[Xl]
noncomputable def Gj(x y z:Str):Str:=if(occurrences x y 0 x.length 1).isEmpty=true then x else glued z (partsBetween x (occurrences x y 0 x.length 1) y.length)
def Eo{x y z:Str}(h:¬(occurrences x y 0 x.length 1).isEmpty=true):glued z (partsBetween x (occurrences x y 0 x.length 1) y.length)=(Txt.partition x y).1++z++(Txt.partition x y).2.2:=by
 have q:=StrLaws.occ_length_le x y 0 x.length 1;unfold Txt.partition
 match e:occurrences x y 0 x.length 1,q,h with
 |[i],_,_=>rfl
 |[],_,h=>exact(h rfl).elim
def Vh{x y z:Str}:Gj x y z=x/\(occurrences x y 0 x.length 1).isEmpty=true\/Gj x y z=(Txt.partition x y).1++z++(Txt.partition x y).2.2:=by
 unfold Gj;by_cases h:(occurrences x y 0 x.length 1).isEmpty=true
 ·rw[zu h];exact .inl ⟨rfl,h⟩
 ·rw[zo h];exact .inr (Eo h)
def Vq{c:Nat}{a b z:Str}(ha:c∉a.cps.toList):Gj (a++⟨#[c]⟩++b) ⟨#[c]⟩ z=a++z++b:=by
 rcases Vh (x:=a++⟨#[c]⟩++b) (y:=⟨#[c]⟩) (z:=z)with⟨_,h⟩|h
 ·have q:=part_at (b:=b) ha
  unfold Txt.partition at q;rw[List.isEmpty_iff.mp h]at q;have:=congrArg (λp:Str×Str×Str=>p.2.1.length) q;exact absurd (show(0:Nat)=1 from this) (by decide)
 ·rw[h,part_at ha]
def KY(x y z:Str)(t u v c:Tok)(hy:y.length=1)(h0:(u==0||v==0)=false)(aa:(u==v)=false)(q:(y==z)=false)(hl:tooLong (x.length+(occurrences x y 0 x.length 1).length*z.length)=false):
  Gives («str.replace» ⟨[.str x t,.str y u,.str z v,.int 1 c],[]⟩) (if((occurrences x y 0 x.length 1).isEmpty||(y.length==0 && z.length==0))=true then .val (.str x t)else .str (glued z (partsBetween x (occurrences x y 0 x.length 1) y.length))):=by
 show Gives (if((occurrences x y 0 x.length 1).isEmpty||(y.length==0 && z.length==0))=true then(do rule "str.replace.nothing";ret (.str x t))else
  (do let same<-isSame (.str y u) (.str z v);(if same=true then(do rule "str.replace.old-is-new";ret (.str x t))else if tooLong (x.length+(occurrences x y 0 x.length 1).length*z.length)=true then unsupported "str.replace:memory" else retStr (glued z (partsBetween x (occurrences x y 0 x.length 1) y.length))))) _
 cases hc:((occurrences x y 0 x.length 1).isEmpty||(y.length==0 && z.length==0))
 ·rw[isSame_str_other y z u v h0 aa q,hl]
  exact .of_eq rfl
 ·exact .rule (.of_eq rfl)
noncomputable def PMj(X:Cx)(e:Expr)(t:TE):Prop:=∀(pins:List (Addr×Obj))(s:Shared)(σ:St)(H:Hp)(Q:VK),0<s.toks->Inv X pins σ H s->t σ H Q->wpAny (model X.prog X.w) X.A (eval e X.env) (EP X pins σ Q) X.xe s
noncomputable def PMk(X:Cx)(e:Expr)(t:TE):Prop:=∀(pins:List (Addr×Obj))(s:Shared)(σ:St)(H:Hp)(Q:VK),Inv X pins σ H s->t σ H Q->wpAny (model X.prog X.w) X.A (eval e X.env) (λv s'=>EP X pins σ Q v s'/\0<s'.toks) X.xe s
variable{a e e2:Expr}{ta te te2:TE}{pos:Pos}
def Yq{y:Str}{j:Nat}{p:Pos}(ha:PE X a ta):PMk X (.BinOp a .Add (.Constant (.str y) j p) pos) (tOp (λx y H Q=>∃i j,x=.str i/\y=.str j/\i.length+j.length<=sizeLine/\Q (.str (i++j)) H) ta (tC (.str y))):=by
 intro pins s σ H Q I h;refine wpAny_BinOp (thn (ha pins s σ H _ I h) λv s1 ⟨x,H1,I1,r1,q1⟩=>Calls.Constant_str ?_);obtain⟨i,j,rfl,e,hz,q⟩:=q1;cases e;obtain⟨t,rfl⟩:=r1;have z:Inv X pins σ H1 {s1 with toks:=s1.toks+1}:=I1.tok _;refine PySem.P.add_str ?_;by_cases h1:(i.length==0)=true
 ·rw[zu h1]
  have e:i++y=y:=by
   have hi:i.cps= #[]:=zzE (eq_of_beq h1);exact Str.ext' (by show i.cps++y.cps=_;rw[hi,zzm])
  rw[e]at q;exact⟨⟨.str y,H1,z,⟨_,rfl⟩,q⟩,Nat.succ_pos _⟩
 rw[zo h1];by_cases h2:(y.length==0)=true
 ·rw[zu h2]
  have e:i++y=i:=by
   have hi:y.cps= #[]:=zzE (eq_of_beq h2);exact Str.ext' (by show i.cps++y.cps=_;rw[hi,zz1])
  rw[e]at q;exact⟨⟨.str i,H1,z,⟨_,rfl⟩,q⟩,Nat.succ_pos _⟩
 rw[zo h2];refine⟨?_,⟨.str _,H1,z.tok _,⟨_,rfl⟩,q⟩,Nat.succ_pos _⟩;show(i.cps++y.cps).size<=_;rw[yL];exact hz
def abi(h1:PMk X e te)(h2:PMj X e2 te2)(hs:starEach [e,e2] X.env=[(false,eval e X.env),(false,eval e2 X.env)]:=by rfl):PA X [e,e2] (uy te (uy te2 Ro)):=by
 intro pos pins s σ H Q I h;rw[hs];show wpAny _ _ (spliced ((false,eval e X.env)::backTo pos [(false,eval e2 X.env)])) _ _ s;refine Calls.spliced_cons (thn (h1 pins s σ H _ I h) λu q ⟨⟨x,H1,I1,r1,q1⟩,z⟩=>?_);show wpAny _ _ (spliced ((false,eval e2 X.env)::backTo pos [])) _ _ q;refine Calls.spliced_cons (thn (h2 pins q σ H1 _ z I1 q1) λu2 s2 ⟨x2,H2,I2,r2,q2⟩=>?_);exact Calls.spliced_nil ⟨[x,x2],H2,I2,.cons r1 (.cons r2 .nil),q2⟩
noncomputable def Wd(y z:Str)(to:TE):TE:=λσ H Q=>to σ H λx H1=>∃s:Str,x=.str s/\s.length<=100000/\y.length=1/\z.length<=10/\(y==z)=false/\Q (.str (Gj s y z)) H1
def Xr{i:Nat}{n:Str}{y z:Str}{np apos cpos p1 p2 p3:Pos}{j1 j2 j3:Nat}(hN:X.N[i]? =some n)(hv:Vis X.env.scope n)(hd:(n==("__debug__" :Str))=false:=by decide) (hcd:(n==("__classdict__" :Str))=false:=by decide)
  (hbase:attributeBase (.Name n np) "replace" X.env (eval (.Name n np) X.env)=eval (.Name n np) X.env:=by rfl)
  (hfew:((backTo cpos (starEach [.Constant (.str y) j1 p1,.Constant (.str z) j2 p2,.Constant (.int 1) j3 p3] X.env)).all (λx=>!x.1) && (backToKw cpos (keywordEach [] X.env)).all (λx=>x.1.isSome)
   && decide (([.Constant (.str y) j1 p1,.Constant (.str z) j2 p2,.Constant (.int 1) j3 p3]:List Expr).length+([]:List Keyword).length+(if([]:List Keyword).isEmpty then 0 else 1)<30))=true:=by rfl)
  (hline:(apos.endLine==cpos.line)=true:=by rfl):
  PMj X (.Call (.Attribute (.Name n np) "replace" apos) [.Constant (.str y) j1 p1,.Constant (.str z) j2 p2,.Constant (.int 1) j3 p3] [] cpos) (Wd y z (Ij i)):=by
 intro pins s σ H Q hp I h;obtain⟨v,e,q,rfl,hl,hy,hz,ad,hQ⟩:=h;obtain⟨m,hn,ae⟩:=I.loc;obtain⟨u,r,l⟩:=ae i n _ hN e hv;obtain⟨t,rfl⟩:=r;obtain⟨h1,h2⟩:=Ra (T:= "str") (x:=.str q) I ⟨t,rfl⟩ rfl
 have ac:MethodOn X.prog X.w X.A "replace" cpos (.str q t) (backTo cpos (starEach [.Constant (.str y) j1 p1,.Constant (.str z) j2 p2,.Constant (.int 1) j3 p3] X.env)) (EP X pins σ Q) X.xe s:=by
  refine⟨"str", "str.replace",zH,PySem.F.slot_str_replace,PySem.F.type_str_replace,h1,h2,?_⟩;refine Calls.callWith_builtin rfl (Calls.evalArgs_plain ?_);refine Calls.spliced_cons (Calls.Constant_str (k:=j1) (pos:=p1) ?_);refine Calls.spliced_cons (Calls.Constant_str (k:=j2) (pos:=p2) ?_);have I2:Inv X pins σ H {s with toks:=s.toks+1+1}:=I.tok _;refine Calls.spliced_cons (thn (fL (X:=X) (i:=1) (j:=j3) (pos:=p3) pins _ σ H (λv H'=>v=.int 1/\H'=H) I2 ⟨rfl,rfl⟩) λc s3 ⟨x,H3,I3,r3,e3,e4⟩=>?_);subst e3 e4;obtain⟨tc,rfl⟩:=r3;refine Calls.spliced_nil ?_;have af:=StrLaws.occ_length_le q y 0 q.length 1;have ag:(occurrences q y 0 q.length 1).length*z.length<=1*10:=Nat.mul_le_mul (by omega) hz
  have ab:tooLong (q.length+(occurrences q y 0 q.length 1).length*z.length)=false:=by
   unfold tooLong;exact zF (by rw[zc];omega)
  refine call_gives F.slot_str_replace (typeIs_str _ _ _) F.entry_str_replace (F.args_str_replace_4 _ _ _ _) (KY q y z t s.toks (s.toks+1) tc hy (by rw[beq_eq_false_iff_ne.mpr (show s.toks≠0 by omega),beq_eq_false_iff_ne.mpr (show s.toks+1≠0 by omega)];rfl) (beq_eq_false_iff_ne.mpr (show s.toks≠s.toks+1 by omega)) ad ab) ?_;have e5:(y.length==0 && z.length==0)=false:=by rw[hy];rfl
  rw[e5,Bool.or_false];unfold Gj at hQ;by_cases hc:(occurrences q y 0 q.length 1).isEmpty=true
  ·rw[zu hc]at hQ⊢
   exact⟨.str q,H3,I3,⟨_,rfl⟩,hQ⟩
  ·rw[zo hc]at hQ⊢
   refine⟨?_,.str _,H3,I3.tok _,⟨_,rfl⟩,hQ⟩;have h7:=congrArg Str.length (StrLaws.partition_sum q y);have sl:∀a b:Str,(a++b).length=a.length+b.length:=λa b=>yL;rw[sl,sl]at h7;rw[Eo hc,sl,sl,zc];omega
 rcases l with⟨hk,hm⟩|⟨hk,c,hc,aa⟩
 ·exact yW hbase hfew hline rfl (zz5 (wpAny_loadName_local I.ok.kind hk hn hm ac) hd)
 ·rcases hk with hk|hk
  ·exact yW hbase hfew hline rfl (zz5 (wpAny_loadName_cell I.ok.kind hk hc aa ac) hd)
  ·exact yW hbase hfew hline rfl (zz5 (wpAny_loadName_free I.ok.kind hk hc aa ac hcd) hd)
def ap_repl1{y z:Str}{to:TE}{σ:St}{H:Hp}{Q:VK}:Wd y z to σ H Q=to σ H λx H1=>∃s:Str,x=.str s/\s.length<=100000/\y.length=1/\z.length<=10/\(y==z)=false/\Q (.str (Gj s y z)) H1:=rfl
end
end L2
local macro_rules | `(tactic| walk_at "u") => `(tactic| (rename_i h; first | (obtain ⟨e, _⟩ := h; subst e; rfl) | (obtain ⟨_, h⟩ := h; walk_at "u")))
local macro_rules | `(tactic| walk_at "v") => `(tactic| (intros; walk_at "u"))
local macro_rules | `(tactic| walk_at "k") => `(tactic| first | exact L2.CapOk.nil | (refine L2.CapOk.own ?_; walk_at "k") | (refine L2.CapOk.take (by with_unfolding_all rfl) (by first | exact Or.inl (by with_unfolding_all rfl) | exact Or.inr (by with_unfolding_all rfl)) (by first | exact Or.inl (by with_unfolding_all rfl) | exact Or.inr (by with_unfolding_all rfl)) (by with_unfolding_all rfl) ?_; walk_at "k"))
local macro_rules | `(tactic| walk_at "c") => `(tactic| (refine ⟨?c1, ?c3, ?c0, ?c4, ?c5, ?c6, ?c7⟩; (case c1 => with_unfolding_all rfl); (case c3 => walk_at "k"); (case c0 => rfl); (case c4 => decide +kernel); (case c5 => decide +kernel); (case c6 => with_unfolding_all rfl); (case c7 => (intro _; rfl))))
local macro_rules | `(tactic| walk_at "i") => do
  let x ← ("↓av_V ↓av_F ↓av_M ↓av_S ↓av_L ↓av0 ↓av1 ↓av2 ↓av3 ↓av4 ↓av5 ↓av6 ↓av7 ↓av8 ↓av9 ↓av10 ↓av11 ↓av12 ↓av13 ↓av14 ↓av15 av_r ap_iStr ap_fldK ap_sFld ap_methD ap_make ap_dget2 ap_dput ap_dnewK ap_inD ap_leS ap_ixT ap_ixS ap_slT ap_rTupOf ap_rIn ap_lenS ap_raiseF ap_xini ap_sxfld ap_xfld ap_tryF ap_isF ap_isFs ap_FI ap_rStr ap_rJoin ap_rSplit ap_rStarts ap_rPart ap_iEnum1 ap_gget ap_inG ap_FTI ap_FTII ap_tryN ap_repS ap_repl1 ap_raise ap_xCall ap_iEnum ap_next ap_asg ap_name ap_var ap_c ap_op ap_un ap_rI ap_rI0 ap_rU ap_rEq ap_rNe ap_ret ap_retN ap_drop ap_if ap_test ap_tB ap_and ap_or ap_not ap_andV ap_notV ap_ifE ap_call ap_nil ap_cons ap_cb ap_lst ap_tup ap_chain ap_sl ap_noPart ap_part ap_gNil ap_gCons ap_gLst ap_gTup ap_bm ap_bm0 ap_ixL ap_slL ap_rLen ap_rSum ap_rAll ap_rListOf ap_rIsT ap_append ap_rCat ap_comp ap_iList ap_iTup ap_iRng1 ap_noIf ap_rMax ap_rMin scal_int scal_str scal_bl start_eq !List.map_cons !List.map_nil !List.length_cons !List.length_nil !List.cons_append !List.nil_append !List.append_nil !List.replicate_succ !List.replicate_zero !Nat.reduceAdd !Nat.reduceSub !Nat.sub_self !List.set_cons_zero !List.set_cons_succ !List.getElem?_cons_zero !List.getElem?_cons_succ !Option.some.injEq V.int.injEq V.bl.injEq V.str.injEq V.ref.injEq V.ty.injEq !List.cons.injEq !exists_eq_left' !exists_eq_left !exists_and_left !exists_eq' !exists_eq !true_and !and_true !and_assoc !exists_const !Bool.not_true !Bool.not_false !if_true !if_false !Bool.false_eq_true !decide_true !decide_false !reduceCtorEq !Bool.not_eq_true' !decide_eq_true_eq !decide_eq_false_iff_not".splitOn " ").toArray.mapM fun s => do
    let r := (s.drop 1).toString
    if s.front = '↓' then `(Lean.Parser.Tactic.simpLemma| ↓$(Lean.mkIdent ("L2." ++ r).toName):ident) else if s.front = '!' then `(Lean.Parser.Tactic.simpLemma| $(Lean.mkIdent r.toName):ident) else `(Lean.Parser.Tactic.simpLemma| $(Lean.mkIdent ("L2." ++ s).toName):ident)
  `(tactic| simp only [$[$x:simpLemma],*])
local macro_rules | `(tactic| walk_at "a") => `(tactic| (repeat (first | simp only [L2.ap_seq, L2.ap_for] | walk_at "i")))
namespace L2
open PySem PySem.Spec PyProof.Rows
def fv{X:Cx}(K:Fg_)(i:Nat){x f:Str}{pos pos':PySem.Pos}(q:X.N[i]? =some x:=by rfl)(hv:Vis X.env.scope x:=by first|exact Or.inl rfl|exact Or.inr (Or.inl rfl)|exact Or.inr (Or.inr rfl))(hd:(x==("__debug__" :Str))=false:=by decide) (hcd:(x==("__classdict__" :Str))=false:=by decide) (hb:PySem.attributeBase (.Name x pos') f X.env (PySem.eval (.Name x pos') X.env)=PySem.eval (.Name x pos') X.env:=by rfl) (hK:X.K=K:=by rfl):PE X (.Attribute (.Name x pos') f pos) (tFV K i f):=Yc (pv i q hv hd hcd) hb hK
end L2
namespace My
open PySem L2 PyProof.Rows
open PySem.W (codeIn findCls findIn fnOf hasDictIn isFn keepIn kitOne makesIn mg_none_of mg_of nsIn plainGet plainOver readsIn specialIn)
noncomputable def top(i:Nat):Stmt:=PySem.Challenge.pw_lotledger_k82_no_text.main.body.getD i (.Pass ⟨0,0,0,0⟩)
abbrev mG:Stmt:=top 46
abbrev jU:Stmt:=top 31
abbrev mW:Stmt:=top 32
abbrev Cy:Stmt:=top 34
abbrev vA:Stmt:=top 33
abbrev lg:Stmt:=inClass (top 23) 0
abbrev jL:Stmt:=inClass (top 29) 0
abbrev uH:Stmt:=top 35
abbrev jk:Stmt:=inClass (top 24) 0
abbrev ux:Stmt:=top 36
abbrev vf:Stmt:=top 37
abbrev je:Stmt:=inClass (top 25) 0
abbrev lW:Stmt:=inClass (top 26) 0
abbrev jh:Stmt:=inClass (top 27) 0
abbrev lz:Stmt:=inClass (top 28) 0
abbrev jE:Stmt:=top 30
abbrev jC:Stmt:=top 50
abbrev lU:Stmt:=top 49
abbrev uz:Stmt:=top 48
abbrev lA:Stmt:=top 47
abbrev lu:Stmt:=top 45
abbrev jW:Stmt:=inClass (top 12) 0
abbrev mQ:Stmt:=top 44
abbrev mZ:Stmt:=top 43
abbrev uF:Stmt:=top 53
abbrev ni:Stmt:=top 52
abbrev vp:Stmt:=top 56
abbrev vy:Stmt:=top 57
abbrev vg:Stmt:=top 54
abbrev vq:Stmt:=top 55
abbrev jX:Stmt:=top 60
abbrev lN:Stmt:=top 61
abbrev mR:Stmt:=top 64
abbrev Aj:Stmt:=inClass (top 24) 1
abbrev xX:Stmt:=inClass (top 24) 2
abbrev uQ:Stmt:=top 38
abbrev wz:Stmt:=inClass (top 25) 1
abbrev wG:Stmt:=inClass (top 25) 2
abbrev wA:Stmt:=inClass (top 26) 1
abbrev vW:Stmt:=inClass (top 26) 2
abbrev wg:Stmt:=inClass (top 27) 1
abbrev vX:Stmt:=inClass (top 27) 2
abbrev uV:Stmt:=inClass (top 28) 1
abbrev uU:Stmt:=inClass (top 28) 2
abbrev nj:Stmt:=inClass (top 29) 1
abbrev mU:Stmt:=inClass (top 29) 2
abbrev wC:Stmt:=top 62
abbrev kj:Stmt:=top 63
abbrev Kp:Stmt:=top 65
set_option genInjectivity false in
structure Adr where
 ow:Addr
 ox:Addr
 oy:Addr
 oz:Addr
 oA:Addr
 oB:Addr
 oC:Addr
 oE:Addr
 oF:Addr
 oG:Addr
 oH:Addr
 oJ:Addr
 oK:Addr
 oM:Addr
 oN:Addr
 oO:Addr
 oP:Addr
 oQ:Addr
 oR:Addr
 oS:Addr
 oU:Addr
 oV:Addr
 oW:Addr
 oX:Addr
 oY:Addr
 oZ:Addr
 o5:Addr
 o6:Addr
 o7:Addr
 o8:Addr
 o9:Addr
 pf:Addr
 ph:Addr
 pi:Addr
 pj:Addr
 pq:Addr
 px:Addr
 py:Addr
 pz:Addr
 pA:Addr
 pB:Addr
 pC:Addr
 pD:Addr
 pE:Addr
 pF:Addr
 pG:Addr
 pH:Addr
 pI:Addr
 law:Addr
 pJ:Addr
 pK:Addr
 pL:Addr
 pM:Addr
 pN:Addr
 pO:Addr
 pP:Addr
 pQ:Addr
 pR:Addr
 pS:Addr
 pT:Addr
 pU:Addr
 pV:Addr
 pW:Addr
 pX:Addr
 pY:Addr
 pZ:Addr
 qa:Addr
 qb:Tok
 qc:Tok
 qd:Tok
 qe:Tok
 qf:Tok
 qg:Tok
 qh:Tok
 qi:Tok
 qj:Tok
 qk:Tok
 ql:Addr
 qm:Addr
set_option genInjectivity false in
structure Fds where
 ow:FuncData
 ox:FuncData
 oy:FuncData
 oz:FuncData
 oA:FuncData
 oB:FuncData
 oC:FuncData
 oE:FuncData
 oF:FuncData
 oG:FuncData
 oH:FuncData
 oJ:FuncData
 oK:FuncData
 oM:FuncData
 oN:FuncData
 oO:FuncData
 oP:FuncData
 oQ:FuncData
 oR:FuncData
 oS:FuncData
 oU:FuncData
 oV:FuncData
 oW:FuncData
 oX:FuncData
 oY:FuncData
 oZ:FuncData
 o5:FuncData
 o6:FuncData
 o7:FuncData
 o8:FuncData
 o9:FuncData
 pf:FuncData
 ph:FuncData
 pi:FuncData
 pj:FuncData
 pq:FuncData
 px:FuncData
 py:FuncData
 pz:FuncData
 pA:FuncData
 pB:FuncData
 pC:FuncData
 pD:FuncData
 pE:FuncData
 pF:FuncData
 pG:FuncData
 pH:FuncData
 pI:FuncData
 law:FuncData
structure Txt(w:World)(K:Fg_)(mg:Str->Option Value)(A:Adr)(D:Fds):Prop where
 qo:FG K mg "kind_of_words" mG A.ow D.ow
 qp:FG K mg "is_whole_number" jU A.ox D.ox
 qq:FG K mg "check_number" mW A.oy D.oy
 qr:FG K mg "is_name" Cy A.oz D.oz
 qt:FG K mg "check_name" vA A.oA D.oA
 qu:Fun K "__init__" "Entry.__init__" lg A.oB D.oB
 qv:Fun K "__init__" "Parting.__init__" jL A.oC D.oC
 qw:FG K mg "check_trade" uH A.oE D.oE
 qx:PL K "__init__" "Buy.__init__" jk A.oF D.oF [V.int 0]
 qy:FG K mg "check_named" ux A.oG D.oG
 qz:FG K mg "named_copy" vf A.oH D.oH
 qA:PL K "__init__" "Sell.__init__" je A.oJ D.oJ [V.int 0,V.non]
 qB:Fun K "__init__" "Gift.__init__" lW A.oK D.oK
 qC:PL K "__init__" "Give.__init__" jh A.oM D.oM [V.non]
 qD:Fun K "__init__" "Split.__init__" lz A.oN D.oN
 qE:FG K mg "entry_that_tells" jE A.oO D.oO
 qF:FG K mg "is_written_number" jC A.oP D.oP
 qG:FG K mg "value_of_word" lU A.oQ D.oQ
 qH:FG K mg "lot_of_word" uz A.oR D.oR
 qI:FG K mg "named_of_words" lA A.oS D.oS
 qJ:FG K mg "entry_of_words" lu A.oU D.oU
 qK:Fun K "__init__" "NoText.__init__" jW A.oV D.oV
 qL:FG K mg "entry_in_row" mQ A.oW D.oW
 qM:FG K mg "read_entries" mZ A.oX D.oX
 qN:FG K mg "_law_digits" uF A.oY D.oY
 qO:FG K mg "_law_cell_at" ni A.oZ D.oZ
 qP:FG K mg "_law_wares" vp A.o5 D.o5
 qQ:FG K mg "_law_entry" vy A.o6 D.o6
 qR:FG K mg "_law_mixed" vg A.o7 D.o7
 qS:FG K mg "_law_cells" vq A.o8 D.o8
 qT:FG K mg "_law_with_named" jX A.o9 D.o9
 qU:FG K mg "_law_any" lN A.pf D.pf
 qV:FG K mg "_law_refused" mR A.ph D.ph
 qW:Fun K "word" "Buy.word" Aj A.pi D.pi
 qX:Fun K "told" "Buy.told" xX A.pj D.pj
 qY:FG K mg "named_told" uQ A.pq D.pq
 qZ:Fun K "word" "Sell.word" wz A.px D.px
 ra:Fun K "told" "Sell.told" wG A.py D.py
 rb:Fun K "word" "Gift.word" wA A.pz D.pz
 re:Fun K "told" "Gift.told" vW A.pA D.pA
 rf:Fun K "word" "Give.word" wg A.pB D.pB
 rg:Fun K "told" "Give.told" vX A.pC D.pC
 rh:Fun K "word" "Split.word" uV A.pD D.pD
 ri:Fun K "told" "Split.told" uU A.pE D.pE
 rj:Fun K "word" "Parting.word" nj A.pF D.pF
 rl:Fun K "told" "Parting.told" mU A.pG D.pG
 rm:FG K mg "_law_text" wC A.pH D.pH
 rn:FG K mg "_law_bent" kj A.pI D.pI
 ro:FG K mg "law" Kp A.law D.law
 rq:mg "len" =none
 rA:mg "isinstance" =none
 rB:mg "int" =none
 rC:mg "bool" =none
 rD:mg "all" =none
 rE:mg "str" =none
 rF:mg "list" =none
 rG:mg "sum" =none
 rH:mg "enumerate" =none
 rJ:mg "min" =none
 rK:mg "max" =none
 rL:mg "range" =none
 rM:mg "tuple" =none
 rN:mg "ValueError" =none
 rO:mg "NoEntry" =some (.ref A.pJ)
 rP:mg "Entry" =some (.ref A.pK)
 rQ:mg "Parting" =some (.ref A.pL)
 rR:mg "Buy" =some (.ref A.pM)
 rS:mg "Sell" =some (.ref A.pN)
 rT:mg "Gift" =some (.ref A.pO)
 rV:mg "Give" =some (.ref A.pP)
 rW:mg "Split" =some (.ref A.pQ)
 rX:mg "LotError" =some (.ref A.pR)
 rY:mg "NoText" =some (.ref A.pS)
 rZ:mg "Late" =some (.ref A.pT)
 r6:mg "NoLot" =some (.ref A.pU)
 r9:mg "NoNumber" =some (.ref A.pV)
 se:mg "NoPieces" =some (.ref A.pW)
 sf:mg "NotHeld" =some (.ref A.pX)
 sg:mg "NoWay" =some (.ref A.pY)
 sh:mg "NoWeights" =some (.ref A.pZ)
 sj:mg "Twice" =some (.ref A.qa)
 sk:mg "MOST_LETTERS" =some (.int 8 A.qb)
 sq:mg "MOST_DAY" =some (.int 1000000 A.qc)
 ss:mg "MOST_NUMBER" =some (.int 1000000 A.qd)
 su:mg "MOST_WHOLE" =some (.int 1000000 A.qe)
 sv:mg "MOST_PIECES" =some (.int 1000000000 A.qf)
 sy:mg "MOST_PRICE" =some (.int 1000000000 A.qg)
 sA:mg "MOST_FEE" =some (.int 1000000000 A.qh)
 sC:mg "MOST_GIFT_COST" =some (.int 1000000000000000000 A.qi)
 sD:mg "MOST_SPLIT" =some (.int 1000 A.qj)
 sE:mg "MOST_FIGURES" =some (.int 19 A.qk)
 sF:mg "KINDS_THAT_NAME_LOTS" =some (.ref A.ql)
 sG:∀H:Hp,SqT K H A.ql [V.str "sell",V.str "give"]
 sI:mg "PLAIN_WORDS" =some (.ref A.qm)
 sJ:FZ K w A.qm [(Sum.inr "buy",V.int 7),(Sum.inr "sell",V.int 7),(Sum.inr "gift",V.int 7),(Sum.inr "give",V.int 5),(Sum.inr "split",V.int 6),(Sum.inr "part",V.int 7)]
 sK:aaG K A.pJ
 sL:mX K A.pS A.oV
 sM:OD K A.pS
 sN:gk K A.pS "row"
 sO:aaY K A.pR
 sP:Cls K A.pL
 sQ:gk K A.pL "day"
 sR:gk K A.pL "number"
 sS:gk K A.pL "ware"
 sT:gk K A.pL "other"
 sU:gk K A.pL "share"
 sW:gk K A.pL "whole"
 sX:Cls K A.pM
 sY:gk K A.pM "day"
 sZ:gk K A.pM "number"
 ti:gk K A.pM "ware"
 tj:gk K A.pM "pieces"
 tm:gk K A.pM "price"
 tq:gk K A.pM "fee"
 tw:gk K A.pM "cost"
 tz:Cls K A.pN
 tD:gk K A.pN "day"
 tE:gk K A.pN "number"
 tF:gk K A.pN "ware"
 tG:gk K A.pN "pieces"
 tH:gk K A.pN "price"
 tI:gk K A.pN "fee"
 tJ:gk K A.pN "named"
 tK:gk K A.pN "proceeds"
 tL:Cls K A.pO
 tM:gk K A.pO "day"
 tN:gk K A.pO "number"
 tO:gk K A.pO "ware"
 tP:gk K A.pO "pieces"
 tQ:gk K A.pO "cost"
 tR:gk K A.pO "since"
 tS:Cls K A.pP
 tT:gk K A.pP "day"
 tU:gk K A.pP "number"
 tW:gk K A.pP "ware"
 tX:gk K A.pP "pieces"
 tY:gk K A.pP "named"
 tZ:Cls K A.pQ
 t5:gk K A.pQ "day"
 t7:gk K A.pQ "number"
 t9:gk K A.pQ "ware"
 ua:gk K A.pQ "many"
 ub:gk K A.pQ "of"
 uc:Mk K A.pL A.oC
 ud:Mk K A.pM A.oF
 ue:Mk K A.pN A.oJ
 uf:Mk K A.pO A.oK
 ug:Mk K A.pP A.oM
 uh:Mk K A.pQ A.oN
 ui:Meth K A.pM "word" A.pi
 uj:Meth K A.pN "word" A.px
 uk:Meth K A.pO "word" A.pz
 ul:Meth K A.pP "word" A.pB
 um:Meth K A.pQ "word" A.pD
 uo:Meth K A.pL "word" A.pF
 up:Meth K A.pM "told" A.pj
 uq:Meth K A.pN "told" A.py
 ur:Meth K A.pO "told" A.pA
 ut:Meth K A.pP "told" A.pC
 uu:Meth K A.pQ "told" A.pE
 uv:Meth K A.pL "told" A.pG
 uw:Zh K A.pK "__init__" A.oB
 kx1:kitOne K (.ref A.pS) (.ref A.pR)=some true
 kx2:kitOne K (.ref A.pS) (.type "ValueError")=some true
 kx3:PySem.W.kitAny K (.ref A.pS) [.ref A.pT,.ref A.pJ,.ref A.pU,.ref A.pV,.ref A.pW,.ref A.pX,.ref A.pY,.ref A.pZ,.ref A.qa]=some false
local macro_rules | `(tactic| walk_at "s") => `(tactic| exact ⟨rfl, rfl, rfl, by decide +kernel, rfl, by decide +kernel, by decide +kernel⟩)
def lB:gb ["words", "kind", "more"] ["words"] (fP mG):=by walk_at "s"
def wQ:gb ["value"] ["value"] (fP jU):=by walk_at "s"
def Cu:gb ["what", "value", "least", "most"] ["what", "value", "least", "most"] (fP mW):=by walk_at "s"
def Oq:gb ["value"] ["value"] (fP Cy):=by walk_at "s"
def Gi:gb ["what", "value"] ["what", "value"] (fP vA):=by walk_at "s"
def xV:gb ["self", "day", "number", "ware"] ["self", "day", "number", "ware"] (fP lg):=by walk_at "s"
def wj:gb ["self", "day", "number", "ware", "other", "share", "whole"] ["self", "day", "number", "ware", "other", "share", "whole"] (fP jL):=by walk_at "s"
def Ec:gb ["pieces", "price", "fee"] ["pieces", "price", "fee"] (fP uH):=by walk_at "s"
def CJ:gb ["self", "day", "number", "ware", "pieces", "price", "fee"] ["self", "day", "number", "ware", "pieces", "price", "fee"] (fP jk):=by walk_at "s"
def kI:gb ["named", "pieces", "seen", "lot", "lot_pieces"] ["named", "pieces"] (fP ux):=by walk_at "s"
def Ga:gb ["named"] ["named"] (fP vf):=by walk_at "s"
def Bk:gb ["self", "day", "number", "ware", "pieces", "price", "fee", "named"] ["self", "day", "number", "ware", "pieces", "price", "fee", "named"] (fP je):=by walk_at "s"
def Bu:gb ["self", "day", "number", "ware", "pieces", "cost", "since"] ["self", "day", "number", "ware", "pieces", "cost", "since"] (fP lW):=by walk_at "s"
def BJ:gb ["self", "day", "number", "ware", "pieces", "named"] ["self", "day", "number", "ware", "pieces", "named"] (fP jh):=by walk_at "s"
def Aa:gb ["self", "day", "number", "ware", "many", "of"] ["self", "day", "number", "ware", "many", "of"] (fP lz):=by walk_at "s"
def lR:gb ["told", "word"] ["told"] (fP jE):=by walk_at "s"
def vL:gb ["word"] ["word"] (fP jC):=by walk_at "s"
def Bp:gb ["word"] ["word"] (fP lU):=by walk_at "s"
def vM:gb ["word", "halves"] ["word"] (fP uz):=by walk_at "s"
def Al:gb ["words"] ["words"] (fP lA):=by walk_at "s"
def jt:gb ["words", "kind", "count", "told"] ["words"] (fP lu):=by walk_at "s"
def wZ:gb ["self", "row"] ["self", "row"] (fP jW):=by walk_at "s"
def Dz:gb ["row", "place"] ["row", "place"] (fP mQ):=by walk_at "s"
def iw:gb ["text", "rows", "unended", "entries", "seen", "place", "row", "entry"] ["text"] (fP mZ):=by walk_at "s"
def kO:gb ["_law_cell", "_law_bases", "_law_row", "_law_base"] ["_law_cell", "_law_bases"] (fP uF):=by walk_at "s"
def DW:gb ["_law_script", "_law_k"] ["_law_script", "_law_k"] (fP ni):=by walk_at "s"
def jH:gb ["_law_script", "_law_word", "_law_cell", "_law_many"] ["_law_script"] (fP vp):=by walk_at "s"
def gD:gb ["_law_cell", "_law_day", "_law_number", "_law_wares_here", "_law_held", "_law_kind", "_law_at", "_law_size", "_law_pieces", "_law_price", "_law_fee", "_law_many", "_law_ware", "_law_there", "_law_whole", "_law_other"] ["_law_cell", "_law_day", "_law_number", "_law_wares_here", "_law_held"] (fP vy):=by walk_at "s"
def uG:gb ["_law_cell", "_law_k", "_law_number", "_law_other"] ["_law_cell", "_law_k"] (fP vg):=by walk_at "s"
def xH:gb ["_law_script", "_law_many"] ["_law_script"] (fP vq):=by walk_at "s"
def gW:gb ["_law_told", "_law_cell", "_law_left", "_law_named", "_law_k", "_law_some"] ["_law_told", "_law_cell"] (fP jX):=by walk_at "s"
def gU:gb ["_law_script", "_law_most", "_law_wares_here", "_law_by", "_law_low", "_law_told", "_law_k", "_law_cell", "_law_small", "_law_great", "_law_kind", "_law_more", "_law_day", "_law_held", "_law_row"] ["_law_script", "_law_most"] (fP lN):=by walk_at "s"
def jr:gb ["_law_text_here", "_law_told", "e", "_law_others"] ["_law_text_here"] (fP mR):=by walk_at "s"
def Ke:gb ["self"] ["self"] (fP Aj):=by walk_at "s"
def Kq:gb ["self"] ["self"] (fP xX):=by walk_at "s"
def Fw:gb ["named"] ["named"] (fP uQ):=by walk_at "s"
def Hy:gb ["self"] ["self"] (fP wz):=by walk_at "s"
def Ba:gb ["self", "named"] ["self"] (fP wG):=by walk_at "s"
def Ia:gb ["self"] ["self"] (fP wA):=by walk_at "s"
def Ju:gb ["self"] ["self"] (fP vW):=by walk_at "s"
def Ik:gb ["self"] ["self"] (fP wg):=by walk_at "s"
def JF:gb ["self"] ["self"] (fP vX):=by walk_at "s"
def Gz:gb ["self"] ["self"] (fP uV):=by walk_at "s"
def Gd:gb ["self"] ["self"] (fP uU):=by walk_at "s"
def CT:gb ["self"] ["self"] (fP nj):=by walk_at "s"
def Cj:gb ["self"] ["self"] (fP mU):=by walk_at "s"
def iD:gb ["_law_told", "_law_text_here", "_law_row", "_law_words", "_law_rest", "_law_named"] ["_law_told"] (fP wC):=by walk_at "s"
def uW:gb ["_law_row", "_law_way", "_law_words", "_law_kind"] ["_law_row", "_law_way"] (fP kj):=by walk_at "s"
def uT:gb ["_law_script", "_law_told", "_law_rows", "_law_at", "_law_k", "_law_way", "_law_bad", "_law_text_here", "_law_good"] ["_law_script"] (fP Kp):=by walk_at "s"
section
variable{P:Program}{w:World}{K:Fg_}{mg:Str->Option Value}{base:Heap}{A:Adr}{D:Fds}
def Dd(T:Txt w K mg A D):Binds K D.ow ["words"] []:=T.qo.F.binds λ_ _ _ _ _ _=>ln1 λ_=>rfl
def Ah(T:Txt w K mg A D):Binds K D.ox ["value"] []:=T.qp.F.binds λ_ _ _ _ _ _=>ln1 λ_=>rfl
def gB(T:Txt w K mg A D):Binds K D.oy ["what", "value", "least", "most"] []:=T.qq.F.binds λ_ _ _ _ _ _=>ln4 λ_ _ _ _=>rfl
def Qc(T:Txt w K mg A D):Binds K D.oz ["value"] []:=T.qr.F.binds λ_ _ _ _ _ _=>ln1 λ_=>rfl
def Az(T:Txt w K mg A D):Binds K D.oA ["what", "value"] []:=T.qt.F.binds λ_ _ _ _ _ _=>ln2 λ_ _=>rfl
def iT(T:Txt w K mg A D):Binds K D.oB ["self", "day", "number", "ware"] []:=T.qu.binds λ_ _ _ _ _ _=>ln4 λ_ _ _ _=>rfl
def wY(T:Txt w K mg A D):Binds K D.oC ["self", "day", "number", "ware", "other", "share", "whole"] []:=T.qv.binds λ_ _ _ _ _ _=>ln7 λ_ _ _ _ _ _ _=>rfl
def wJ(T:Txt w K mg A D):Binds K D.oE ["pieces", "price", "fee"] []:=T.qw.F.binds λ_ _ _ _ _ _=>ln3 λ_ _ _=>rfl
def wL(T:Txt w K mg A D):Binds K D.oG ["named", "pieces"] []:=T.qy.F.binds λ_ _ _ _ _ _=>ln2 λ_ _=>rfl
def mO(T:Txt w K mg A D):Binds K D.oH ["named"] []:=T.qz.F.binds λ_ _ _ _ _ _=>ln1 λ_=>rfl
def DP(T:Txt w K mg A D):Binds K D.oK ["self", "day", "number", "ware", "pieces", "cost", "since"] []:=T.qB.binds λ_ _ _ _ _ _=>ln7 λ_ _ _ _ _ _ _=>rfl
def Bs(T:Txt w K mg A D):Binds K D.oN ["self", "day", "number", "ware", "many", "of"] []:=T.qD.binds λ_ _ _ _ _ _=>ln6 λ_ _ _ _ _ _=>rfl
def wH(T:Txt w K mg A D):Binds K D.oO ["told"] []:=T.qE.F.binds λ_ _ _ _ _ _=>ln1 λ_=>rfl
def wD(T:Txt w K mg A D):Binds K D.oP ["word"] []:=T.qF.F.binds λ_ _ _ _ _ _=>ln1 λ_=>rfl
def mF(T:Txt w K mg A D):Binds K D.oQ ["word"] []:=T.qG.F.binds λ_ _ _ _ _ _=>ln1 λ_=>rfl
def GX(T:Txt w K mg A D):Binds K D.oR ["word"] []:=T.qH.F.binds λ_ _ _ _ _ _=>ln1 λ_=>rfl
def Bq(T:Txt w K mg A D):Binds K D.oS ["words"] []:=T.qI.F.binds λ_ _ _ _ _ _=>ln1 λ_=>rfl
def Br(T:Txt w K mg A D):Binds K D.oU ["words"] []:=T.qJ.F.binds λ_ _ _ _ _ _=>ln1 λ_=>rfl
def jV(T:Txt w K mg A D):Binds K D.oV ["self", "row"] []:=T.qK.binds λ_ _ _ _ _ _=>ln2 λ_ _=>rfl
def Ed(T:Txt w K mg A D):Binds K D.oW ["row", "place"] []:=T.qL.F.binds λ_ _ _ _ _ _=>ln2 λ_ _=>rfl
def vR(T:Txt w K mg A D):Binds K D.oX ["text"] []:=T.qM.F.binds λ_ _ _ _ _ _=>ln1 λ_=>rfl
def uE(T:Txt w K mg A D):Binds K D.oY ["_law_cell", "_law_bases"] []:=T.qN.F.binds λ_ _ _ _ _ _=>ln2 λ_ _=>rfl
def iW(T:Txt w K mg A D):Binds K D.oZ ["_law_script", "_law_k"] []:=T.qO.F.binds λ_ _ _ _ _ _=>ln2 λ_ _=>rfl
def HW(T:Txt w K mg A D):Binds K D.o5 ["_law_script"] []:=T.qP.F.binds λ_ _ _ _ _ _=>ln1 λ_=>rfl
def Im(T:Txt w K mg A D):Binds K D.o6 ["_law_cell", "_law_day", "_law_number", "_law_wares_here", "_law_held"] []:=T.qQ.F.binds λ_ _ _ _ _ _=>ln5 λ_ _ _ _ _=>rfl
def Ig(T:Txt w K mg A D):Binds K D.o7 ["_law_cell", "_law_k"] []:=T.qR.F.binds λ_ _ _ _ _ _=>ln2 λ_ _=>rfl
def IK(T:Txt w K mg A D):Binds K D.o8 ["_law_script"] []:=T.qS.F.binds λ_ _ _ _ _ _=>ln1 λ_=>rfl
def Ab(T:Txt w K mg A D):Binds K D.o9 ["_law_told", "_law_cell"] []:=T.qT.F.binds λ_ _ _ _ _ _=>ln2 λ_ _=>rfl
def Pu(T:Txt w K mg A D):Binds K D.pf ["_law_script", "_law_most"] []:=T.qU.F.binds λ_ _ _ _ _ _=>ln2 λ_ _=>rfl
def jx(T:Txt w K mg A D):Binds K D.ph ["_law_text_here"] []:=T.qV.F.binds λ_ _ _ _ _ _=>ln1 λ_=>rfl
def Pz(T:Txt w K mg A D):Binds K D.pi ["self"] []:=T.qW.binds λ_ _ _ _ _ _=>ln1 λ_=>rfl
def Pn(T:Txt w K mg A D):Binds K D.pj ["self"] []:=T.qX.binds λ_ _ _ _ _ _=>ln1 λ_=>rfl
def Be(T:Txt w K mg A D):Binds K D.pq ["named"] []:=T.qY.F.binds λ_ _ _ _ _ _=>ln1 λ_=>rfl
def Kz(T:Txt w K mg A D):Binds K D.px ["self"] []:=T.qZ.binds λ_ _ _ _ _ _=>ln1 λ_=>rfl
def KN(T:Txt w K mg A D):Binds K D.py ["self"] []:=T.ra.binds λ_ _ _ _ _ _=>ln1 λ_=>rfl
def JT(T:Txt w K mg A D):Binds K D.pz ["self"] []:=T.rb.binds λ_ _ _ _ _ _=>ln1 λ_=>rfl
def Ky(T:Txt w K mg A D):Binds K D.pA ["self"] []:=T.re.binds λ_ _ _ _ _ _=>ln1 λ_=>rfl
def Kr(T:Txt w K mg A D):Binds K D.pB ["self"] []:=T.rf.binds λ_ _ _ _ _ _=>ln1 λ_=>rfl
def KR(T:Txt w K mg A D):Binds K D.pC ["self"] []:=T.rg.binds λ_ _ _ _ _ _=>ln1 λ_=>rfl
def Io(T:Txt w K mg A D):Binds K D.pD ["self"] []:=T.rh.binds λ_ _ _ _ _ _=>ln1 λ_=>rfl
def Jw(T:Txt w K mg A D):Binds K D.pE ["self"] []:=T.ri.binds λ_ _ _ _ _ _=>ln1 λ_=>rfl
def Eh(T:Txt w K mg A D):Binds K D.pF ["self"] []:=T.rj.binds λ_ _ _ _ _ _=>ln1 λ_=>rfl
def Eg(T:Txt w K mg A D):Binds K D.pG ["self"] []:=T.rl.binds λ_ _ _ _ _ _=>ln1 λ_=>rfl
def KZ(T:Txt w K mg A D):Binds K D.pH ["_law_told"] []:=T.rm.F.binds λ_ _ _ _ _ _=>ln1 λ_=>rfl
def Km(T:Txt w K mg A D):Binds K D.pI ["_law_row", "_law_way"] []:=T.rn.F.binds λ_ _ _ _ _ _=>ln2 λ_ _=>rfl
def uK(T:Txt w K mg A D):∃ds,Binds K D.oF ["self", "day", "number", "ware", "pieces", "price", "fee"] ds/\Vals (([V.int 0]:List V).drop 1) ds:=T.qx.binds (ps:=["self", "day", "number", "ware", "pieces", "price", "fee"]) 1 λTd kV z pm an aa ct its us h1 h2=>by
  revert us;revert h1;revert its;refine ln1 λi0 us h2=>?_;have q:us.length=7:=by simpa using h2
  clear h2;revert q;revert us;exact ln7 λ_ _ _ _ _ _ _=>⟨_,rfl,rfl⟩
def nP(T:Txt w K mg A D):∃ds,Binds K D.oM ["self", "day", "number", "ware", "pieces", "named"] ds/\Vals (([V.non]:List V).drop 1) ds:=T.qC.binds (ps:=["self", "day", "number", "ware", "pieces", "named"]) 1 λTd kV z pm an aa ct its us h1 h2=>by
  revert us;revert h1;revert its;refine ln1 λi0 us h2=>?_;have q:us.length=6:=by simpa using h2
  clear h2;revert q;revert us;exact ln6 λ_ _ _ _ _ _=>⟨_,rfl,rfl⟩
def nC(T:Txt w K mg A D):∃ds,Binds K D.oJ ["self", "day", "number", "ware", "pieces", "price", "fee", "named"] ds/\Vals (([V.int 0,V.non]:List V).drop 2) ds:=T.qA.binds (ps:=["self", "day", "number", "ware", "pieces", "price", "fee", "named"]) 2 λTd kV z pm an aa ct its us h1 h2=>by
  revert us;revert h1;revert its;refine ln2 λi0 i1 us h2=>?_;have q:us.length=8:=by simpa using h2
  clear h2;revert q;revert us;exact ln8 λ_ _ _ _ _ _ _ _=>⟨_,rfl,rfl⟩
end
end My
namespace My
open PySem L2 PyProof.Rows
open PySem.W (codeIn findCls findIn fnOf hasDictIn isFn keepIn kitOne makesIn mg_none_of mg_of nsIn plainGet plainOver readsIn specialIn)
end My
namespace My
open PySem L2 PyProof.Rows
open PySem.W (codeIn findCls findIn fnOf hasDictIn isFn keepIn kitOne makesIn mg_none_of mg_of nsIn plainGet plainOver readsIn specialIn)
section
variable{P:Program}{w:World}{K:Fg_}{mg:Str->Option Value}{base:Heap}{A:Adr}{D:Fds}
def Gb{t u:TS}{D:_}{σ:L2.St}{H:Hp}(h:∀v,v=u->Zv t v D σ H):Zv t u D σ H:=h u rfl
def Ul{wi:TI}{g:TG}{tb:TS}{D:_}{σ:L2.St}{H:Hp}(h:∀v,v=tb->aaI wi g v D σ H):aaI wi g tb D σ H:=h tb rfl
def WK{c:_}{t u:TS}{D:_}{σ:L2.St}{H:Hp}(h:∀v w,v=t->w=u->aaJ c v w D σ H):aaJ c t u D σ H:=h t u rfl rfl
def Kc.rangeN{lo:Int}{n:Nat}{g:TG}{tb:TS}{D:_}{σ:L2.St}{H:Hp}(z:Nat->L2.St->Hp->Prop)(h0:z 0 σ H)(hs:∀i σ H,i<n->z i σ H->∀N:L2.St->Hp->Prop,(∀σ H,z (i+1) σ H->N σ H)->g (.int (lo+i)) σ H λσ2 H2=>tb {D with nx:=N,ct:=N,bk:=D.nx} σ2 H2)(hd:∀σ H,z n σ H->D.nx σ H):Kc (Itr lo n) g tb D σ H:=
 Kc.range z h0 (λi σ H h p=>hs i σ H h p _ λ_ _ q=>q) hd
def Ue{x:Int}{m k:Nat}(q:x.natAbs<2^m)(h:m<=k):x.natAbs<2^k:=zK q (Nat.pow_le_pow_right (by decide) h)
noncomputable def Ml:Int->List Int->List Int
 |_,[]=>[]
 |c,b::r=>c%b::Ml (c/b) r
noncomputable def YG:Int->List Int->Int
 |c,[]=>c
 |c,b::r=>YG (c/b) r
theorem Jc:∀(c:Int)(l:List Int)(b:Int),Ml c (l++[b])=Ml c l++[YG c l%b]
 |_,[],_=>rfl
 |c,x::r,b=>by show c%x::Ml (c/x) (r++[b])=_;rw[Jc];rfl
theorem Ie:∀(c:Int)(l:List Int)(b:Int),YG c (l++[b])=YG c l/b
 |_,[],_=>rfl
 |c,x::r,b=>by show YG (c/x) (r++[b])=_;rw[Ie];rfl
theorem wB:∀(c:Int)(l:List Int),(Ml c l).length=l.length
 |_,[]=>rfl
 |c,x::r=>by show(Ml (c/x) r).length+1=_;rw[wB];rfl
def La{ns:List Int}{i:Nat}{y:V}(h:(ns.map V.int)[i]? =some y):∃z,y=V.int z/\ns[i]? =some z:=by
 rw[zB]at h
 cases e:ns[i]? with
 |none=>rw[e]at h;cases h
 |some z=>rw[e]at h;exact⟨z,(zf h).symm,rfl⟩
def tyL{K:Fg_}{H:Hp}{p:Addr}{xs:List V}(h:SqL K H p xs):tyV K "list" (.ref p) H:=.inl ⟨rfl,_,h⟩
noncomputable def Dy(K:Fg_):Sp:=λvs H Q _=>∃(a:Addr)(ns:List Int)(k:Nat),vs=[.ref a,.int k]/\SqL K H a (ns.map V.int)/\Q (.int (ns.getD k 0)) H
def iJ(T:Txt w K mg A D):jn P w K mg base CX0 1 A.oZ D.oZ ["_law_script", "_law_k"] (Dy K):=by
 refine T.qO.F.okv DW λ_ _ _ _ H vs Q E hr h=>?_
 ·obtain⟨a,ns,q,rfl,z,k⟩:=h
  refine ⟨_,(fJ (iM (fZ (Ei) (pvD 1) (gG (jf (K:=K)) (by rfl) T.rq (by decide+kernel) (pav 0 fO)) (gA _)) (fQ (gn (gF (fV (K:=K)) (pvD 0) (pvD 1) (λ_ _=>rfl)))) gw)
   (fQ (gn fL))),?_⟩
  walk_at "a";refine⟨_,.inl z,?_⟩;rw[zb];by_cases h:q<ns.length
  ·rw[zu (by omega)]
   refine⟨_,z,_,jw (j:=q) (v:=.int (ns.getD q 0)) ?_,k⟩;rw[zB,zJ h,zz2,zJ h];rfl
  ·rw[zo (by omega)]
   rw[zz2,zzy (by omega)]at k;exact k
def BP(xs:List V)(n:Nat):uN xs (some (n:Int)) none=xs.drop n:=by
 unfold uN;rw[HT.sIx_none,HT.sIx_nat];rcases Nat.le_total n xs.length with h|h
 ·rw[yyf h,ya (by rw[yf];exact zj _)]
 ·rw[Nat.min_eq_right h,List.drop_of_length_le (zj _),List.drop_of_length_le h,List.take_nil]
def Gk{l:Addr}{k:Int}{H:Hp}{Q:VK}:aat (.ref l) (.int k) H Q=∃xs,H l=some (.lst xs)/\ -(2^63)<=k/\k<2^63/\xs.length*k.toNat<=sizeLine/\∀p,H p=none->Q (.ref p) (upd H p (.lst (List.replicate k.toNat xs).flatten)):=by simp[aat]
noncomputable def Nm(z:Str):Prop:=1<=z.length/\z.length<=8/\∀c∈z.cps.toList,97<=c/\c<=122
instance (z:Str):Decidable (Nm z):=inferInstanceAs (Decidable (_/\_/\_))
noncomputable def WV(v:V):Prop:=(∃i:Int,v=.int i)\/∃z:Str,v=.str z/\z.length<=100000
noncomputable def isI:V->Bool
 |.int _=>true
 |_=>false
noncomputable def xx:Sp:=λvs H Q _=>∃v,vs=[v]/\WV v/\Q (.bl (isI v)) H
def xN(T:Txt w K mg A D):jn P w K mg base CX0 1 A.ox D.ox ["value"] xx:=by
 refine T.qp.F.okv wQ λ_ _ _ _ H vs Q E hr h=>?_
 ·obtain⟨v,rfl,q,k⟩:=h
  refine⟨_,(fQ (gn (Wc (gG (wX (K:=K)) (by rfl) T.rA (by decide+kernel) (pav 0 (fH (QX "int" (by rfl) T.rB (by decide+kernel)) fO))) (VJ (aaE (gG (wX (K:=K)) (by rfl) T.rA (by decide+kernel) (pav 0 (fH (QX "bool" (by rfl) T.rC (by decide+kernel)) fO)))))))),?_⟩;rcases q with⟨i,rfl⟩|⟨z,rfl,_⟩
  ·walk_at "a"
   refine⟨_,.int i,true,by with_unfolding_all rfl,?_⟩;walk_at "a";refine⟨_,.int i,false,by with_unfolding_all rfl,?_⟩;walk_at "a";exact k
  ·walk_at "a"
   refine⟨_,.str z,false,by with_unfolding_all rfl,?_⟩;walk_at "a";exact k
noncomputable def InR(v:V)(lo hi:Int):Prop:=∃i:Int,v=.int i/\lo<=i/\i<=hi
noncomputable def CQ(A:Adr):Sp:=λvs H Q E=>∃(z:Str)(v:V)(lo hi:Int),vs=[.str z,v,.int lo,.int hi]/\WV v/\z.length<=1000/\lo.natAbs<2^300/\hi.natAbs<2^300/\
 (InR v lo hi->Q .non H)/\(¬InR v lo hi->E (.ref A.pJ) none H)
def gq(T:Txt w K mg A D):jn P w K mg base (CX1 P w) 2 A.oy D.oy ["what", "value", "least", "most"] (CQ A):=by
 refine T.qq.F.okX Cu (by walk_at "v") (λ_ _ _ _ H vs Q E hr h=>?_)
 ·obtain⟨z,v,lo,hi,rfl,hv,hz,h1,h2,k,kE⟩:=h
  refine⟨_,(fQ (iM (PW.pt (Cg (Nh (Fg (pcg (xN T) hr T.qp (Ah T) (pav 1 fO)))) (Cg (fZ (Ei) (pvD 1) (pvD 2) (gA _)) (wI (fZ (El) (pvD 1) (pvD 3) (gA _)))))) (fQ (mL kZ rfl T.sK (by rfl) T.rO (fH (Pq (pvD 0) (pvD 2) (pvD 3)) fO))) gw)),?_⟩;rcases id hv with⟨i,rfl⟩|⟨y,rfl,_⟩
  ·walk_at "a"
   refine⟨_,rfl,hv,?_⟩;rw[show isI (V.int i)=true from rfl];walk_at "a";by_cases aa:i<lo
   ·rw[zu aa]
    exact⟨hz,h1,h2,λ_=>⟨sz,kE fun⟨j,e,a,b⟩=>by cases e;omega⟩⟩
   ·rw[zo aa]
    by_cases q:hi<i
    ·rw[zu q]
     exact⟨hz,h1,h2,λ_=>⟨sz,kE fun⟨j,e,a,b⟩=>by cases e;omega⟩⟩
    ·rw[zo q]
     exact k ⟨i,rfl,by omega,by omega⟩
  ·walk_at "a"
   refine⟨_,rfl,hv,?_⟩;rw[show isI (V.str y)=false from rfl];walk_at "a";exact⟨hz,h1,h2,λ_=>⟨sz,kE fun⟨j,e,a,b⟩=>by cases e⟩⟩
noncomputable def okS:V->Bool
 |.str x=>x.cps.toList.all λc=>decide (97<=c) && decide (c<=122)
 |_=>true
def XS(l:List Nat):((l.map λc=>V.str ⟨#[c]⟩).map okS).all id=l.all λc=>decide (97<=c) && decide (c<=122):=by
 induction l with
 |nil=>rfl
 |cons c l ih=>
  rw[zg,zg,yE,yE,ih];show((decide (97<=c) && decide (c<=122)) && true && _)=_;rw[zzH]
def Zg{z:Str}(h1:1<=z.length)(h2:z.length<=8):(z.cps.toList.all λc=>decide (97<=c) && decide (c<=122))=decide (Nm z):=by
 rw[yX,yG,decide_eq_true_iff];constructor
 ·intro h
  refine⟨h1,h2,λc q=>?_⟩;have:=h c q;rw[zG,decide_eq_true_iff,decide_eq_true_iff]at this;exact this
 ·intro h c q
  rw[zG,decide_eq_true_iff,decide_eq_true_iff];exact h.2.2 c q
noncomputable def nmV:V->Bool
 |.str z=>decide (Nm z)
 |_=>false
def HS(a b:Nat):([a]<[b])↔a<b:=by
 rw[List.cons_lt_cons_iff];exact⟨λh=>h.elim id λh=>absurd h.2 (List.not_lt_nil _),.inl⟩
noncomputable def Ph:Sp:=λvs H Q _=>∃v:V,vs=[v]/\WV v/\∀H',Same H H'->Q (.bl (nmV v)) H'
def Ou(T:Txt w K mg A D):jn P w K mg base CX0 1 A.oz D.oz ["value"] Ph:=by
 refine T.qr.F.okv Oq λ_ _ _ _ H vs Q E hr h=>?_
 ·obtain⟨v,rfl,q,k⟩:=h
  refine ⟨_,(fJ (iM (PW.pt (Cg (Nh (Fg (gG (wX (K:=K)) (by rfl) T.rA (by decide+kernel) (pav 0 (fH (QX "str" (by rfl) T.rE (by decide+kernel)) fO))))) (Cg (fZ (Ei) (gG mK (by rfl) T.rq (by decide+kernel) (pav 0 fO)) fL (gA _)) (wI (fZ (El) (gG mK (by rfl) T.rq (by decide+kernel) (pav 0 fO)) (gP (v:=V.int 8) (by rfl) T.sk ⟨_,rfl⟩) (gA _)))))) (fQ (gn nq)) gw)
   (fQ (gn (gG (Iw (K:=K) rfl) (by rfl) T.rD (by decide+kernel) (fH (jO (cap:=[none]) (N':=["sign"]) rfl (by walk_at "c") (WD (pvD 0)) (λ_ _ _ _=>(gJ (i:=0) nd1 rfl orl orr)) (λ_ _ _ _=>jZ) (λ_ _ _ _=>(Nu (xr) (xr) fW (pvD 0) fW))) fO))))),?_⟩
  rcases q with⟨i,rfl⟩|⟨z,rfl,aa⟩
  ·walk_at "a"
   refine⟨_,.int i,false,by with_unfolding_all rfl,?_⟩;walk_at "a";exact k H (same_refl H)
  walk_at "a";refine⟨_,.str z,true,by with_unfolding_all rfl,?_⟩;walk_at "a";have hz:z.length<=sizeLine:=by rw[zc];omega
  have k:∀H',Same H H'->Q (.bl (decide (Nm z))) H':=k;refine⟨hz,?_⟩;by_cases n1:1<=z.length
  rotate_left
  ·rw[zu (by omega)]
   rw[zF (λh:Nm z=>n1 h.1)]at k;exact k H (same_refl H)
  rw[zo (by omega)];refine⟨hz,?_⟩;by_cases n2:z.length<=8
  rotate_left
  ·rw[zu (by omega)]
   rw[zF (λh:Nm z=>n2 h.2.1)]at k;exact k H (same_refl H)
  rw[zo (by omega)];refine jP.str (λσ=>∃v,σ=[v]) (λ_=>true) (λv=> .bl (okS v)) ⟨none,rfl⟩ hz ?_ ?_
  ·rintro x hx σ H5 R1 R2 ⟨v,rfl⟩ sm k1 k2
   obtain⟨c,hc,rfl⟩:=zO.mp hx;walk_at "a";have ea:(Str.ofString "a").cps.toList=[97]:=by decide+kernel
   have ez:(Str.ofString "z").cps.toList=[122]:=by decide+kernel
   rw[ea,ez]
   have q:(if¬[c]<[97]then V.bl !decide ([122]<[c])else V.bl false)=V.bl (okS (.str ⟨#[c]⟩)):=by
    show _=V.bl ((decide (97<=c) && decide (c<=122)) && true);by_cases h1:97<=c
    ·rw[zu (by rw[HS];omega),yb h1]
     by_cases h2:c<=122
     ·rw[yb h2,zF (by rw[HS];omega)];rfl
     ·rw[zF h2,yb (by rw[HS];omega)];rfl
    ·rw[zo (by rw[HS];omega),zF h1];rfl
   have k1:=k1 rfl [some (V.str {cps:= #[c]})] H5 ⟨_,rfl⟩ (same_refl _);rw[<-q]at k1;by_cases h1:¬[c]<[97]
   ·rw[zu h1]at k1⊢;exact k1
   ·rw[zo h1]at k1⊢;exact k1
  ·intro Da H' hD sm e
   rw[nU]at e;walk_at "a";refine⟨(L2.signs z).map okS,fU (by rw[e,zU];rfl),?_⟩;have h3:((L2.signs z).map okS).all id=decide (Nm z):=(XS z.cps.toList).trans (Zg n1 n2);rw[h3];exact k H' sm
noncomputable def NmW(v:V):Prop:=∃z,v=.str z/\Nm z
def Th{v:V}:nmV v=true↔NmW v:=by
 constructor
 ·intro h
  cases v with
  |str z=>exact⟨z,rfl,of_decide_eq_true h⟩
  |_=>cases h
 ·rintro⟨z,rfl,h⟩
  exact yb h
noncomputable def FP(A:Adr):Sp:=λvs H Q E=>∃(t:Str)(v:V),vs=[.str t,v]/\WV v/\t.length<=1000/\(NmW v->∀H',Same H H'->Q .non H')/\(¬NmW v->∀H',Same H H'->E (.ref A.pJ) none H')
def xT(T:Txt w K mg A D):jn P w K mg base (CX1 P w) 2 A.oA D.oA ["what", "value"] (FP A):=by
 refine T.qt.F.okX Gi (by walk_at "v") (λ_ _ _ _ H vs Q E hr h=>?_)
 ·obtain⟨t,v,rfl,hv,ht,k,q⟩:=h
  refine⟨_,(fQ (iM (Nh (Fg (pcg (Ou T) hr T.qr (Qc T) (pav 1 fO)))) (fQ (mL kZ rfl T.sK (by rfl) T.rO (fH (Rt (pvD 0) (gP (v:=V.int 8) (by rfl) T.sk ⟨_,rfl⟩)) fO))) gw)),?_⟩;walk_at "a";refine⟨v,rfl,hv,λH' s'=>?_⟩;walk_at "a";by_cases hn:nmV v=true
  ·rw[zo (by rw[hn];exact λz=>nomatch z)]
   exact k (Th.mp hn) H' s'
  ·rw[zu (by simpa using hn)]
   exact⟨ht,by decide,λ_=>⟨sz,q (λz=>hn (Th.mpr z)) H' s'⟩⟩
noncomputable def Tr(p r f:V):Prop:=InR p 1 1000000000/\InR r 0 1000000000/\InR f 0 1000000000
noncomputable def DY(A:Adr):Sp:=λvs H Q E=>∃(p r f:V),vs=[p,r,f]/\WV p/\WV r/\WV f/\(Tr p r f->Q .non H)/\(¬Tr p r f->E (.ref A.pJ) none H)
def vO(T:Txt w K mg A D):jn P w K mg base (CX1 P w) 3 A.oE D.oE ["pieces", "price", "fee"] (DY A):=by
 refine T.qw.F.okX Ec (by walk_at "v") (λ_ _ _ _ H vs Q E hr h=>?_)
 ·obtain⟨p,r,f,rfl,w1,w2,w3,k,z⟩:=h
  refine ⟨_,(fJ (gK (iu (gq (K:=K) T) (hr.mono (by decide)) (by rfl) T.qq.m T.qq.k (gB T) .nil gj (fH fW (pav 0 (fH fL (fH (gP (v:=V.int 1000000000) (by rfl) T.sv ⟨_,rfl⟩) fO))))))
   (fJ (gK (iu (gq (K:=K) T) (hr.mono (by decide)) (by rfl) T.qq.m T.qq.k (gB T) .nil gj (fH fW (pav 1 (fH fL (fH (gP (v:=V.int 1000000000) (by rfl) T.sy ⟨_,rfl⟩) fO))))))
   (fQ (gK (iu (gq (K:=K) T) (hr.mono (by decide)) (by rfl) T.qq.m T.qq.k (gB T) .nil gj (fH fW (pav 2 (fH fL (fH (gP (v:=V.int 1000000000) (by rfl) T.sA ⟨_,rfl⟩) fO))))))))),?_⟩
  walk_at "a";refine⟨_,_,_,_,rfl,w1,by decide+kernel,by decide,by decide,λh1=>?_,λh1=>z λh=>h1 h.1⟩;walk_at "a";refine⟨_,_,_,_,rfl,w2,by decide+kernel,by decide,by decide,λh2=>?_,λh2=>z λh=>h2 h.2.1⟩;walk_at "a";refine⟨_,_,_,_,rfl,w3,by decide+kernel,by decide,by decide,λq=>?_,λq=>z λh=>q h.2.2⟩;exact k ⟨h1,h2,q⟩
def FJ{f:Str}{v:V}{fs:List (Str×V)}(ns:List Str)(e:fs.map (·.1)=ns:=by rfl)(h:ns.contains f=false:=by decide+kernel):Cd f v fs=fs++[(f,v)]:=Gx f v (e▸h)
noncomputable def fsE(d n:Int)(w:Str):List (Str×V):=[("day",.int d),("number",.int n),("ware",.str w)]
structure Base(d n:Int)(w:Str):Prop where
 d0:0<=d
 d1:d<=1000000
 n0:0<=n
 n1:n<=1000000
 w:Nm w
structure CE(K:Fg_)(C:Addr):Prop where
 c:Cls K C
 d:gk K C "day"
 n:gk K C "number"
 w:gk K C "ware"
structure New(B H:Hp)(x:Addr)(C dx:Addr)(fs:List (Str×V)):Prop where
 s:Same B H
 n:B x=none
 h:H x=some (.ins C dx fs)
def New.put{B H:Hp}{x C dx:Addr}{fs gs:List (Str×V)}(h:New B H x C dx fs)(e:gs=gs):New B (upd H x (.ins C dx gs)) x C dx gs:=⟨h.s.upd h.n,h.n,fK⟩
def New.same{B H H':Hp}{x C dx:Addr}{fs:List (Str×V)}(h:New B H x C dx fs)(e:Same H H'):New B H' x C dx fs:=⟨h.s.trans e,h.n,e _ _ h.h⟩
noncomputable def aaW(d n w:V):Prop:=∃d' n' w',d=.int d'/\n=.int n'/\w=.str w'/\Base d' n' w'
noncomputable def Ag(K:Fg_)(A:Adr):Sp:=λvs H Q E=>∃(x:Addr)(d n w:V)(B:Hp)(C dx:Addr),vs=[.ref x,d,n,w]/\WV d/\WV n/\WV w/\New B H x C dx []/\CE K C/\
 (∀d' n' w',d=.int d'->n=.int n'->w=.str w'->Base d' n' w'->∀H',New B H' x C dx (fsE d' n' w')->Q .non H')/\(¬aaW d n w->∀H',Same B H'->E (.ref A.pJ) none H')
def iI(T:Txt w K mg A D):jn P w K mg base (CX1 P w) 3 A.oB D.oB ["self", "day", "number", "ware"] (Ag K A):=by
 refine T.qu.okX xV (by walk_at "v") (λ_ _ _ _ H vs Q E hr h=>?_)
 ·obtain⟨x,d,n,w,B,C,dx,rfl,w1,w2,w3,q,hC,k,kE⟩:=h
  refine ⟨_,(fJ (gK (iu (gq (K:=K) T) (hr.mono (by decide)) (by rfl) T.qq.m T.qq.k (gB T) .nil gj (fH fW (pav 1 (fH fL (fH (gP (v:=V.int 1000000) (by rfl) T.sq ⟨_,rfl⟩) fO))))))
   (fJ (gK (iu (gq (K:=K) T) (hr.mono (by decide)) (by rfl) T.qq.m T.qq.k (gB T) .nil gj (fH fW (pav 2 (fH fL (fH (gP (v:=V.int 1000000) (by rfl) T.ss ⟨_,rfl⟩) fO))))))
   (fJ (gK (iu (xT (K:=K) T) (hr.mono (by decide)) (by rfl) T.qt.m T.qt.k (Az T) .nil gj (fH fW (pav 3 fO))))
   (fJ (iR (K:=K) (pv 0) (pvD 1) rfl)
   (fJ (iR (K:=K) (pv 0) (pvD 2) rfl)
   (fQ (iR (K:=K) (pv 0) (pvD 3) rfl))))))),?_⟩
  walk_at "a";refine⟨_,_,_,_,rfl,w1,by decide+kernel,by decide,by decide,λh1=>?_,λh1=>kE (fun⟨d',n',w',e1,e2,e3,z⟩=>h1 ⟨_,e1,z.d0,z.d1⟩) _ q.s⟩;walk_at "a";refine⟨_,_,_,_,rfl,w2,by decide+kernel,by decide,by decide,λh2=>?_,λh2=>kE (fun⟨d',n',w',e1,e2,e3,z⟩=>h2 ⟨_,e2,z.n0,z.n1⟩) _ q.s⟩;walk_at "a";refine⟨_,_,rfl,w3,by decide+kernel,λh3 H' sm=>?_,λh3 H' sm=>kE (fun⟨d',n',w',e1,e2,e3,z⟩=>h3 ⟨_,e3,z.w⟩) _ (q.s.trans sm)⟩;obtain⟨d,rfl,d0,d1⟩:=h1;obtain⟨n,rfl,n0,n1⟩:=h2;obtain⟨w,rfl,hw⟩:=h3
  try walk_at "a"
  have q:=q.same sm;refine sw q.h hC.c hC.d (by decide) (?_);rw[Gx _ _ (by decide+kernel)];have q:=q.put (gs:=[]++[(Str.ofString "day",V.int d)]) rfl;refine sw q.h hC.c hC.n (by simp) (?_);rw[FJ (f:=Str.ofString "number") ["day"]];have q:=q.put (gs:=([]++[(Str.ofString "day",V.int d)])++[(Str.ofString "number",V.int n)]) rfl;refine sw q.h hC.c hC.w (by simp) (?_);rw[FJ (f:=Str.ofString "ware") ["day", "number"]];exact k d n w rfl rfl rfl ⟨d0,d1,n0,n1,hw⟩ _ (q.put rfl)
abbrev Rs:=List (Addr×Int×Int)
abbrev Ws:=List (Addr×V×V)
noncomputable def refs(rs:Rs):List V:=rs.map λr=>V.ref r.1
noncomputable def Ge(rs:Ws):List V:=rs.map λr=>V.ref r.1
noncomputable def Mh(H:Hp)(rs:Rs):Prop:=∀r∈rs,H r.1=some (.tup [.int r.2.1,.int r.2.2])
noncomputable def Lb(H:Hp)(rs:Ws):Prop:=∀r∈rs,H r.1=some (.tup [r.2.1,r.2.2])
def Mh.same{H H':Hp}{rs:Rs}(h:Mh H rs)(s:Same H H'):Mh H' rs:=λr q=>s _ _ (h r q)
def Lb.same{H H':Hp}{rs:Ws}(h:Lb H rs)(s:Same H H'):Lb H' rs:=λr q=>s _ _ (h r q)
noncomputable def wR(r:Addr×Int×Int):Addr×V×V:=(r.1,.int r.2.1,.int r.2.2)
def VB{a b:Addr×Int×Int}(h:wR a=wR b):a=b:=by
 obtain⟨a1,a2,a3⟩:=a;obtain⟨q,b2,z⟩:=b;unfold wR at h;cases h;rfl
theorem Gn:∀{a b:Rs},a.map wR=b.map wR->a=b
 |[],[],_=>rfl
 |[],_::_,h=>by cases h
 |_::_,[],h=>by cases h
 |x::a,y::b,h=>by
  rw[zg,zg]at h;injection h with h1 h2
  rw[VB h1,Gn h2]
def Iv(rs:Rs):Ge (rs.map wR)=refs rs:=by
 unfold Ge refs;rw[zU];rfl
def Lb.ints{H:Hp}{rs:Rs}(h:Lb H (rs.map wR)):Mh H rs:=λr q=>h _ (zzf q)
structure Ce(rs:Rs)(p:Int):Prop where
 l:rs.length<=59
 b:∀r∈rs,0<=r.2.1/\r.2.1<=1000000/\1<=r.2.2/\r.2.2<=p
 u:(rs.map (·.2.1)).Nodup
 s:(rs.map (·.2.2)).sum=p
noncomputable def NL(H:Hp)(v:V):Option Rs->Prop
 |none=>v=.non
 |some rs=>∃l,v=.ref l/\H l=some (.lst (refs rs))/\Mh H rs
noncomputable def NW(H:Hp)(v:V):Option Ws->Prop
 |none=>v=.non
 |some rs=>∃l,v=.ref l/\H l=some (.lst (Ge rs))/\Lb H rs/\(∀r∈rs,WV r.2.1/\WV r.2.2)/\rs.length<=59
noncomputable def Kh(p:Int):Option Rs->Prop
 |none=>True
 |some rs=>Ce rs p
noncomputable def wO(o:Option Rs):Option Ws:=o.map (List.map wR)
noncomputable def QM(p:Int)(o:Option Ws):Prop:=∃o':Option Rs,o=wO o'/\Kh p o'
theorem NL.same{H H':Hp}{v:V}{o:Option Rs}(h:NL H v o)(s:Same H H'):NL H' v o:=by
 cases o with
 |none=>exact h
 |some rs=>obtain⟨l,e,h1,h2⟩:=h;exact⟨l,e,s _ _ h1,h2.same s⟩
theorem NW.same{H H':Hp}{v:V}{o:Option Ws}(h:NW H v o)(s:Same H H'):NW H' v o:=by
 cases o with
 |none=>exact h
 |some rs=>obtain⟨l,e,h1,h2,q⟩:=h;exact⟨l,e,s _ _ h1,h2.same s,q⟩
theorem NW.ints{H:Hp}{v:V}{o:Option Rs}(h:NW H v (wO o)):NL H v o:=by
 cases o with
 |none=>exact h
 |some rs=>
  obtain⟨l,e,h1,h2,_⟩:=h;rw[Iv]at h1;exact⟨l,e,h1,h2.ints⟩
def Lx{κ:Type} [DecidableEq κ] (kvs:List (κ×V)) (k:κ) (v:V):(putK kvs k v).length<=kvs.length+1:=by
 unfold putK;split
 ·rw[zb];omega
 ·rw[zh];exact zj _
def QJ{rs:Ws}{i:Nat}{y:V}(h:(Ge rs)[i]? =some y):∃r,rs[i]? =some r/\y=.ref r.1:=by
 unfold Ge at h;rw[zB]at h
 cases e:rs[i]? with
 |none=>rw[e]at h;cases h
 |some r=>rw[e]at h;exact⟨r,rfl,(zf h).symm⟩
def fresh_at{rs:Rs}{i:Nat}{r:Addr×Int×Int}(h:(rs.map (·.2.1)).Nodup)(e:rs[i]? =some r):r.2.1∉(rs.take i).map (·.2.1):=by
 intro hm;have z:i<rs.length:=(zr.mp e).1;have h2:rs.map (·.2.1)=(rs.take i).map (·.2.1)++(rs.drop i).map (·.2.1):=by rw[<-zk,List.take_append_drop]
 rw[h2]at h
 have q:=(y6.mp h).2.2 _ hm r.2.1 (by
  rw[zO];exact⟨r,by rw[List.mem_iff_getElem?];exact⟨0,by rw[zz3];exact e⟩,rfl⟩)
 exact q rfl
def Gf(rs:Rs):(refs rs).length=rs.length:=by unfold refs;rw[zb]
def Ry(rs:Ws):(Ge rs).length=rs.length:=by unfold Ge;rw[zb]
noncomputable def secs(H:Hp):V->V
 |.ref a=>match H a with
  |some (.tup [_,x])=>x
  |_=> .non
 |_=> .non
def QD{H:Hp}{r:Addr×Int×Int}(h:H r.1=some (.tup [.int r.2.1,.int r.2.2])):secs H (.ref r.1)=.int r.2.2:=by
 show(match H r.1 with|some (.tup [_,x])=>x|_=> .non)=_;rw[h]
def Qx{H:Hp}{rs:Rs}(h:Mh H rs):(refs rs).map (secs H)=rs.map λr=>V.int r.2.2:=by
 unfold refs;rw[zU];exact zzS λr q=>QD (h r q)
def Av{p:Int}{rs:Ws}(h:QM p (some rs)):∃q:Rs,rs=q.map wR/\Ce q p:=by
 obtain⟨o',e,z⟩:=h
 cases o' with
 |none=>cases e
 |some q=>exact⟨q,zf e,z⟩
def Mj{p:Int}{rs:Ws}{i:Nat}{r:Addr×V×V}(h:QM p (some rs))(e:rs[i]? =some r):InR r.2.1 0 1000000/\InR r.2.2 1 p:=by
 obtain⟨z,rfl,hg⟩:=Av h;rw[zB]at e
 cases q:z[i]? with
 |none=>rw[q]at e;cases e
 |some r'=>
  rw[q]at e;cases zf e;obtain⟨b0,b1,b2,b3⟩:=hg.b r' (za q);exact⟨⟨_,rfl,b0,b1⟩,⟨_,rfl,b2,b3⟩⟩
def JW{p:Int}{rs:Ws}{z:Rs}{i:Nat}{b:Addr}{x y:Int}(h:QM p (some rs))(e:rs[i]? =some (b,.int x,.int y))(ht:rs.take i=z.map wR):x∉z.map (·.2.1):=by
 obtain⟨aa,rfl,hg⟩:=Av h;rw[<-zX]at ht;rw[<-Gn ht];rw[zB]at e
 cases q:aa[i]? with
 |none=>rw[q]at e;cases e
 |some r'=>
  rw[q]at e;have e2:r'=(b,x,y):=VB (zf e);have:=fresh_at hg.u q;rw[e2]at this;exact this
noncomputable def Ef(K:Fg_)(A:Adr):Sp:=λvs H Q E=>∃(v:V)(p:Int)(o:Option Ws),vs=[v,.int p]/\NW H v o/\p.natAbs<2^300/\
 (QM p o->∀H',Same H H'->Q .non H')/\(¬QM p o->∀H',Same H H'->E (.ref A.pJ) none H')
def vU(T:Txt w K mg A D):jn P w K mg base (CX1 P w) 3 A.oG D.oG ["named", "pieces"] (Ef K A):=by
 refine T.qy.F.okX kI (by walk_at "v") (λ_ _ _ _ H vs Q E hr h=>?_)
 ·obtain⟨v,p,o,rfl,hn,hp,k,kE⟩:=h
  refine ⟨_,(fJ (iM (fZ (Sv) (pvD 0) vQ (gA _)) (fQ (Xy)) gw)
   (fJ (iM (Nh (Fg (gG (wX (K:=K)) (by rfl) T.rA (by decide+kernel) (pav 0 (fH (QX "list" (by rfl) T.rF (by decide+kernel)) fO))))) (fQ (mL kZ rfl T.sK (by rfl) T.rO (fH fW fO))) gw)
   (fJ (gm (i:=2) kI.nd rfl orl FT)
   (fJ (Bd PassesOwn.leaving rfl (lG (K:=K) (pv 0)) (FW (K:=K) (n:=2) rfl (iK (gJ (i:=3) kI.nd rfl orl) (iK (gJ (i:=4) kI.nd rfl orl) Ay)))
    (fJ (gK (iu (gq (K:=K) T) (hr.mono (by decide)) (by rfl) T.qq.m T.qq.k (gB T) .nil gj (fH fW (pav 3 (fH fL (fH (gP (v:=V.int 1000000) (by rfl) T.ss ⟨_,rfl⟩) fO))))))
    (fJ (gK (iu (gq (K:=K) T) (hr.mono (by decide)) (by rfl) T.qq.m T.qq.k (gB T) .nil gj (fH fW (pav 4 (fH fL (pav 1 fO))))))
    (fJ (iM (fZ (Je (Qd hr)) (pvD 3) (pvD 2) (by with_unfolding_all rfl)) (fQ (mL kZ rfl T.sK (by rfl) T.rO (fH (HB (pvD 3)) fO))) gw)
    (fQ (Sq (Qd hr) (pvD 2) (pvD 3) nq rfl))))))
   (fQ (iM (fZ (OJ) (gG (Rx (K:=K) rfl) (by rfl) T.rG (by decide+kernel) (fH (jO (cap:=[none]) (N':=["pair"]) rfl (by walk_at "c") (lG (K:=K) (pv 0)) (λ_ _ _ _=>(gJ (i:=0) nd1 rfl orl orr)) (λ_ _ _ _=>jZ) (λ_ _ _ _=>(gF (mC (K:=K)) (pvD 0) fL (λ_ _=>rfl)))) fO)) (pvD 1) (gA _)) (fQ (mL kZ rfl T.sK (by rfl) T.rO (fH fW fO))) gw)))))),?_⟩
  cases o with
  |none=>
   cases hn;walk_at "a";exact k ⟨none,rfl,True.intro⟩ H (same_refl H)
  |some rs=>
   obtain⟨l,rfl,hl,hL,hW,ae⟩:=hn;walk_at "a";refine⟨_,.lst hl,true,by with_unfolding_all rfl,?_⟩;walk_at "a";intro sd ad;refine⟨⟨_,(fM ad).seq (fU hl)⟩,?_⟩
   refine wV (K:=K) (xs:=Ge rs) (λi σ H2=>∃v3 v4 kvs aa,σ=[some (.ref l),some (.int p),some (.ref sd),v3,v4]/\Same H H2/\H2 sd=some (.dK kvs)/\kvs.length<=i/\rs.take i=List.map wR aa/\(∀j:Int,(nW kvs (Sum.inl j)).isSome=true↔j∈aa.map (·.2.1))/\(∀r∈aa,0<=r.2.1/\r.2.1<=1000000/\1<=r.2.2/\r.2.2<=p)/\(aa.map (·.2.1)).Nodup)
    ⟨none,none,[],[],rfl,fM ad,fK,zj _,rfl,λ_=>⟨(λh=>nomatch h),(λh=>nomatch h)⟩,(λ_ h=>nomatch h),.nil⟩ (λi σ H2 _ ⟨_,_,_,_,_,s2,_⟩=>s2.seq (fU hl)) ?_ ?_
   ·rintro i y σ H2 hi ⟨v3,v4,kvs,aa,rfl,s2,h2,hk,ht,hv,hb,hu⟩
    obtain⟨r,ab,rfl⟩:=QJ hi;have ai:i<rs.length:=(zr.mp ab).1;have ac:r∈rs:=za ab;obtain⟨w1,w2⟩:=hW r ac;walk_at "a";refine⟨_,jg (s2 _ _ (hL r ac)),rfl,?_⟩;walk_at "a";refine⟨_,_,_,_,rfl,w1,by decide+kernel,by decide,by decide,λb1=>?_,λb1=>kE (λhg=>b1 (Mj hg ab).1) H2 s2⟩;refine⟨_,_,_,_,rfl,w2,by decide+kernel,by decide,hp,λb2=>?_,λb2=>kE (λhg=>b2 (Mj hg ab).2) H2 s2⟩;obtain⟨b,x1,x2⟩:=r;obtain⟨x,rfl,a0,a1⟩:=b1;obtain⟨z,rfl,c0,c1⟩:=b2;walk_at "a";refine⟨_,Tv (k:=Sum.inl x) h2,?_⟩;by_cases hs:(nW kvs (Sum.inl x)).isSome=true
    ·rw[zu hs]
     exact⟨z9 (show x.natAbs<=1000000 by omega) (by decide),λ_ _=>⟨sz,kE (λhg=>JW hg ab ht ((hv _).mp hs)) H2 s2⟩⟩
    ·rw[zo hs]
     have ag:x∉aa.map (·.2.1):=λh=>hs ((hv _).mpr h);refine⟨_,VG (k:=Sum.inl x) h2 (by rw[zc];omega),s2.upd ad,_,fK,?_,aa++[(b,x,z)],?_,?_,?_,?_⟩
     ·have:=Lx kvs (Sum.inl x:Key) (V.bl true)
      omega
     ·rw[y4,ab,ht,zk]
      rfl
     ·intro j
      rw[zk,zx,xg,<-hv j];by_cases e:x=j
      ·subst e
       simp
      ·rw[zo (λz=>e (Sum.inl.inj z).symm)]
       exact⟨.inl,λh=>h.elim id λh=>absurd (zC.mp h).symm e⟩
     ·intro q hq
      rcases zx.mp hq with hq|hq
      ·exact hb q hq
      ·rw[zC.mp hq]
       exact⟨a0,a1,c0,c1⟩
     ·rw[zk]
      exact y6.mpr ⟨hu,by simp,λa ha b af z=>by
       rw[zg,yg,zC]at af;exact ag (by have e:x=a:=(z.trans af).symm;rw[e];exact ha)⟩
   ·rintro σ H2 ⟨v3,v4,kvs,aa,rfl,s2,h2,hk,ht,hv,hb,hu⟩
    rw[Ry,ya (zj _)]at ht;subst ht;rw[zb]at ae;rw[Iv]at hl;have hL:=hL.ints;walk_at "a";refine⟨⟨_,s2.seq (fU hl)⟩,?_⟩;refine jP.list (xs:=refs aa) (λσ=>∃v,σ=[v]) (λ_=>true) (secs H) (s2.seq (fU hl)) ⟨none,rfl⟩ (by rw[Gf,zc];omega) ?_ ?_
    ·rintro x hx σ H5 R1 R2 ⟨v,rfl⟩ sm k1 k2
     obtain⟨r,ac,rfl⟩:=zO.mp hx;walk_at "a";refine⟨_,jg (sm _ _ (s2 _ _ (hL r ac))),_,jw (j:=1) rfl,?_⟩;have:=k1 rfl [some (V.ref r.1)] H5 ⟨_,rfl⟩ (same_refl _);rw[QD (hL r ac)]at this;exact this
    ·intro Da H' hD sm e
     rw[nU,Qx hL]at e;walk_at "a";refine⟨aa.map (·.2.2),fU (by rw[e,zU];rfl),?_⟩
     try walk_at "a"
     by_cases hs:(aa.map (·.2.2)).sum=p
     ·rw[zo (λz=>z hs)]
      exact k ⟨some aa,rfl,⟨ae,hb,hu,hs⟩⟩ H' (s2.trans sm)
     ·rw[zu hs]
      refine⟨sz,kE (λhg=>?_) H' (s2.trans sm)⟩;obtain⟨ah,e2,hg⟩:=Av hg;rw[<-Gn e2]at hg;exact hs hg.s
noncomputable def GK(K:Fg_):Sp:=λvs H Q _=>∃(v:V)(o:Option Ws),vs=[v]/\NW H v o/\∀v' H',Same H H'->NW H' v' o->(∀q,v'=.ref q->H q=none)->Q v' H'
def lF(T:Txt w K mg A D):jn P w K mg base CX0 1 A.oH D.oH ["named"] (GK K):=by
 refine T.qz.F.okv Ga λ_ _ _ _ H vs Q E hr h=>?_
 ·obtain⟨v,o,rfl,hn,k⟩:=h
  refine⟨_,(fQ (gn (BV (fZ (Sv) (pvD 0) vQ (gA _)) vQ (iU (Ew (K:=K)) (by rfl) T.rF (by decide+kernel) (pav 0 fO))))),?_⟩;simp only[start_eq]
  cases o with
  |none=>
   cases hn;walk_at "a";exact k _ H (same_refl H) rfl (λq e=>by cases e)
  |some rs=>
   obtain⟨l,rfl,hl,hL,hW⟩:=hn;walk_at "a";exact⟨_,.inl (fU hl),λq z=>k _ _ (fM z) ⟨q,rfl,fK,hL.same (fM z),hW⟩ (λq' e=>by cases e;exact z)⟩
local macro_rules | `(tactic| walk_at "n") => `(tactic| ((try dsimp only); refine Gb fun u hu => ?_; rw [ap_seq]; walk_at "i"; subst hu))
def NL.updI{H:Hp}{v:V}{o:Option Rs}{x C dx:Addr}{fs:List (Str×V)}{u:HO}(h:NL H v o)(hx:H x=some (.ins C dx fs)):NL (upd H x u) v o:=by
 cases o with
 |none=>exact h
 |some rs=>
  obtain⟨l,e,h1,h2⟩:=h;refine⟨l,e,?_,λr hr=>?_⟩
  ·rw[fY (λz=>by rw[z,hx]at h1;cases h1)];exact h1
  ·have q:=h2 r hr
   rw[fY (λz=>by rw[z,hx]at q;cases q)];exact q
inductive Ent where
 |buy (d n:Int) (w:Str) (p r f:Int)
 |sell (d n:Int) (w:Str) (p r f:Int) (o:Option Rs)
 |gift (d n:Int) (w:Str) (p c s:Int)
 |give (d n:Int) (w:Str) (p:Int) (o:Option Rs)
 |split (d n:Int) (w:Str) (m f:Int)
 |part (d n:Int) (w u:Str) (s t:Int)
noncomputable def Rg(lo hi x:Int):Prop:=lo<=x/\x<=hi
noncomputable def Ent.good:Ent->Prop
 |.buy d n w p r f=>Base d n w/\Rg 1 1000000000 p/\Rg 0 1000000000 r/\Rg 0 1000000000 f
 |.sell d n w p r f o=>Base d n w/\Rg 1 1000000000 p/\Rg 0 1000000000 r/\Rg 0 1000000000 f/\Kh p o
 |.gift d n w p c s=>Base d n w/\Rg 1 1000000000 p/\Rg 0 1000000000000000000 c/\Rg 0 d s
 |.give d n w p o=>Base d n w/\Rg 1 1000000000 p/\Kh p o
 |.split d n w m f=>Base d n w/\Rg 1 1000 m/\Rg 1 1000 f
 |.part d n w u s t=>Base d n w/\Nm u/\u≠w/\Rg 1 1000000 t/\Rg 0 t s
noncomputable def Ent.fs(nv:V):Ent->List (Str×V)
 |.buy d n w p r f=>[("day",.int d),("number",.int n),("ware",.str w),("pieces",.int p),("price",.int r),("fee",.int f),("cost",.int (p*r+f))]
 |.sell d n w p r f _=>[("day",.int d),("number",.int n),("ware",.str w),("pieces",.int p),("price",.int r),("fee",.int f),("named",nv),("proceeds",.int (p*r - f))]
 |.gift d n w p c s=>[("day",.int d),("number",.int n),("ware",.str w),("pieces",.int p),("cost",.int c),("since",.int s)]
 |.give d n w p _=>[("day",.int d),("number",.int n),("ware",.str w),("pieces",.int p),("named",nv)]
 |.split d n w m f=>[("day",.int d),("number",.int n),("ware",.str w),("many",.int m),("of",.int f)]
 |.part d n w u s t=>[("day",.int d),("number",.int n),("ware",.str w),("other",.str u),("share",.int s),("whole",.int t)]
noncomputable def Ent.word:Ent->Str
 |.buy ..=> "buy"
 |.sell ..=> "sell"
 |.gift ..=> "gift"
 |.give ..=> "give"
 |.split ..=> "split"
 |.part ..=> "part"
noncomputable def Ent.args(nv:V):Ent->List V
 |.buy d n w p r f=>[.int d,.int n,.str w,.int p,.int r,.int f]
 |.sell d n w p r f _=>[.int d,.int n,.str w,.int p,.int r,.int f,nv]
 |.gift d n w p c s=>[.int d,.int n,.str w,.int p,.int c,.int s]
 |.give d n w p _=>[.int d,.int n,.str w,.int p,nv]
 |.split d n w m f=>[.int d,.int n,.str w,.int m,.int f]
 |.part d n w u s t=>[.int d,.int n,.str w,.str u,.int s,.int t]
noncomputable def Ent.lots:Ent->Option Rs
 |.sell _ _ _ _ _ _ o=>o
 |.give _ _ _ _ o=>o
 |_=>none
noncomputable def Ent.cls(A:Adr):Ent->Addr
 |.buy ..=>A.pM
 |.sell ..=>A.pN
 |.gift ..=>A.pO
 |.give ..=>A.pP
 |.split ..=>A.pQ
 |.part ..=>A.pL
noncomputable def Made(A:Adr)(B H:Hp)(x:Addr)(e:Ent):Prop:=∃dx nv,New B H x (e.cls A) dx (e.fs nv)/\NL H nv e.lots/\∀q,nv=.ref q->B q=none
noncomputable def IsE(A:Adr)(H:Hp)(x:Addr)(e:Ent):Prop:=∃dx nv,H x=some (.ins (e.cls A) dx (e.fs nv))/\NL H nv e.lots
theorem IsE.same{A:Adr}{H H':Hp}{x:Addr}{e:Ent}(s:Same H H'):IsE A H x e->IsE A H' x e:=fun⟨dx,q,h,n⟩=>⟨dx,q,s _ _ h,n.same s⟩
def JP{B H:Hp}{x C dx:Addr}{gs:List (Str×V)}{f:Str}{v:V}{R:Hp->Prop}(ks:List Str)(z:New B H x C dx gs)(c:Cls K C)(n:gk K C f)(e:gs.map (·.1)=ks)(h:ks.contains f=false)(q:ks.length<1000)(k:∀H',New B H' x C dx (gs++[(f,v)])->R H'):∃C dx fs,H x=some (.ins C dx fs)/\Cls K C/\gk K C f/\fs.length<1000/\R (upd H x (.ins C dx (Cd f v fs))):=by
 refine⟨C,dx,gs,z.h,c,n,by rw[<-e,zb]at q;exact q,?_⟩;rw[FJ ks e h];exact k _ (z.put rfl)
def Xc{B H:Hp}{x C dx:Addr}{gs:List (Str×V)}{f:Str}{v z:V}{o:Option Rs}{R:Hp->Prop}(ks:List Str)(q:New B H x C dx gs)(hL:NL H z o)(c:Cls K C)(n:gk K C f)(e:gs.map (·.1)=ks)(h:ks.contains f=false)(hl:ks.length<1000)(k:∀H',New B H' x C dx (gs++[(f,v)])->NL H' z o->R H'):∃C dx fs,H x=some (.ins C dx fs)/\Cls K C/\gk K C f/\fs.length<1000/\R (upd H x (.ins C dx (Cd f v fs))):=by
 refine⟨C,dx,gs,q.h,c,n,by rw[<-e,zb]at hl;exact hl,?_⟩;rw[FJ ks e h];exact k _ (q.put rfl) (hL.updI q.h)
def Wm{p r:Int}(h1:Rg 1 1000000000 p)(h2:Rg 0 1000000000 r):KH p r:=KH.big (z9 (show p.natAbs<=1000000000 from by unfold Rg at h1;omega) (by decide)) (z9 (show r.natAbs<=1000000000 from by unfold Rg at h2;omega) (by decide))
noncomputable def vV:Ent->Bool:=λe=>match e with|.buy ..=>true|_=>false
def Vx(T:Txt w K mg A D):CE K A.pM:=⟨T.sX,T.sY,T.sZ,T.ti⟩
noncomputable def mV:Ent->Bool:=λe=>match e with|.sell ..=>true|_=>false
def Sx(T:Txt w K mg A D):CE K A.pN:=⟨T.tz,T.tD,T.tE,T.tF⟩
noncomputable def nY:Ent->Bool:=λe=>match e with|.gift ..=>true|_=>false
def QK(T:Txt w K mg A D):CE K A.pO:=⟨T.tL,T.tM,T.tN,T.tO⟩
noncomputable def lX:Ent->Bool:=λe=>match e with|.give ..=>true|_=>false
def Rv(T:Txt w K mg A D):CE K A.pP:=⟨T.tS,T.tT,T.tU,T.tW⟩
noncomputable def lD:Ent->Bool:=λe=>match e with|.split ..=>true|_=>false
def MN(T:Txt w K mg A D):CE K A.pQ:=⟨T.tZ,T.t5,T.t7,T.t9⟩
noncomputable def mY:Ent->Bool:=λe=>match e with|.part ..=>true|_=>false
def Fe(T:Txt w K mg A D):CE K A.pL:=⟨T.sP,T.sQ,T.sR,T.sS⟩
def LC{e:Ent}(h:vV e=true):∃d n w p r f,e=.buy d n w p r f:=by cases e<;>first|exact⟨_,_,_,_,_,_,rfl⟩|cases h
def Dg{e:Ent}(h:mV e=true):∃d n w p r f o,e=.sell d n w p r f o:=by cases e<;>first|exact⟨_,_,_,_,_,_,_,rfl⟩|cases h
def Ak{e:Ent}(h:nY e=true):∃d n w p c s,e=.gift d n w p c s:=by cases e<;>first|exact⟨_,_,_,_,_,_,rfl⟩|cases h
def Aw{e:Ent}(h:lX e=true):∃d n w p o,e=.give d n w p o:=by cases e<;>first|exact⟨_,_,_,_,_,rfl⟩|cases h
def of_split{e:Ent}(h:lD e=true):∃d n w m f,e=.split d n w m f:=by cases e<;>first|exact⟨_,_,_,_,_,rfl⟩|cases h
def vm{e:Ent}(h:mY e=true):∃d n w u s t,e=.part d n w u s t:=by cases e<;>first|exact⟨_,_,_,_,_,_,rfl⟩|cases h
noncomputable def spI(A:Adr)(C:Addr)(m:Nat)(isk:Ent->Bool)(lot:Bool):Sp:=λvs H Q E=>∃(x:Addr)(as:List V)(nl:V)(o:Option Ws)(B:Hp)(dx:Addr),vs=.ref x::(as++if lot then[nl]else[])/\as.length=m/\(∀v∈as,WV v)/\NW B nl o/\(lot=false->nl=.non)/\New B H x C dx []/\
 (∀e:Ent,isk e=true->as++(if lot then[nl]else[])=e.args nl->o=wO e.lots->e.good->∀H',Made A B H' x e->Q .non H')/\((∀e:Ent,isk e=true->as++(if lot then[nl]else[])=e.args nl->o=wO e.lots->¬e.good)->∀H',Same B H'->E (.ref A.pJ) none H')
def aaN{x c:Int}(q:0<=x)(h1:x<=1000000000000000000):x.natAbs<2^300:=z9 (show x.natAbs<=1000000000000000000 by omega) (by decide)
def abS{q:List V}(h:q.length=5):∃a b c d e,q=[a,b,c,d,e]:=match q,h with|[a,b,c,d,e],_=>⟨a,b,c,d,e,rfl⟩
def Wu{q:List V}(h:q.length=6):∃a b c d e f,q=[a,b,c,d,e,f]:=match q,h with|[a,b,c,d,e,f],_=>⟨a,b,c,d,e,f,rfl⟩
def abQ{q:List V}(h:q.length=4):∃a b c d,q=[a,b,c,d]:=match q,h with|[a,b,c,d],_=>⟨a,b,c,d,rfl⟩
def DQ(T:Txt w K mg A D):jn P w K mg base (CX1 P w) 4 A.oF D.oF ["self", "day", "number", "ware", "pieces", "price", "fee"] (spI A A.pM 6 vV false):=by
 refine T.qx.okX CJ (λvs H Q E h=>?_) (λ_ _ _ _ H vs Q E hr h=>?_)
 ·obtain⟨x,as,nl,o,B,dx,rfl,hl,_⟩:=h
  simp[hl]
 ·obtain⟨x,as,nl,o,B,dx,rfl,hl,hW,hv,ab,z,k,kE⟩:=h
  obtain⟨d,n,w,p,r,f,rfl⟩:=Wu hl;have ad:=hW d (za (i:=0) rfl);have ae:=hW n (za (i:=1) rfl);have af:=hW w (za (i:=2) rfl);have aa:=hW p (za (i:=3) rfl);have ac:=hW r (za (i:=4) rfl);have ag:=hW f (za (i:=5) rfl)
  refine ⟨_,(fJ (gK (lK T.uw (iI (K:=K) T) (hr.mono (by decide)) (by rfl) T.rP T.qu.kp (iT T) .nil gj (pav 0 (pav 1 (pav 2 (pav 3 fO))))))
   (fJ (gK (iu (vO (K:=K) T) (hr.mono (by decide)) (by rfl) T.qw.m T.qw.k (wJ T) .nil gj (pav 4 (pav 5 (pav 6 fO)))))
   (fJ (iR (K:=K) (pv 0) (pvD 4) rfl)
   (fJ (iR (K:=K) (pv 0) (pvD 5) rfl)
   (fJ (iR (K:=K) (pv 0) (pvD 6) rfl)
   (fQ (iR (K:=K) (pv 0) (fX iy (fX lC (pvD 4) (pvD 5)) (pvD 6)) rfl))))))),?_⟩
  simp only[start_eq,yt,if_false,yr];walk_at "n";refine⟨x,d,n,w,B,_,dx,rfl,ad,ae,af,z,Vx T,λd2 n2 w2 e1 e2 e3 g1 H1 z=>?_,λb H1 s1=>kE (λe hk ha ho hg=>by obtain⟨d1,n1,w1,p1,r1,f1,rfl⟩:=LC hk;cases ha;exact b ⟨_,_,_,rfl,rfl,rfl,hg.1⟩) H1 s1⟩;subst e1 e2 e3;walk_at "n";refine⟨_,_,_,rfl,aa,ac,ag,λg2=>?_,λb=>kE (λe hk ha ho hg=>by obtain⟨d1,n1,w1,p1,r1,f1,rfl⟩:=LC hk;cases ha;exact b ⟨⟨_,rfl,hg.2.1.1,hg.2.1.2⟩,⟨_,rfl,hg.2.2.1.1,hg.2.2.1.2⟩,⟨_,rfl,hg.2.2.2.1,hg.2.2.2.2⟩⟩) _ z.s⟩;obtain⟨⟨p,rfl,p0,p1⟩,⟨r,rfl,r0,r1⟩,⟨f,rfl,f0,f1⟩⟩:=g2;have hg:(Ent.buy d2 n2 w2 p r f).good:=⟨g1,⟨p0,p1⟩,⟨r0,r1⟩,⟨f0,f1⟩⟩;walk_at "n";refine JP ["day", "number", "ware"] z T.sX T.tj rfl (by decide+kernel) (by decide) λH2 z=>?_;walk_at "n";refine JP ["day", "number", "ware", "pieces"] z T.sX T.tm rfl (by decide+kernel) (by decide) λH2 z=>?_;walk_at "n";refine JP ["day", "number", "ware", "pieces", "price"] z T.sX T.tq rfl (by decide+kernel) (by decide) λH2 z=>?_;walk_at "a";refine⟨Wm hg.2.1 hg.2.2.1,JP ["day", "number", "ware", "pieces", "price", "fee"] z T.sX T.tw rfl (by decide+kernel) (by decide) λH2 z=>k _ rfl rfl ?_ hg H2 ⟨dx,.non,z,rfl,λq e=>by cases e⟩⟩;cases ab rfl
  cases o with
  |none=>rfl
  |some rs=>obtain⟨_,e,_⟩:=hv;cases e
def Bj(T:Txt w K mg A D):jn P w K mg base (CX1 P w) 4 A.oK D.oK ["self", "day", "number", "ware", "pieces", "cost", "since"] (spI A A.pO 6 nY false):=by
 refine T.qB.okX Bu (λvs H Q E h=>?_) (λ_ _ _ _ H vs Q E hr h=>?_)
 ·obtain⟨x,as,nl,o,B,dx,rfl,hl,_⟩:=h
  simp[hl]
 ·obtain⟨x,as,nl,o,B,dx,rfl,hl,hW,hv,ab,z,k,kE⟩:=h
  obtain⟨d,n,w,p,c,s,rfl⟩:=Wu hl;have ad:=hW d (za (i:=0) rfl);have ae:=hW n (za (i:=1) rfl);have af:=hW w (za (i:=2) rfl);have aa:=hW p (za (i:=3) rfl);have ac:=hW c (za (i:=4) rfl);have ag:=hW s (za (i:=5) rfl)
  refine ⟨_,(fJ (gK (lK T.uw (iI (K:=K) T) (hr.mono (by decide)) (by rfl) T.rP T.qu.kp (iT T) .nil gj (pav 0 (pav 1 (pav 2 (pav 3 fO))))))
   (fJ (gK (iu (gq (K:=K) T) (hr.mono (by decide)) (by rfl) T.qq.m T.qq.k (gB T) .nil gj (fH fW (pav 4 (fH fL (fH (gP (v:=V.int 1000000000) (by rfl) T.sv ⟨_,rfl⟩) fO))))))
   (fJ (gK (iu (gq (K:=K) T) (hr.mono (by decide)) (by rfl) T.qq.m T.qq.k (gB T) .nil gj (fH fW (pav 5 (fH fL (fH (gP (v:=V.int 1000000000000000000) (by rfl) T.sC ⟨_,rfl⟩) fO))))))
   (fJ (gK (iu (gq (K:=K) T) (hr.mono (by decide)) (by rfl) T.qq.m T.qq.k (gB T) .nil gj (fH fW (pav 6 (fH fL (pav 1 fO))))))
   (fJ (iR (K:=K) (pv 0) (pvD 4) rfl)
   (fJ (iR (K:=K) (pv 0) (pvD 5) rfl)
   (fQ (iR (K:=K) (pv 0) (pvD 6) rfl)))))))),?_⟩
  simp only[start_eq,yt,if_false,yr];walk_at "n";refine⟨x,d,n,w,B,_,dx,rfl,ad,ae,af,z,QK T,λd2 n2 w2 e1 e2 e3 g1 H1 z=>?_,λb H1 s1=>kE (λe hk ha ho hg=>by obtain⟨d1,n1,w1,p1,c1,s1,rfl⟩:=Ak hk;cases ha;exact b ⟨_,_,_,rfl,rfl,rfl,hg.1⟩) H1 s1⟩;subst e1 e2 e3;walk_at "n";refine⟨_,_,_,_,rfl,aa,by decide+kernel,by decide,by decide,λg2=>?_,λb=>kE (λe hk ha ho hg=>by obtain⟨d1,n1,w1,p1,c1,s1,rfl⟩:=Ak hk;cases ha;exact b ⟨_,rfl,hg.2.1.1,hg.2.1.2⟩) _ z.s⟩;walk_at "n";refine⟨_,_,_,_,rfl,ac,by decide+kernel,by decide,by decide,λg3=>?_,λb=>kE (λe hk ha ho hg=>by obtain⟨d1,n1,w1,p1,c1,s1,rfl⟩:=Ak hk;cases ha;exact b ⟨_,rfl,hg.2.2.1.1,hg.2.2.1.2⟩) _ z.s⟩;walk_at "n";refine⟨_,_,_,_,rfl,ag,by decide+kernel,by decide,aaN (c:=0) g1.d0 (by have:=g1.d1;omega),λg4=>?_,λb=>kE (λe hk ha ho hg=>by obtain⟨d1,n1,w1,p1,c1,s1,rfl⟩:=Ak hk;cases ha;exact b ⟨_,rfl,hg.2.2.2.1,hg.2.2.2.2⟩) _ z.s⟩;obtain⟨p,rfl,p0,p1⟩:=g2;obtain⟨c,rfl,c0,c1⟩:=g3;obtain⟨s,rfl,s0,s1⟩:=g4;have hg:(Ent.gift d2 n2 w2 p c s).good:=⟨g1,⟨p0,p1⟩,⟨c0,c1⟩,⟨s0,s1⟩⟩;walk_at "n";refine JP ["day", "number", "ware"] z T.tL T.tP rfl (by decide+kernel) (by decide) λH2 z=>?_;walk_at "n";refine JP ["day", "number", "ware", "pieces"] z T.tL T.tQ rfl (by decide+kernel) (by decide) λH2 z=>?_;walk_at "a";refine JP ["day", "number", "ware", "pieces", "cost"] z T.tL T.tR rfl (by decide+kernel) (by decide) λH2 z=>k _ rfl rfl ?_ hg H2 ⟨dx,.non,z,rfl,λq e=>by cases e⟩;cases ab rfl
  cases o with
  |none=>rfl
  |some rs=>obtain⟨_,e,_⟩:=hv;cases e
def Am(T:Txt w K mg A D):jn P w K mg base (CX1 P w) 4 A.oN D.oN ["self", "day", "number", "ware", "many", "of"] (spI A A.pQ 5 lD false):=by
 refine T.qD.okX Aa (λvs H Q E h=>?_) (λ_ _ _ _ H vs Q E hr h=>?_)
 ·obtain⟨x,as,nl,o,B,dx,rfl,hl,_⟩:=h
  simp[hl]
 ·obtain⟨x,as,nl,o,B,dx,rfl,hl,hW,hv,aa,z,k,kE⟩:=h
  obtain⟨d,n,w,m,f,rfl⟩:=abS hl;have ac:=hW d (za (i:=0) rfl);have ad:=hW n (za (i:=1) rfl);have ae:=hW w (za (i:=2) rfl);have ab:=hW m (za (i:=3) rfl);have af:=hW f (za (i:=4) rfl)
  refine ⟨_,(fJ (gK (lK T.uw (iI (K:=K) T) (hr.mono (by decide)) (by rfl) T.rP T.qu.kp (iT T) .nil gj (pav 0 (pav 1 (pav 2 (pav 3 fO))))))
   (fJ (gK (iu (gq (K:=K) T) (hr.mono (by decide)) (by rfl) T.qq.m T.qq.k (gB T) .nil gj (fH fW (pav 4 (fH fL (fH (gP (v:=V.int 1000) (by rfl) T.sD ⟨_,rfl⟩) fO))))))
   (fJ (gK (iu (gq (K:=K) T) (hr.mono (by decide)) (by rfl) T.qq.m T.qq.k (gB T) .nil gj (fH fW (pav 5 (fH fL (fH (gP (v:=V.int 1000) (by rfl) T.sD ⟨_,rfl⟩) fO))))))
   (fJ (iR (K:=K) (pv 0) (pvD 4) rfl)
   (fQ (iR (K:=K) (pv 0) (pvD 5) rfl)))))),?_⟩
  simp only[start_eq,yt,if_false,yr];walk_at "n";refine⟨x,d,n,w,B,_,dx,rfl,ac,ad,ae,z,MN T,λd2 n2 w2 e1 e2 e3 g1 H1 z=>?_,λb H1 s1=>kE (λe hk ha ho hg=>by obtain⟨d1,n1,w1,m1,f1,rfl⟩:=of_split hk;cases ha;exact b ⟨_,_,_,rfl,rfl,rfl,hg.1⟩) H1 s1⟩;subst e1 e2 e3;walk_at "n";refine⟨_,_,_,_,rfl,ab,by decide+kernel,by decide,by decide,λg2=>?_,λb=>kE (λe hk ha ho hg=>by obtain⟨d1,n1,w1,m1,f1,rfl⟩:=of_split hk;cases ha;exact b ⟨_,rfl,hg.2.1.1,hg.2.1.2⟩) _ z.s⟩;walk_at "n";refine⟨_,_,_,_,rfl,af,by decide+kernel,by decide,by decide,λg3=>?_,λb=>kE (λe hk ha ho hg=>by obtain⟨d1,n1,w1,m1,f1,rfl⟩:=of_split hk;cases ha;exact b ⟨_,rfl,hg.2.2.1,hg.2.2.2⟩) _ z.s⟩;obtain⟨m,rfl,m0,m1⟩:=g2;obtain⟨f,rfl,f0,f1⟩:=g3;have hg:(Ent.split d2 n2 w2 m f).good:=⟨g1,⟨m0,m1⟩,⟨f0,f1⟩⟩;walk_at "n";refine JP ["day", "number", "ware"] z T.tZ T.ua rfl (by decide+kernel) (by decide) λH2 z=>?_;walk_at "a";refine JP ["day", "number", "ware", "many"] z T.tZ T.ub rfl (by decide+kernel) (by decide) λH2 z=>k _ rfl rfl ?_ hg H2 ⟨dx,.non,z,rfl,λq e=>by cases e⟩;cases aa rfl
  cases o with
  |none=>rfl
  |some rs=>obtain⟨_,e,_⟩:=hv;cases e
def vZ(T:Txt w K mg A D):jn P w K mg base (CX1 P w) 4 A.oC D.oC ["self", "day", "number", "ware", "other", "share", "whole"] (spI A A.pL 6 mY false):=by
 refine T.qv.okX wj (λvs H Q E h=>?_) (λ_ _ _ _ H vs Q E hr h=>?_)
 ·obtain⟨x,as,nl,o,B,dx,rfl,hl,_⟩:=h
  simp[hl]
 ·obtain⟨x,as,nl,o,B,dx,rfl,hl,hW,hv,aa,z,k,kE⟩:=h
  obtain⟨d,n,w,u,s,t,rfl⟩:=Wu hl;have ab:=hW d (za (i:=0) rfl);have ad:=hW n (za (i:=1) rfl);have ae:=hW w (za (i:=2) rfl);have af:=hW u (za (i:=3) rfl);have ag:=hW s (za (i:=4) rfl);have ac:=hW t (za (i:=5) rfl)
  refine ⟨_,(fJ (gK (lK T.uw (iI (K:=K) T) (hr.mono (by decide)) (by rfl) T.rP T.qu.kp (iT T) .nil gj (pav 0 (pav 1 (pav 2 (pav 3 fO))))))
   (fJ (gK (iu (xT (K:=K) T) (hr.mono (by decide)) (by rfl) T.qt.m T.qt.k (Az T) .nil gj (fH fW (pav 4 fO))))
   (fJ (iM (fZ (lH) (pvD 4) (pvD 3) (gA _)) (fQ (mL kZ rfl T.sK (by rfl) T.rO (fH fW fO))) gw)
   (fJ (gK (iu (gq (K:=K) T) (hr.mono (by decide)) (by rfl) T.qq.m T.qq.k (gB T) .nil gj (fH fW (pav 6 (fH fL (fH (gP (v:=V.int 1000000) (by rfl) T.su ⟨_,rfl⟩) fO))))))
   (fJ (gK (iu (gq (K:=K) T) (hr.mono (by decide)) (by rfl) T.qq.m T.qq.k (gB T) .nil gj (fH fW (pav 5 (fH fL (pav 6 fO))))))
   (fJ (iR (K:=K) (pv 0) (pvD 4) rfl)
   (fJ (iR (K:=K) (pv 0) (pvD 5) rfl)
   (fQ (iR (K:=K) (pv 0) (pvD 6) rfl))))))))),?_⟩
  simp only[start_eq,yt,if_false,yr];walk_at "n";refine⟨x,d,n,w,B,_,dx,rfl,ab,ad,ae,z,Fe T,λd2 n2 w2 e1 e2 e3 g1 H1 z=>?_,λb H1 s1=>kE (λe hk ha ho hg=>by obtain⟨d1,n1,w1,u1,s1,t1,rfl⟩:=vm hk;cases ha;exact b ⟨_,_,_,rfl,rfl,rfl,hg.1⟩) H1 s1⟩;subst e1 e2 e3;walk_at "n";refine⟨_,_,rfl,af,by decide+kernel,λg2 H2 sm=>?_,λb H2 sm=>kE (λe hk ha ho hg=>by obtain⟨d1,n1,w1,u1,s1,t1,rfl⟩:=vm hk;cases ha;exact b ⟨_,rfl,hg.2.1⟩) H2 (z.s.trans sm)⟩;have z:=z.same sm;obtain⟨u,rfl,gu⟩:=g2;walk_at "n";by_cases g3:u=w2
  ·rw[zu g3]
   exact⟨sz,kE (λe hk ha ho hg=>by obtain⟨d1,n1,w1,u1,s1,t1,rfl⟩:=vm hk;cases ha;exact hg.2.2.1 g3) _ z.s⟩
  rw[zo g3];walk_at "n";refine⟨_,_,_,_,rfl,ac,by decide+kernel,by decide,by decide,λg4=>?_,λb=>kE (λe hk ha ho hg=>by obtain⟨d1,n1,w1,u1,s1,t1,rfl⟩:=vm hk;cases ha;exact b ⟨_,rfl,hg.2.2.2.1.1,hg.2.2.2.1.2⟩) _ z.s⟩;obtain⟨t,rfl,t0,t1⟩:=g4;walk_at "n";refine⟨_,_,_,_,rfl,ag,by decide+kernel,by decide,aaN (c:=0) (by omega) (by omega),λg5=>?_,λb=>kE (λe hk ha ho hg=>by obtain⟨d1,n1,w1,u1,s1,t1,rfl⟩:=vm hk;cases ha;exact b ⟨_,rfl,hg.2.2.2.2.1,hg.2.2.2.2.2⟩) _ z.s⟩;obtain⟨s,rfl,s0,s1⟩:=g5;have hg:(Ent.part d2 n2 w2 u s t).good:=⟨g1,gu,g3,⟨t0,t1⟩,⟨s0,s1⟩⟩;walk_at "n";refine JP ["day", "number", "ware"] z T.sP T.sT rfl (by decide+kernel) (by decide) λH2 z=>?_;walk_at "n";refine JP ["day", "number", "ware", "other"] z T.sP T.sU rfl (by decide+kernel) (by decide) λH2 z=>?_;walk_at "a";refine JP ["day", "number", "ware", "other", "share"] z T.sP T.sW rfl (by decide+kernel) (by decide) λH2 z=>k _ rfl rfl ?_ hg H2 ⟨dx,.non,z,rfl,λq e=>by cases e⟩;cases aa rfl
  cases o with
  |none=>rfl
  |some rs=>obtain⟨_,e,_⟩:=hv;cases e
def Bl(T:Txt w K mg A D):jn P w K mg base (CX1 P w) 4 A.oJ D.oJ ["self", "day", "number", "ware", "pieces", "price", "fee", "named"] (spI A A.pN 6 mV true):=by
 refine T.qA.okX Bk (λvs H Q E h=>?_) (λ_ _ _ _ H vs Q E hr h=>?_)
 ·obtain⟨x,as,nl,o,B,dx,rfl,hl,_⟩:=h
  simp[hl]
 ·obtain⟨x,as,nl,o,B,dx,rfl,hl,hW,hv,aa,z,k,kE⟩:=h
  obtain⟨d,n,w,p,r,f,rfl⟩:=Wu hl;have ad:=hW d (za (i:=0) rfl);have ae:=hW n (za (i:=1) rfl);have af:=hW w (za (i:=2) rfl);have ab:=hW p (za (i:=3) rfl);have ac:=hW r (za (i:=4) rfl);have ag:=hW f (za (i:=5) rfl)
  refine ⟨_,(fJ (gK (lK T.uw (iI (K:=K) T) (hr.mono (by decide)) (by rfl) T.rP T.qu.kp (iT T) .nil gj (pav 0 (pav 1 (pav 2 (pav 3 fO))))))
   (fJ (gK (iu (vO (K:=K) T) (hr.mono (by decide)) (by rfl) T.qw.m T.qw.k (wJ T) .nil gj (pav 4 (pav 5 (pav 6 fO)))))
   (fJ (gK (iu (vU (K:=K) T) (hr.mono (by decide)) (by rfl) T.qy.m T.qy.k (wL T) .nil gj (pav 7 (pav 4 fO))))
   (fJ (iR (K:=K) (pv 0) (pvD 4) rfl)
   (fJ (iR (K:=K) (pv 0) (pvD 5) rfl)
   (fJ (iR (K:=K) (pv 0) (pvD 6) rfl)
   (fJ (iR (K:=K) (pv 0) (pcg (lF T) hr T.qz (mO T) (pav 7 fO)) rfl)
   (fQ (iR (K:=K) (pv 0) (fX Ez (fX lC (pvD 4) (pvD 5)) (pvD 6)) rfl))))))))),?_⟩
  simp only[start_eq,if_true,yR,zzi];walk_at "n";refine⟨x,d,n,w,B,_,dx,rfl,ad,ae,af,z,Sx T,λd2 n2 w2 e1 e2 e3 g1 H1 z=>?_,λb H1 s1=>kE (λe hk ha ho hg=>by obtain⟨d1,n1,w1,p1,r1,f1,o1,rfl⟩:=Dg hk;cases ha;exact b ⟨_,_,_,rfl,rfl,rfl,hg.1⟩) H1 s1⟩;subst e1 e2 e3;walk_at "n";refine⟨_,_,_,rfl,ab,ac,ag,λg2=>?_,λb=>kE (λe hk ha ho hg=>by obtain⟨d1,n1,w1,p1,r1,f1,o1,rfl⟩:=Dg hk;cases ha;exact b ⟨⟨_,rfl,hg.2.1.1,hg.2.1.2⟩,⟨_,rfl,hg.2.2.1.1,hg.2.2.1.2⟩,⟨_,rfl,hg.2.2.2.1.1,hg.2.2.2.1.2⟩⟩) _ z.s⟩;obtain⟨⟨p,rfl,p0,p1⟩,⟨r,rfl,r0,r1⟩,⟨f,rfl,f0,f1⟩⟩:=g2;walk_at "n";refine⟨_,_,o,rfl,hv.same z.s,aaN (c:=0) (by omega) (by omega),λg3 H2 sm=>?_,λb H2 sm=>kE (λe hk ha ho hg=>by obtain⟨d1,n1,w1,p1,r1,f1,o1,rfl⟩:=Dg hk;cases ha;exact b ⟨_,ho,hg.2.2.2.2⟩) _ (z.s.trans sm)⟩;obtain⟨o,rfl,go⟩:=g3;have hg:(Ent.sell d2 n2 w2 p r f o).good:=⟨g1,⟨p0,p1⟩,⟨r0,r1⟩,⟨f0,f1⟩,go⟩;have z:=z.same sm;walk_at "n";refine JP ["day", "number", "ware"] z T.tz T.tG rfl (by decide+kernel) (by decide) λH2 z=>?_;walk_at "n";refine JP ["day", "number", "ware", "pieces"] z T.tz T.tH rfl (by decide+kernel) (by decide) λH2 z=>?_;walk_at "n";refine JP ["day", "number", "ware", "pieces", "price"] z T.tz T.tI rfl (by decide+kernel) (by decide) λH2 z=>?_;walk_at "n";refine⟨_,wO o,rfl,hv.same z.s,λv' H3 sm aa hq=>?_⟩;have hb:∀q,v'=.ref q->B q=none:=λq e=>z.s.free (hq q e);refine Xc ["day", "number", "ware", "pieces", "price", "fee"] (z.same sm) aa.ints T.tz T.tJ rfl (by decide+kernel) (by decide) λH2 z aa=>?_;walk_at "a";exact⟨Wm hg.2.1 hg.2.2.1,Xc ["day", "number", "ware", "pieces", "price", "fee", "named"] z aa T.tz T.tK rfl (by decide+kernel) (by decide) λH2 z aa=>k _ rfl rfl rfl hg H2 ⟨dx,v',z,aa,hb⟩⟩
def Bx(T:Txt w K mg A D):jn P w K mg base (CX1 P w) 4 A.oM D.oM ["self", "day", "number", "ware", "pieces", "named"] (spI A A.pP 4 lX true):=by
 refine T.qC.okX BJ (λvs H Q E h=>?_) (λ_ _ _ _ H vs Q E hr h=>?_)
 ·obtain⟨x,as,nl,o,B,dx,rfl,hl,_⟩:=h
  simp[hl]
 ·obtain⟨x,as,nl,o,B,dx,rfl,hl,hW,hv,aa,z,k,kE⟩:=h
  obtain⟨d,n,w,p,rfl⟩:=abQ hl;have ac:=hW d (za (i:=0) rfl);have ad:=hW n (za (i:=1) rfl);have ae:=hW w (za (i:=2) rfl);have ab:=hW p (za (i:=3) rfl)
  refine ⟨_,(fJ (gK (lK T.uw (iI (K:=K) T) (hr.mono (by decide)) (by rfl) T.rP T.qu.kp (iT T) .nil gj (pav 0 (pav 1 (pav 2 (pav 3 fO))))))
   (fJ (gK (iu (gq (K:=K) T) (hr.mono (by decide)) (by rfl) T.qq.m T.qq.k (gB T) .nil gj (fH fW (pav 4 (fH fL (fH (gP (v:=V.int 1000000000) (by rfl) T.sv ⟨_,rfl⟩) fO))))))
   (fJ (gK (iu (vU (K:=K) T) (hr.mono (by decide)) (by rfl) T.qy.m T.qy.k (wL T) .nil gj (pav 5 (pav 4 fO))))
   (fJ (iR (K:=K) (pv 0) (pvD 4) rfl)
   (fQ (iR (K:=K) (pv 0) (pcg (lF T) hr T.qz (mO T) (pav 5 fO)) rfl)))))),?_⟩
  simp only[start_eq,if_true,yR,zzi];walk_at "n";refine⟨x,d,n,w,B,_,dx,rfl,ac,ad,ae,z,Rv T,λd2 n2 w2 e1 e2 e3 g1 H1 z=>?_,λb H1 s1=>kE (λe hk ha ho hg=>by obtain⟨d1,n1,w1,p1,o1,rfl⟩:=Aw hk;cases ha;exact b ⟨_,_,_,rfl,rfl,rfl,hg.1⟩) H1 s1⟩;subst e1 e2 e3;walk_at "n";refine⟨_,_,_,_,rfl,ab,by decide+kernel,by decide,by decide,λg2=>?_,λb=>kE (λe hk ha ho hg=>by obtain⟨d1,n1,w1,p1,o1,rfl⟩:=Aw hk;cases ha;exact b ⟨_,rfl,hg.2.1.1,hg.2.1.2⟩) _ z.s⟩;obtain⟨p,rfl,p0,p1⟩:=g2;walk_at "n";refine⟨_,_,o,rfl,hv.same z.s,aaN (c:=0) (by omega) (by omega),λg3 H2 sm=>?_,λb H2 sm=>kE (λe hk ha ho hg=>by obtain⟨d1,n1,w1,p1,o1,rfl⟩:=Aw hk;cases ha;exact b ⟨_,ho,hg.2.2⟩) _ (z.s.trans sm)⟩;obtain⟨o,rfl,go⟩:=g3;have hg:(Ent.give d2 n2 w2 p o).good:=⟨g1,⟨p0,p1⟩,go⟩;have z:=z.same sm;walk_at "n";refine JP ["day", "number", "ware"] z T.tS T.tX rfl (by decide+kernel) (by decide) λH2 z=>?_;walk_at "a";refine⟨_,wO o,rfl,hv.same z.s,λv' H3 sm aa hq=>?_⟩;have hb:∀q,v'=.ref q->B q=none:=λq e=>z.s.free (hq q e);exact Xc ["day", "number", "ware", "pieces"] (z.same sm) aa.ints T.tS T.tY rfl (by decide+kernel) (by decide) λH2 z aa=>k _ rfl rfl rfl hg H2 ⟨dx,v',z,aa,hb⟩
def str_len(a b:Str):(a++b).length=a.length+b.length:=by
 show(a.cps++b.cps).size=_;rw[yL];rfl
def Mw:∀d:Fin 10,(Nat.digitChar d.val).toNat=48+d.val:=by decide
theorem Tj:∀(k:Nat)(cs:List Nat),cs.length=k+1->(∀c∈cs,48<=c/\c<=57)->cs[0]? ≠some 48->∃m,0<m/\(Nat.toDigits 10 m).map Char.toNat=cs
 |0,cs,hl,hc,h0=>by
  match cs,hl with
  |[c],_=>
   have h:=hc c zi;have hn:c≠48:=λe=>h0 (by rw[e];rfl);refine⟨c - 48,by omega,?_⟩;rw[Nat.toDigits_of_lt_base (by omega)];have:=Mw ⟨c - 48,by omega⟩;show[(Nat.digitChar (c - 48)).toNat]=[c];rw[this];show[48+(c - 48)]=[c];congr 1;omega
 |k+1,cs,hl,hc,h0=>by
  have aa:cs≠[]:=λz=>by rw[z]at hl;cases hl
  obtain⟨l,c,rfl⟩:∃l c,cs=l++[c]:=⟨cs.dropLast,cs.getLast aa,(zzN aa).symm⟩;have ab:l.length=k+1:=by rw[zh]at hl;simpa using hl
  obtain⟨q,hq,e⟩:=Tj k l ab (λx hx=>hc x (yx _ hx)) (λz=>h0 (by rw[zW (by omega)];exact z));have h:=hc c (zL _ zi);refine⟨10*q+(c - 48),by omega,?_⟩;rw[Nat.toDigits_of_base_le (by decide) (by omega),show(10*q+(c - 48))/10=q by omega,show(10*q+(c - 48))%10=c - 48 by omega,zk,e];have:=Mw ⟨c - 48,by omega⟩;show l++[(Nat.digitChar (c - 48)).toNat]=l++[c];rw[this];show l++[48+(c - 48)]=l++[c];congr 2;omega
def Ck{z:Str}{c:Nat}:Txt.startswith z ⟨#[c]⟩=true↔z.cps.toList[0]? =some c:=by
 rw[<-PySem.StrLaws.subAt_one];unfold Txt.startswith;rw[zG,decide_eq_true_iff]
def Nt:Str.ofString "0" =⟨#[48]⟩:=by decide+kernel
def Xp{z:Str}(h:z.length=0):z=Str.ofString "" :=by
 refine L2.str_ext ?_;rw[show(Str.ofString "").cps.toList=[] by decide+kernel];exact zzJ (by rw[z7];exact h)
noncomputable def nD(z:Str):Bool:=decide (z≠Str.ofString "") && decide (z.length<=19) && !(Txt.startswith z (Str.ofString "0") && decide (z≠Str.ofString "0")) && z.cps.toList.all λc=>decide (48<=c) && decide (c<=57)
noncomputable def val(z:Str):V:=if nD z=true then .int ((PySem.intText? z).getD 0)else .str z
def Pb{z:Str}(h:nD z=true):∃m:Nat,z=gZ (m:Int)/\(m:Int).natAbs<2^300:=by
 unfold nD at h;rw[zG,zG,zG,decide_eq_true_iff,decide_eq_true_iff,yG]at h;obtain⟨⟨⟨h1,h2⟩,h3⟩,h4⟩:=h
 have hc:∀c∈z.cps.toList,48<=c/\c<=57:=λc hm=>by
  have:=h4 c hm;rw[zG,decide_eq_true_iff,decide_eq_true_iff]at this;exact this
 have hl:z.cps.toList.length=z.length:=z7;have hpos:0<z.length:=Nat.pos_of_ne_zero λe=>h1 (Xp e)
 have q:∀m:Nat,(Nat.toDigits 10 m).map Char.toNat=z.cps.toList->z=gZ (m:Int)/\(m:Int).natAbs<2^300:=λm e=>by
  refine⟨L2.str_ext ?_,?_⟩
  ·unfold gZ
   rw[y0];exact e.symm
  ·have e2:=congrArg List.length e
   rw[zb,hl]at e2;have:=(zz4 (b:=10) (n:=m) (k:=19) (by decide) (by decide)).mp (by omega);exact Nat.lt_trans (show(m:Int).natAbs<10^19 by omega) (by decide)
 by_cases h0:z.cps.toList[0]? =some 48
 ·have hz:z=Str.ofString "0" :=by
   rw[Nt]at h3;rw[Ck.mpr h0,Bool.true_and]at h3;rw[Nt]
   simpa using h3
  refine⟨0,q 0 ?_⟩;rw[hz];decide+kernel
 ·obtain⟨m,_,e⟩:=Tj (z.length - 1) z.cps.toList (by omega) hc h0
  exact⟨m,q m e⟩
def Rj{z:Str}(h:nD z=true):∃m:Nat,z=gZ (m:Int)/\(m:Int).natAbs<2^300/\val z=.int m:=by
 obtain⟨m,e,hm⟩:=Pb h;refine⟨m,e,hm,?_⟩;unfold val;rw[zu h,e,L2.num_text (by omega) hm];rfl
def GJ{z:Str}(h:¬nD z=true):val z=.str z:=by unfold val;rw[zo h]
def RD{z:Str}(q:z.length<=100000):WV (val z):=by
 by_cases h:nD z=true
 ·obtain⟨m,_,_,e⟩:=Rj h
  rw[e];exact .inl ⟨_,rfl⟩
 ·rw[GJ h]
  exact .inr ⟨z,rfl,q⟩
noncomputable def okD:V->Bool
 |.str x=>x.cps.toList.all λc=>decide (48<=c) && decide (c<=57)
 |_=>true
def Xh(l:List Nat):((l.map λc=>V.str ⟨#[c]⟩).map okD).all id=l.all λc=>decide (48<=c) && decide (c<=57):=by
 induction l with
 |nil=>rfl
 |cons c l ih=>
  rw[zg,zg,yE,yE,ih];show((decide (48<=c) && decide (c<=57)) && true && _)=_;rw[zzH]
noncomputable def vK:Sp:=λvs H Q _=>∃z:Str,vs=[.str z]/\z.length<=100000/\∀H',Same H H'->Q (.bl (nD z)) H'
def vJ(T:Txt w K mg A D):jn P w K mg base CX0 1 A.oP D.oP ["word"] vK:=by
 refine T.qF.F.okv vL λ_ _ _ _ H vs Q E hr h=>?_
 ·obtain⟨z,rfl,hl,k⟩:=h
  refine ⟨_,(fJ (iM (PW.pt (Cg (fZ (lH) (pvD 0) fW (gA _)) (wI (fZ (El) (gG mK (by rfl) T.rq (by decide+kernel) (pav 0 fO)) (gP (v:=V.int 19) (by rfl) T.sE ⟨_,rfl⟩) (gA _))))) (fQ (gn nq)) gw)
   (fJ (iM (PW.pt (HD (Fg (jD (K:=K) zH PySem.F.slot_str_startswith PySem.F.type_str_startswith GP (pvD 0) (fH fW fO))) (GD (fZ (OJ) (pvD 0) fW (gA _))))) (fQ (gn nq)) gw)
   (fQ (gn (gG (Iw (K:=K) rfl) (by rfl) T.rD (by decide+kernel) (fH (jO (cap:=[none]) (N':=["sign"]) rfl (by walk_at "c") (WD (pvD 0)) (λ_ _ _ _=>(gJ (i:=0) nd1 rfl orl orr)) (λ_ _ _ _=>jZ) (λ_ _ _ _=>(Nu (xr) (xr) fW (pvD 0) fW))) fO)))))),?_⟩
  have hz:z.length<=sizeLine:=by rw[zc];omega
  walk_at "a";by_cases h0:z=Str.ofString ""
  ·rw[zu h0]
   have e:nD z=false:=by unfold nD;rw[zF (λc=>c h0)];rfl
   rw[<-e];exact k H (same_refl H)
  rw[zo h0];refine⟨hz,?_⟩;by_cases h1:19<(z.length:Int)
  ·rw[zu h1]
   have e:nD z=false:=by unfold nD;rw[zF (p:=z.length<=19) (by omega),zzb];rfl
   rw[<-e];exact k H (same_refl H)
  rw[zo h1]
  have e1:nD z=(!(Txt.startswith z (Str.ofString "0") && decide (z≠Str.ofString "0")) && z.cps.toList.all λc=>decide (48<=c) && decide (c<=57)):=by
   unfold nD;rw[yb h0,yb (show z.length<=19 by omega)];rfl
  have aa:(Txt.startswith z (Str.ofString "0") && decide (z≠Str.ofString "0"))=false->jP [none] (YD z) (KC 0) Df (Rp aaM aaM (tC (V.str (Str.ofString "0"))) (tV 0) (tC (V.str (Str.ofString "9")))) [some (V.str z)] H λx H1=>aaL K [x] H1 Q:=by
   intro e2;rw[e2,Bool.not_false,Bool.true_and]at e1;refine jP.str (λσ=>∃v,σ=[v]) (λ_=>true) (λv=> .bl (okD v)) ⟨none,rfl⟩ hz ?_ ?_
   ·rintro x hx σ H5 R1 R2 ⟨v,rfl⟩ sm k1 k2
    obtain⟨c,hc,rfl⟩:=zO.mp hx;walk_at "a";have ea:(Str.ofString "0").cps.toList=[48]:=by decide+kernel
    have ez:(Str.ofString "9").cps.toList=[57]:=by decide+kernel
    rw[ea,ez]
    have hv:(if¬[c]<[48]then V.bl !decide ([57]<[c])else V.bl false)=V.bl (okD (.str ⟨#[c]⟩)):=by
     show _=V.bl ((decide (48<=c) && decide (c<=57)) && true);by_cases h1:48<=c
     ·rw[zu (by rw[HS];omega),yb h1]
      by_cases h2:c<=57
      ·rw[yb h2,zF (by rw[HS];omega)];rfl
      ·rw[zF h2,yb (by rw[HS];omega)];rfl
     ·rw[zo (by rw[HS];omega),zF h1];rfl
    have k1:=k1 rfl [some (V.str {cps:= #[c]})] H5 ⟨_,rfl⟩ (same_refl _);rw[<-hv]at k1;by_cases h1:¬[c]<[48]
    ·rw[zu h1]at k1⊢;exact k1
    ·rw[zo h1]at k1⊢;exact k1
   ·intro Da H' hD sm e
    rw[nU]at e;walk_at "a";refine⟨(L2.signs z).map okD,fU (by rw[e,zU];rfl),?_⟩;rw[show((L2.signs z).map okD).all id=nD z from(Xh z.cps.toList).trans e1.symm];exact k H' sm
  refine⟨rfl,?_⟩;by_cases hs:Txt.startswith z (Str.ofString "0")=true
  ·rw[zu hs]
   by_cases q:z=Str.ofString "0"
   ·rw[zo (λc=>c q)]
    exact aa (by rw[hs,zF (λc=>c q)];rfl)
   ·rw[zu q]
    have e:nD z=false:=by rw[e1,hs,yb q];rfl
    rw[<-e];exact k H (same_refl H)
  ·rw[zo hs]
   exact aa (by rw[yyd]at hs;rw[hs];rfl)
noncomputable def Bt:Sp:=λvs H Q _=>∃z:Str,vs=[.str z]/\z.length<=100000/\∀H',Same H H'->Q (val z) H'
def lq(T:Txt w K mg A D):jn P w K mg base CX0 2 A.oQ D.oQ ["word"] Bt:=by
 refine T.qG.F.okv Bp λ_ _ _ _ H vs Q E hr h=>?_
 ·obtain⟨z,rfl,hl,k⟩:=h
  refine⟨_,(fQ (gn (BV (Fg (pcg (vJ T) hr T.qF (wD T) (pav 0 fO))) (iU SM (by rfl) T.rB (by decide+kernel) (pav 0 fO)) (pvD 0)))),?_⟩;walk_at "a";refine⟨z,rfl,hl,λH1 q=>?_⟩;by_cases h:nD z=true
  ·obtain⟨m,e,hm,ev⟩:=Rj h
   rw[h];walk_at "i";rw[ev]at k;subst e;exact⟨m,rfl,by omega,hm,k H1 q⟩
  ·rw[GJ h]at k
   rw[yyd]at h;rw[h];walk_at "i";exact k H1 q
abbrev Ao(z:Str):Str×Str×Str:=Txt.partition z (Str.ofString ":")
def Lq(z:Str):(Ao z).1.length<=z.length/\(Ao z).2.2.length<=z.length:=by
 have h:=congrArg Str.length (zzX z (Str.ofString ":"));rw[str_len,str_len]at h;unfold Ao;omega
noncomputable def DX(z:Str):V×V:=(val (Ao z).1,val (Ao z).2.2)
noncomputable def Ek:Sp:=λvs H Q _=>∃z:Str,vs=[.str z]/\z.length<=100000/\∀t H',Same H H'->H t=none->H' t=some (.tup [(DX z).1,(DX z).2])->Q (.ref t) H'
def Ej(T:Txt w K mg A D):jn P w K mg base CX0 3 A.oR D.oR ["word"] Ek:=by
 refine T.qH.F.okv vM λ_ _ _ _ H vs Q E hr h=>?_
 ·obtain⟨z,rfl,hl,k⟩:=h
  refine ⟨_,(fJ (gm (i:=1) vM.nd rfl orl (jD (K:=K) zH PySem.F.slot_str_partition PySem.F.type_str_partition Jk (pvD 0) (fH fW fO)))
   (fQ (gn (jJ (fH (pcg (lq T) hr T.qG (mF T) (fH (gF (mC (K:=K)) (pvD 1) fL (λ_ _=>rfl)) fO)) (fH (pcg (lq T) hr T.qG (mF T) (fH (gF (mC (K:=K)) (pvD 1) fL (λ_ _=>rfl)) fO)) fO)))))),?_⟩
  obtain⟨l1,l2⟩:=Lq z;simp only[start_eq];walk_at "n";refine⟨rfl,by decide+kernel,by omega,λp hp=>?_⟩;have sp:=fM (o:=.tup [.str (Ao z).1,.str (Ao z).2.1,.str (Ao z).2.2]) hp;generalize aa:upd H p _=H1 at*;have h1:H1 p=some (.tup [.str (Ao z).1,.str (Ao z).2.1,.str (Ao z).2.2]):=by rw[<-aa];exact fK
  try walk_at "i"
  refine⟨_,jg h1,_,rfl,_,rfl,by omega,λH2 q=>?_⟩;refine⟨_,jg (q _ _ h1),_,rfl,_,rfl,by omega,λH3 s3=>?_⟩;exact⟨sz,λt ht=>k t _ (((sp.trans q).trans s3).trans (fM ht)) (((sp.trans q).trans s3).free ht) fK⟩
noncomputable def NT(H:Hp)(v:V):Option Rs->Prop
 |none=>v=.non
 |some rs=>∃l,v=.ref l/\H l=some (.tup (refs rs))/\Mh H rs
theorem NT.same{H H':Hp}{v:V}{o:Option Rs}(h:NT H v o)(s:Same H H'):NT H' v o:=by
 cases o with
 |none=>exact h
 |some rs=>obtain⟨l,e,h1,h2⟩:=h;exact⟨l,e,s _ _ h1,h2.same s⟩
local macro_rules | `(tactic| walk_at "m") => `(tactic| ((try dsimp only); rw [ap_seq]; walk_at "i"))
noncomputable def Hj(H:Hp)(t:Addr)(e:Ent):Prop:=∃nt,H t=some (.tup (.str e.word::e.args nt))/\NT H nt e.lots
theorem Hj.same{H H':Hp}{t:Addr}{e:Ent}(s:Same H H'):Hj H t e->Hj H' t e:=fun⟨q,h,n⟩=>⟨q,s _ _ h,n.same s⟩
def Fb{H:Hp}{x dx C:Addr}(z:H x=none)(q:H dx=none):New H (upd (upd H dx (.own x)) x (.ins C dx [])) x C dx []:=⟨(fM q).upd z,z,fK⟩
noncomputable def Ent.day:Ent->Int
 |.buy d ..=>d
 |.sell d ..=>d
 |.gift d ..=>d
 |.give d ..=>d
 |.split d ..=>d
 |.part d ..=>d
noncomputable def Ent.num:Ent->Int
 |.buy _ n ..=>n
 |.sell _ n ..=>n
 |.gift _ n ..=>n
 |.give _ n ..=>n
 |.split _ n ..=>n
 |.part _ n ..=>n
noncomputable def Ent.ware:Ent->Str
 |.buy _ _ w ..=>w
 |.sell _ _ w ..=>w
 |.gift _ _ w ..=>w
 |.give _ _ w ..=>w
 |.split _ _ w ..=>w
 |.part _ _ w ..=>w
def YL(T:Txt w K mg A D)(e:Ent):CE K (e.cls A):=by
 cases e with
 |buy=>exact Vx T
 |sell=>exact Sx T
 |gift=>exact QK T
 |give=>exact Rv T
 |split=>exact MN T
 |part=>exact Fe T
def Du(e:Ent)(q:V):(e.fs q).lookup (Str.ofString "number")=some (.int e.num):=by cases e<;>rfl
def Mh.put{H:Hp}{rs:Rs}{l:Addr}{xs:List V}{u:HO}(h:Mh H rs)(hl:H l=some (.lst xs)):Mh (upd H l u) rs:=λr q=>by
 have h2:=h r q;rw[fY (λz=>by rw[z,hl]at h2;cases h2)];exact h2
noncomputable def Rh(ws:List Str):Option Ws->Prop
 |none=>ws=[]
 |some rs=>ws≠[]/\rs.map (·.2)=ws.map DX
theorem ZF{H:Hp}:∀{ws:List Str}{acc:List V},acc.length=ws.length->(∀(i:Nat) v,acc[i]? =some v->∃b z,ws[i]? =some z/\v=.ref b/\H b=some (.tup [(DX z).1,(DX z).2]))->∃rs:Ws,acc=Ge rs/\rs.map (·.2)=ws.map DX/\Lb H rs
 |[],acc,hl,_=>⟨[],zzJ hl,rfl,λr hr=>nomatch hr⟩
 |z::ws,acc,hl,h=>by
  cases acc with
  |nil=>cases hl
  |cons v acc=>
   obtain⟨b,z',e1,e2,e3⟩:=h 0 v rfl;cases zf e1;obtain⟨rs,a1,a2,a3⟩:=ZF (ws:=ws) (acc:=acc) (Nat.succ.inj hl) λi v hv=>h (i+1) v hv;refine⟨(b,DX z)::rs,by rw[e2,a1];rfl,?_,λq hq=>?_⟩
   ·rw[zg,zg,a2]
   ·rcases zp.mp hq with e|hq
    ·subst e;exact e3
    ·exact a3 q hq
noncomputable def xU:Sp:=λvs H Q _=>∃(q:Addr)(ws:List Str),vs=[.ref q]/\H q=some (.lst (ws.map V.str))/\ws.length<=59/\(∀z∈ws,z.length<=100000)/\
 ∀v o H',Same H H'->NW H' v o->Rh ws o->(∀l,v=.ref l->H l=none)->Q v H'
def Ax(T:Txt w K mg A D):jn P w K mg base CX0 4 A.oS D.oS ["words"] xU:=by
 refine T.qI.F.okv Al λ_ _ _ _ H vs Q E hr h=>?_
 ·obtain⟨q,ws,rfl,hq,hl,hz,k⟩:=h
  refine⟨_,(fQ (gn (BV (fZ (lH) (gG (jf (K:=K)) (by rfl) T.rq (by decide+kernel) (pav 0 fO)) fL (gA _)) vQ (jO (cap:=[none]) (N':=["word"]) rfl (by walk_at "c") (lG (K:=K) (pv 0)) (λ_ _ _ _=>(gJ (i:=0) nd1 rfl orl orr)) (λ_ _ _ _=>jZ) (λ_ _ _ _=>(pcg (Ej T) hr T.qH (GX T) (pav 0 fO))))))),?_⟩;walk_at "a";refine⟨_,.inl (fU hq),?_⟩;rw[zb];by_cases h0:ws=[]
  ·rw[h0,zu (show((([]:List Str).length:Nat):Int)=0 from rfl)]
   exact k .non none H (same_refl H) rfl h0 λl z=>nomatch z
  ·have hp:0<ws.length:=List.length_pos_iff.mpr h0
   rw[zo (by omega)];refine⟨⟨_,fU hq⟩,?_⟩;refine jP.listE (K:=K) (λσ=>∃a,σ=[a]) (λi v H'=>∃b z,ws[i]? =some z/\v=.ref b/\H' b=some (.tup [(DX z).1,(DX z).2])) (fU hq) ⟨_,rfl⟩ (by rw[zb,zc];omega) ?_ ?_
   ·rintro Da i x hx σ H5 R ⟨_,rfl⟩ sm hD ⟨acc,hA⟩ kk
    rw[zB]at hx
    cases e:ws[i]? with
    |none=>rw[e]at hx;cases hx
    |some z=>
     rw[e]at hx;cases zf hx;walk_at "i";exact⟨z,rfl,hz z (za e),λt H7 s7 hn ht=>kk _ _ H7 ⟨_,rfl⟩ s7 λH' s'=>⟨t,z,e,rfl,s' _ _ (λz=>by rw[z,hA]at hn;cases hn) ht⟩⟩
   ·intro Da H' acc hD sm hA aa hF
    obtain⟨rs,e1,e2,e3⟩:=ZF (by rw[aa,zb]) hF;rw[e1]at hA;have ac:rs.length=ws.length:=by have:=congrArg List.length e2;rwa [zb,zb]at this
    refine k (.ref Da) (some rs) H' sm ⟨Da,rfl,hA,e3,λr hr=>?_,by omega⟩ ⟨h0,e2⟩ λl z=>by cases z;exact hD
    have hm:r.2∈ws.map DX:=by rw[<-e2];exact zzf hr
    obtain⟨z,ab,e⟩:=zO.mp hm;obtain⟨l1,l2⟩:=Lq z;have:=hz z ab;rw[<-e];exact⟨RD (by omega),RD (by omega)⟩
noncomputable def Fj:List (Key×V):=[(Sum.inr "buy",V.int 7),(Sum.inr "sell",V.int 7),(Sum.inr "gift",V.int 7),(Sum.inr "give",V.int 5),(Sum.inr "split",V.int 6),(Sum.inr "part",V.int 7)]
structure Kd where
 wd:Str
 m:Nat
 isk:Ent->Bool
 lot:Bool
noncomputable def kinds:List Kd:=[⟨"buy",6,vV,false⟩,⟨"sell",6,mV,true⟩,⟨"gift",6,nY,false⟩,⟨"give",4,lX,true⟩,⟨"split",5,lD,false⟩,⟨"part",6,mY,false⟩]
def jd:∀{q:Kd},q∈kinds->nW Fj (Sum.inr q.wd)=some (.int ((q.m+1:Nat):Int))/\inV (V.str q.wd) [V.str (Str.ofString "sell"),V.str (Str.ofString "give")]=q.lot/\4<=q.m/\q.m<=6:=by
 intro q h;simp only[kinds,zp,zw,or_false]at h;rcases h with rfl|rfl|rfl|rfl|rfl|rfl<;>exact⟨by decide+kernel,by decide+kernel,by decide,by decide⟩
def NZ{wd:Str}{v:V}(h:nW Fj (Sum.inr wd)=some v):∃q∈kinds,q.wd=wd:=by
 have key:∀(a:Str)(x:V)(l:List (Key×V)),nW ((Sum.inr a,x)::l) (Sum.inr wd)=some v->a=wd\/nW l (Sum.inr wd)=some v:=λa x l h=>by
  unfold nW at h⊢;by_cases e:a=wd
  ·exact .inl e
  ·rw[List.find?_cons_of_neg (by simpa using λz=>e z)]at h
   exact .inr h
 unfold Fj at h;rcases key _ _ _ h with e|h
 ·exact⟨⟨"buy",6,vV,false⟩,by simp[kinds],e⟩
 rcases key _ _ _ h with e|h
 ·exact⟨⟨"sell",6,mV,true⟩,by simp[kinds],e⟩
 rcases key _ _ _ h with e|h
 ·exact⟨⟨"gift",6,nY,false⟩,by simp[kinds],e⟩
 rcases key _ _ _ h with e|h
 ·exact⟨⟨"give",4,lX,true⟩,by simp[kinds],e⟩
 rcases key _ _ _ h with e|h
 ·exact⟨⟨"split",5,lD,false⟩,by simp[kinds],e⟩
 rcases key _ _ _ h with e|h
 ·exact⟨⟨"part",6,mY,false⟩,by simp[kinds],e⟩
 ·cases h
noncomputable def Ci(ws:List Str)(kd:Kd):Prop:=kd∈kinds/\ws[2]? =some kd.wd/\kd.m+1<=ws.length/\(kd.lot=false->ws.length=kd.m+1)
noncomputable def Bm(A:Adr):Sp:=λvs H Q E=>∃(q:Addr)(ws:List Str),vs=[.ref q]/\H q=some (.lst (ws.map V.str))/\(∀kd,Ci ws kd->Q (.str kd.wd) H)/\((∀kd,¬Ci ws kd)->E (.ref A.pJ) none H)
def Bw(T:Txt w K mg A D):jn P w K mg base (CX1 P w) 1 A.ow D.ow ["words"] (Bm A):=by
 refine T.qo.F.okX lB (by walk_at "v") (λ_ _ _ _ H vs Q E hr h=>?_)
 ·obtain⟨q,ws,rfl,hq,k,kE⟩:=h
  refine ⟨_,(fJ (iM (PW.pt (Cg (fZ (Ei) (gG (jf (K:=K)) (by rfl) T.rq (by decide+kernel) (pav 0 fO)) fL (gA _)) (wI (fZ (Te (K:=K) (w:=w)) (gF (fV (K:=K)) (pvD 0) fL (λ_ _=>rfl)) (gP (v:=V.ref A.qm) (by rfl) T.sI rfl) (by with_unfolding_all rfl))))) (fQ (mL kZ rfl T.sK (by rfl) T.rO (fH fW fO))) gw)
   (fJ (gm (i:=1) lB.nd rfl orl (gF (fV (K:=K)) (pvD 0) fL (λ_ _=>rfl)))
   (fJ (gm (i:=2) lB.nd rfl orl (fX Ez (gG (jf (K:=K)) (by rfl) T.rq (by decide+kernel) (pav 0 fO)) (Qo (K:=K) (w:=w) (gP (v:=V.ref A.qm) (by rfl) T.sI rfl) (pvD 1) (λ_ _=>rfl))))
   (fJ (iM (PW.pt (Cg (fZ (Ei) (pvD 2) fL (gA _)) (wI (PW.pt (HD (fZ (El) (pvD 2) fL (gA _)) (GD (fZ (Jm (K:=K)) (pvD 1) (gP (v:=V.ref A.ql) (by rfl) T.sF rfl) (by with_unfolding_all rfl)))))))) (fQ (mL kZ rfl T.sK (by rfl) T.rO (fH fW fO))) gw)
   (fQ (gn (pvD 1))))))),?_⟩
  simp only[start_eq];walk_at "n";refine⟨_,.inl (fU hq),?_⟩;rw[zb];by_cases h3:ws.length<3
  ·rw[zu (by omega)]
   refine⟨sz,kE λkd ⟨hk,h2,h4,_⟩=>?_⟩;have:=(jd hk).2.2.1;omega
  rw[zo (by omega)];obtain⟨wd,hw⟩:∃wd,ws[2]? =some wd:=⟨_,zJ (by omega)⟩;have ad:atI (ws.map V.str) 2=some (.str wd):=jw (j:=2) (by rw[zB,hw];rfl);refine⟨_,fU hq,_,ad,?_⟩;have gd:FZ K w A.qm Fj:=T.sJ;refine⟨_,gd,Sum.inr wd,rfl,?_⟩
  cases hp:nW Fj (Sum.inr wd)with
  |none=>
   rw[zu (show(none:Option V).isSome=false from rfl)];refine⟨sz,kE λkd ⟨hk,h2,_⟩=>?_⟩;rw[hw]at h2;have h5:=(jd hk).1;rw[<-zf h2,hp]at h5;cases h5
  |some v=>
   rw[zo (λz=>nomatch z)];obtain⟨kd,hk,rfl⟩:=NZ hp;obtain⟨k1,k2,k3,k4⟩:=jd hk;rw[hp]at k1;cases zf k1
   have ab:∀aa,Ci ws aa->kd.m+1<=ws.length/\(kd.lot=false->ws.length=kd.m+1):=λaa ⟨a1,a2,a3,a4⟩=>by
    rw[hw]at a2;have e:=zf a2;obtain⟨c1,c2,_⟩:=jd a1;rw[<-e,hp]at c1;have c1:((kd.m+1:Nat):Int)=((aa.m+1:Nat):Int):=by injection c1 with c1;injection c1
    rw[<-e,k2]at c2;rw[<-c2]at a4;have:kd.m=aa.m:=by omega
    rw[this];exact⟨a3,a4⟩
   walk_at "n";refine⟨_,fU hq,_,ad,?_⟩;walk_at "n";refine⟨_,.inl (fU hq),_,gd,Sum.inr kd.wd,rfl,_,hp,_,rfl,?_⟩;rw[zb];walk_at "n";by_cases h0:(ws.length:Int) - ((kd.m+1:Nat):Int)<0
   ·rw[zu h0]
    refine⟨sz,kE λaa ac=>?_⟩;have:=(ab aa ac).1;omega
   rw[zo h0];by_cases h1:0<(ws.length:Int) - ((kd.m+1:Nat):Int)
   ·rw[zu h1]
    refine⟨_,.inr (T.sG H),rfl,rfl,?_⟩;rw[k2]
    cases hl:kd.lot with
    |false=>
     rw[zu rfl];refine⟨sz,kE λaa ac=>?_⟩;have:=(ab aa ac).2 hl;omega
    |true=>
     rw[zo (λz=>nomatch z)];exact k kd ⟨hk,hw,by omega,λz=>by rw[hl]at z;cases z⟩
   ·rw[zo h1]
    exact k kd ⟨hk,hw,by omega,λ_=>by omega⟩
def nR{a b:Kd}(ha:a∈kinds)(q:b∈kinds)(h:a.wd=b.wd):a=b:=by
 simp only[kinds,zp,zw,or_false]at ha q;rcases ha with rfl|rfl|rfl|rfl|rfl|rfl<;>rcases q with rfl|rfl|rfl|rfl|rfl|rfl<;>first|rfl|exact absurd h (by decide+kernel)
def Dr{ws:List Str}{a b:Kd}(ha:Ci ws a)(q:Ci ws b):a=b:=nR ha.1 q.1 (zf (ha.2.1.symm.trans q.2.1))
def Ad{e:Ent}{z:List V}{u v:V}(q:mV e=true\/lX e=true)(h:z++[u]=e.args u):z++[v]=e.args v:=by
 cases e with
 |sell d n w p r f o=>
  have h:z++[u]=[V.int d,.int n,.str w,.int p,.int r,.int f]++[u]:=h;rw[zzg h];rfl
 |give d n w p o=>
  have h:z++[u]=[V.int d,.int n,.str w,.int p]++[u]:=h;rw[zzg h];rfl
 |_=>rcases q with q|q<;>cases q
noncomputable def wk(A:Adr):Sp:=λvs H Q E=>∃(q:Addr)(kd:Kd)(as:List V)(nl:V)(o:Option Ws),vs=[.ref q]/\kd∈kinds/\H q=some (.lst (.str kd.wd::(as++if kd.lot then[nl]else[])))/\as.length=kd.m/\(∀v∈as,WV v)/\NW H nl o/\(kd.lot=false->nl=.non)/\
 (∀e:Ent,kd.isk e=true->as++(if kd.lot then[nl]else[])=e.args nl->o=wO e.lots->e.good->∀x B H',Same H B->Made A B H' x e->Q (.ref x) H')/\
 ((∀e:Ent,kd.isk e=true->as++(if kd.lot then[nl]else[])=e.args nl->o=wO e.lots->¬e.good)->∀H',Same H H'->E (.ref A.pJ) none H')
def vY(T:Txt w K mg A D):jn P w K mg base (CX1 P w) 6 A.oO D.oO ["told"] (wk A):=by
 refine T.qE.F.okX lR (by walk_at "v") (λ_ _ _ _ H vs Q E hr h=>?_)
 ·obtain⟨q,kd,as,nl,o,rfl,hk,hq,hl,hW,hv,ac,k,kE⟩:=h
  refine ⟨_,(fJ (gm (i:=1) lR.nd rfl orl (gF (fV (K:=K)) (pvD 0) fL (λ_ _=>rfl)))
   (fJ (iM (fZ (lH) (pvD 1) fW (gA _)) (fQ (gn (xY T.ud (DQ (K:=K) T) (hr.mono (by decide)) (by rfl) T.rR (uK T).choose_spec.1 (uK T).choose_spec.2 gj (fH (gF (fV (K:=K)) (pvD 0) fL (λ_ _=>rfl)) (fH (gF (fV (K:=K)) (pvD 0) fL (λ_ _=>rfl)) (fH (gF (fV (K:=K)) (pvD 0) fL (λ_ _=>rfl)) (fH (gF (fV (K:=K)) (pvD 0) fL (λ_ _=>rfl)) (fH (gF (fV (K:=K)) (pvD 0) fL (λ_ _=>rfl)) (fH (gF (fV (K:=K)) (pvD 0) fL (λ_ _=>rfl)) fO))))))))) gw)
   (fJ (iM (fZ (lH) (pvD 1) fW (gA _)) (fQ (gn (xY T.ue (Bl (K:=K) T) (hr.mono (by decide)) (by rfl) T.rS (nC T).choose_spec.1 (nC T).choose_spec.2 gj (fH (gF (fV (K:=K)) (pvD 0) fL (λ_ _=>rfl)) (fH (gF (fV (K:=K)) (pvD 0) fL (λ_ _=>rfl)) (fH (gF (fV (K:=K)) (pvD 0) fL (λ_ _=>rfl)) (fH (gF (fV (K:=K)) (pvD 0) fL (λ_ _=>rfl)) (fH (gF (fV (K:=K)) (pvD 0) fL (λ_ _=>rfl)) (fH (gF (fV (K:=K)) (pvD 0) fL (λ_ _=>rfl)) (fH (pcg (lF T) hr T.qz (mO T) (fH (gF (fV (K:=K)) (pvD 0) fL (λ_ _=>rfl)) fO)) fO)))))))))) gw)
   (fJ (iM (fZ (lH) (pvD 1) fW (gA _)) (fQ (gn (xY T.uf (Bj (K:=K) T) (hr.mono (by decide)) (by rfl) T.rT (DP T) .nil gj (fH (gF (fV (K:=K)) (pvD 0) fL (λ_ _=>rfl)) (fH (gF (fV (K:=K)) (pvD 0) fL (λ_ _=>rfl)) (fH (gF (fV (K:=K)) (pvD 0) fL (λ_ _=>rfl)) (fH (gF (fV (K:=K)) (pvD 0) fL (λ_ _=>rfl)) (fH (gF (fV (K:=K)) (pvD 0) fL (λ_ _=>rfl)) (fH (gF (fV (K:=K)) (pvD 0) fL (λ_ _=>rfl)) fO))))))))) gw)
   (fJ (iM (fZ (lH) (pvD 1) fW (gA _)) (fQ (gn (xY T.ug (Bx (K:=K) T) (hr.mono (by decide)) (by rfl) T.rV (nP T).choose_spec.1 (nP T).choose_spec.2 gj (fH (gF (fV (K:=K)) (pvD 0) fL (λ_ _=>rfl)) (fH (gF (fV (K:=K)) (pvD 0) fL (λ_ _=>rfl)) (fH (gF (fV (K:=K)) (pvD 0) fL (λ_ _=>rfl)) (fH (gF (fV (K:=K)) (pvD 0) fL (λ_ _=>rfl)) (fH (pcg (lF T) hr T.qz (mO T) (fH (gF (fV (K:=K)) (pvD 0) fL (λ_ _=>rfl)) fO)) fO)))))))) gw)
   (fJ (iM (fZ (lH) (pvD 1) fW (gA _)) (fQ (gn (xY T.uh (Am (K:=K) T) (hr.mono (by decide)) (by rfl) T.rW (Bs T) .nil gj (fH (gF (fV (K:=K)) (pvD 0) fL (λ_ _=>rfl)) (fH (gF (fV (K:=K)) (pvD 0) fL (λ_ _=>rfl)) (fH (gF (fV (K:=K)) (pvD 0) fL (λ_ _=>rfl)) (fH (gF (fV (K:=K)) (pvD 0) fL (λ_ _=>rfl)) (fH (gF (fV (K:=K)) (pvD 0) fL (λ_ _=>rfl)) fO)))))))) gw)
   (fQ (gn (xY T.uc (vZ (K:=K) T) (hr.mono (by decide)) (by rfl) T.rQ (wY T) .nil gj (fH (gF (fV (K:=K)) (pvD 0) fL (λ_ _=>rfl)) (fH (gF (fV (K:=K)) (pvD 0) fL (λ_ _=>rfl)) (fH (gF (fV (K:=K)) (pvD 0) fL (λ_ _=>rfl)) (fH (gF (fV (K:=K)) (pvD 0) fL (λ_ _=>rfl)) (fH (gF (fV (K:=K)) (pvD 0) fL (λ_ _=>rfl)) (fH (gF (fV (K:=K)) (pvD 0) fL (λ_ _=>rfl)) fO))))))))))))))),?_⟩
  simp only[start_eq];simp only[kinds,zp,zw,or_false]at hk;rcases hk with rfl|rfl|rfl|rfl|rfl|rfl
  ·obtain⟨a0,a1,a2,a3,a4,a5,rfl⟩:=Wu hl
   have hq:H q=some (.lst [.str "buy",a0,a1,a2,a3,a4,a5]):=hq
   iterate 2 (walk_at "n";refine⟨_,fU hq,_,rfl,?_⟩)
   iterate 5 refine⟨_,fU hq,_,rfl,?_⟩
   intro x dx hx aa ab;exact⟨x,[a0,a1,a2,a3,a4,a5],nl,o,H,dx,rfl,rfl,hW,hv,ac,Fb hx aa,λe e1 e2 e3 e4 H2 hM=>⟨rfl,k e e1 e2 e3 e4 x H H2 (same_refl H) hM⟩,λb H2 s2=>kE b H2 s2⟩
  ·obtain⟨a0,a1,a2,a3,a4,a5,rfl⟩:=Wu hl
   have hq:H q=some (.lst [.str "sell",a0,a1,a2,a3,a4,a5,nl]):=hq;walk_at "n";refine⟨_,fU hq,_,rfl,?_⟩;walk_at "n";rw[zo (by decide+kernel)];walk_at "n"
   iterate 7 refine⟨_,fU hq,_,rfl,?_⟩
   refine⟨nl,o,rfl,hv,λv1 H1 s1 ad _=>?_⟩;intro x dx hx aa ab;refine⟨x,[a0,a1,a2,a3,a4,a5],v1,o,H1,dx,rfl,rfl,hW,ad,(λz=>nomatch z),Fb hx aa,λe e1 e2 e3 e4 H2 hM=>⟨rfl,k e e1 (Ad (.inl e1) e2) e3 e4 x H1 H2 s1 hM⟩,λb H2 s2=>kE (λe e1 e2 e3=>b e e1 (Ad (.inl e1) e2) e3) H2 (s1.trans s2)⟩
  ·obtain⟨a0,a1,a2,a3,a4,a5,rfl⟩:=Wu hl
   have hq:H q=some (.lst [.str "gift",a0,a1,a2,a3,a4,a5]):=hq;walk_at "n";refine⟨_,fU hq,_,rfl,?_⟩
   iterate 2 (walk_at "n";rw[zo (by decide+kernel)])
   walk_at "n"
   iterate 6 refine⟨_,fU hq,_,rfl,?_⟩
   intro x dx hx aa ab;exact⟨x,[a0,a1,a2,a3,a4,a5],nl,o,H,dx,rfl,rfl,hW,hv,ac,Fb hx aa,λe e1 e2 e3 e4 H2 hM=>⟨rfl,k e e1 e2 e3 e4 x H H2 (same_refl H) hM⟩,λb H2 s2=>kE b H2 s2⟩
  ·obtain⟨a0,a1,a2,a3,rfl⟩:=abQ hl
   have hq:H q=some (.lst [.str "give",a0,a1,a2,a3,nl]):=hq;walk_at "n";refine⟨_,fU hq,_,rfl,?_⟩
   iterate 3 (walk_at "n";rw[zo (by decide+kernel)])
   walk_at "n"
   iterate 5 refine⟨_,fU hq,_,rfl,?_⟩
   refine⟨nl,o,rfl,hv,λv1 H1 s1 ad _=>?_⟩;intro x dx hx aa ab;refine⟨x,[a0,a1,a2,a3],v1,o,H1,dx,rfl,rfl,hW,ad,(λz=>nomatch z),Fb hx aa,λe e1 e2 e3 e4 H2 hM=>⟨rfl,k e e1 (Ad (.inr e1) e2) e3 e4 x H1 H2 s1 hM⟩,λb H2 s2=>kE (λe e1 e2 e3=>b e e1 (Ad (.inr e1) e2) e3) H2 (s1.trans s2)⟩
  ·obtain⟨a0,a1,a2,a3,a4,rfl⟩:=abS hl
   have hq:H q=some (.lst [.str "split",a0,a1,a2,a3,a4]):=hq;walk_at "n";refine⟨_,fU hq,_,rfl,?_⟩
   iterate 4 (walk_at "n";rw[zo (by decide+kernel)])
   walk_at "n"
   iterate 5 refine⟨_,fU hq,_,rfl,?_⟩
   intro x dx hx aa ab;exact⟨x,[a0,a1,a2,a3,a4],nl,o,H,dx,rfl,rfl,hW,hv,ac,Fb hx aa,λe e1 e2 e3 e4 H2 hM=>⟨rfl,k e e1 e2 e3 e4 x H H2 (same_refl H) hM⟩,λb H2 s2=>kE b H2 s2⟩
  ·obtain⟨a0,a1,a2,a3,a4,a5,rfl⟩:=Wu hl
   have hq:H q=some (.lst [.str "part",a0,a1,a2,a3,a4,a5]):=hq;walk_at "n";refine⟨_,fU hq,_,rfl,?_⟩
   iterate 5 (walk_at "n";rw[zo (by decide+kernel)])
   try walk_at "i"
   iterate 6 refine⟨_,fU hq,_,rfl,?_⟩
   intro x dx hx aa ab;exact⟨x,[a0,a1,a2,a3,a4,a5],nl,o,H,dx,rfl,rfl,hW,hv,ac,Fb hx aa,λe e1 e2 e3 e4 H2 hM=>⟨rfl,k e e1 e2 e3 e4 x H H2 (same_refl H) hM⟩,λb H2 s2=>kE b H2 s2⟩
noncomputable def l2(rs:Rs):List (Int×Int):=rs.map (·.2)
noncomputable def SmO:Option Rs->Option Rs->Prop
 |none,none=>True
 |some rs,some rs'=>l2 rs'=l2 rs
 |_,_=>False
def Qw{β:Type}{f:Addr×Int×Int->β}(g:Int×Int->β)(z:∀r,f r=g r.2){rs q:Rs}(h:l2 q=l2 rs):q.map f=rs.map f:=by
 have e:∀l:Rs,l.map f=(l2 l).map g:=λl=>by
  unfold l2;rw[zU];exact zzS λr _=>z r
 rw[e,e,h]
def Yh{rs z:Rs}{p:Int}(h:l2 z=l2 rs)(hg:Ce rs p):Ce z p:=by
 refine⟨?_,λr hr=>?_,?_,?_⟩
 ·have:=congrArg List.length h
  unfold l2 at this;rw[zb,zb]at this;rw[this];exact hg.l
 ·have hm:r.2∈l2 rs:=by rw[<-h];exact zzf hr
  obtain⟨q,hq,e⟩:=zO.mp hm;rw[<-e];exact hg.b q hq
 ·rw[Qw (λx=>x.1) (λ_=>rfl) h];exact hg.u
 ·rw[Qw (λx=>x.2) (λ_=>rfl) h];exact hg.s
def Mi{o o':Option Rs}{p:Int}(h:SmO o o')(q:Kh p o):Kh p o':=by
 cases o with
 |none=>cases o' with
  |none=>exact q
  |some _=>exact h.elim
 |some rs=>cases o' with
  |none=>exact h.elim
  |some rs'=>exact Yh h q
noncomputable def Ent.wl(o:Option Rs):Ent->Ent
 |.sell d n w p r f _=> .sell d n w p r f o
 |.give d n w p _=> .give d n w p o
 |e=>e
def Xk(e:Ent)(o:Option Rs)(q:V):(e.wl o).args q=e.args q:=by cases e<;>rfl
def Np{o:Option Rs}(h:SmO none o):o=none:=by
 cases o with
 |none=>rfl
 |some _=>exact h.elim
def Yo{e:Ent}{o:Option Rs}(h:SmO e.lots o):(e.wl o).lots=o:=by
 cases e with
 |sell=>rfl
 |give=>rfl
 |_=>exact(Np h).symm
def WY{e:Ent}{o:Option Rs}(h:SmO e.lots o)(q:e.good):(e.wl o).good:=by
 cases e with
 |sell=>exact⟨q.1,q.2.1,q.2.2.1,q.2.2.2.1,Mi h q.2.2.2.2⟩
 |give=>exact⟨q.1,q.2.1,Mi h q.2.2⟩
 |_=>exact q
noncomputable def uY(ws:List Str)(m:Nat):List V:=(ws.take 2++(ws.drop 3).take (m - 2)).map val
noncomputable def iZ(ws:List Str)(e:Ent):Prop:=∃kd,Ci ws kd/\kd.isk e=true/\(∃nl,uY ws kd.m++(if kd.lot then[nl]else[])=e.args nl)/\Rh (ws.drop (kd.m+1)) (wO e.lots)/\e.good
theorem Fd:∀{rs:Rs}{rw:Ws},rw.map (·.2)=(rs.map wR).map (·.2)->∃q:Rs,rw=q.map wR/\l2 q=l2 rs
 |[],[],_=>⟨[],rfl,rfl⟩
 |[],_::_,h=>by cases h
 |_::_,[],h=>by cases h
 |r::rs,(b,x,y)::rw,h=>by
  rw[zg,zg,zg]at h;injection h with h1 h2
  obtain⟨q,z,e2⟩:=Fd h2;injection h1 with h3 h4
  exact⟨(b,r.2)::q,by rw[zg,z];show(b,x,y)::_=(b,V.int r.2.1,V.int r.2.2)::_;rw[h3,h4],by show r.2::l2 q=r.2::l2 rs;rw[e2]⟩
def Mg{ws:List Str}{o:Option Ws}{q:Option Rs}(h:Rh ws o)(h1:Rh ws (wO q)):∃o2,o=wO o2/\SmO q o2:=by
 cases o with
 |none=>cases q with
  |none=>exact⟨none,rfl,True.intro⟩
  |some rs=>exact absurd h h1.1
 |some rw=>cases q with
  |none=>exact absurd h1 h.1
  |some rs=>
   obtain⟨z,e1,e2⟩:=Fd (h.2.trans h1.2.symm);exact⟨some z,congrArg some e1,e2⟩
def aai{q:Kd}(z:q∈kinds){e:Ent}{o:Option Rs}(h:q.isk e=true):q.isk (e.wl o)=true:=by
 simp only[kinds,zp,zw,or_false]at z;rcases z with rfl|rfl|rfl|rfl|rfl|rfl<;>(cases e<;>first|rfl|cases h)
def Lz{q:Kd}(z:q∈kinds){e:Ent}(h:q.isk e=true)(hl:q.lot=false):e.lots=none:=by
 simp only[kinds,zp,zw,or_false]at z;rcases z with rfl|rfl|rfl|rfl|rfl|rfl<;>first|(cases hl;done)|(cases e<;>first|rfl|cases h)
def BZ{q:Kd}(z:q∈kinds){e:Ent}(h:q.isk e=true){as:List V}{u v:V}(ha:as++(if q.lot then[u]else[])=e.args u):as++(if q.lot then[v]else[])=e.args v:=by
 simp only[kinds,zp,zw,or_false]at z;rcases z with rfl|rfl|rfl|rfl|rfl|rfl
 ·cases e<;>first|exact ha|cases h
 ·exact Ad (.inl h) ha
 ·cases e<;>first|exact ha|cases h
 ·exact Ad (.inr h) ha
 ·cases e<;>first|exact ha|cases h
 ·cases e<;>first|exact ha|cases h
def aaj(xs:List V){s c:Int}(z:0<=s)(h1:s<=c)(h2:c<=xs.length):uN xs (some s) (some c)=(xs.drop s.toNat).take (c.toNat - s.toNat):=by
 unfold uN HT.sIx;have q:¬s<0:=by omega
 have e2:¬c<0:=by omega
 simp only[q,e2,if_false];rw[show min s.toNat xs.length=s.toNat by omega,show min c.toNat xs.length=c.toNat by omega]
def VN{α β:Type}{f:α->β}{l:List α}{i:Nat}{y:β}(h:(l.map f)[i]? =some y):∃x,l[i]? =some x/\y=f x:=by
 rw[zB]at h
 cases e:l[i]? with
 |none=>rw[e]at h;cases h
 |some x=>rw[e]at h;exact⟨x,rfl,(zf h).symm⟩
noncomputable def Ar(A:Adr):Sp:=λvs H Q E=>∃(q:Addr)(ws:List Str),vs=[.ref q]/\H q=some (.lst (ws.map V.str))/\ws.length<=59/\(∀z∈ws,z.length<=100000)/\
 (∀x e B H',iZ ws e->Same H B->Made A B H' x e->Q (.ref x) H')/\((∀e,¬iZ ws e)->∀H',Same H H'->E (.ref A.pJ) none H')
def Ae(T:Txt w K mg A D):jn P w K mg base (CX1 P w) 7 A.oU D.oU ["words"] (Ar A):=by
 refine T.qJ.F.okX jt (by walk_at "v") (λ_ _ _ _ H vs Q E hr h=>?_)
 ·obtain⟨q,ws,rfl,hq,hl,hz,k,kE⟩:=h
  refine ⟨_,(fJ (gm (i:=1) jt.nd rfl orl (iu (Bw (K:=K) T) (hr.mono (by decide)) (by rfl) T.qo.m T.qo.k (Dd T) .nil gj (pav 0 fO)))
   (fJ (gm (i:=2) jt.nd rfl orl (Qo (K:=K) (w:=w) (gP (v:=V.ref A.qm) (by rfl) T.sI rfl) (pvD 1) (λ_ _=>rfl)))
   (fJ (gm (i:=3) jt.nd rfl orl (fX jR (ig (pav 1 fO)) (jO (cap:=[none]) (N':=["word"]) rfl (by walk_at "c") (vC (K:=K) (fX jR (gM (gR (K:=K)) (pvD 0) iB (ir fL)) (gM (gR (K:=K)) (pvD 0) (ir fL) (ir (pvD 2))))) (λ_ _ _ _=>(gJ (i:=0) nd1 rfl orl orr)) (λ_ _ _ _=>jZ) (λ_ _ _ _=>(pcg (lq T) hr T.qG (mF T) (pav 0 fO))))))
   (fJ (iM (fZ (VP (K:=K)) (pvD 1) (gP (v:=V.ref A.ql) (by rfl) T.sF rfl) (by with_unfolding_all rfl)) (fQ (gK (jD (K:=K) yc yv yw nF (pvD 3) (fH (pcg (Ax T) hr T.qI (Bq T) (fH (gM (gR (K:=K)) (pvD 0) (ir (pvD 2)) iB) fO)) fO)))) gw)
   (fQ (gn (iu (vY (K:=K) T) (hr.mono (by decide)) (by rfl) T.qE.m T.qE.k (wH T) .nil gj (pav 3 fO)))))))),?_⟩
  have gd:FZ K w A.qm Fj:=T.sJ;simp only[start_eq];walk_at "n";refine⟨q,ws,rfl,hq,λkd hK=>?_,λav=>kE (λe ⟨kd,hk,_⟩=>av kd hk) H (same_refl H)⟩;obtain⟨hk,ba,az,ai⟩:=id hK;obtain⟨k1,k2,k3,k4⟩:=jd hk;walk_at "n";refine⟨_,gd,Sum.inr kd.wd,rfl,_,k1,?_⟩;walk_at "n";refine⟨sz,λpk as=>?_⟩;have s1:=fM (o:=.lst [V.str kd.wd]) as;have h1:upd H pk (.lst [V.str kd.wd]) pk=some (.lst [V.str kd.wd]):=fK;generalize upd H pk (.lst [V.str kd.wd])=H1 at*;refine⟨_,fU (s1 _ _ hq),λpa ha=>?_⟩;rw[show(2:Int)=((2:Nat):Int)from rfl,jo,<-zX];have s2:=fM (o:=.lst ((ws.take 2).map V.str)) ha;have h2:upd H1 pa (.lst ((ws.take 2).map V.str)) pa=some (.lst ((ws.take 2).map V.str)):=fK;generalize upd H1 pa (.lst ((ws.take 2).map V.str))=H2 at*;refine⟨_,fU (s2 _ _ (s1 _ _ hq)),λpb hb=>?_⟩;rw[aaj _ (by decide) (by omega) (by rw[zb];omega),show(3:Int).toNat=3 from rfl,show((kd.m+1:Nat):Int).toNat - 3=kd.m - 2 by omega,<-yyc,<-zX];have s3:=fM (o:=.lst (((ws.drop 3).take (kd.m - 2)).map V.str)) hb;have h3:upd H2 pb (.lst (((ws.drop 3).take (kd.m - 2)).map V.str)) pb=some (.lst (((ws.drop 3).take (kd.m - 2)).map V.str)):=fK;generalize upd H2 pb (.lst (((ws.drop 3).take (kd.m - 2)).map V.str))=H3 at*;refine⟨_,s3 _ _ h2,_,h3,by rw[zc,zb,zb,zv,zv];omega,λpc hc=>?_⟩;rw[<-zk];obtain⟨us,ac⟩:∃us,us=ws.take 2++(ws.drop 3).take (kd.m - 2):=⟨_,rfl⟩;have ar:us.length=kd.m:=by rw[ac,zh,zv,zv,yf];omega
  have ao:∀z∈us,z.length<=100000:=λz hm=>by
   rw[ac]at hm;rcases zx.mp hm with hm|hm
   ·exact hz z (zS hm)
   ·exact hz z (yz (zS hm))
  have ae:us.map val=uY ws kd.m:=by rw[ac];rfl
  rw[<-ac];have s4:=fM (o:=.lst (us.map V.str)) hc;have h4:upd H3 pc (.lst (us.map V.str)) pc=some (.lst (us.map V.str)):=fK;generalize upd H3 pc (.lst (us.map V.str))=H4 at*;have S4:Same H H4:=((s1.trans s2).trans s3).trans s4;refine⟨⟨_,fU h4⟩,?_⟩;refine jP.listE (K:=K) (λσ=>∃a,σ=[a]) (λi v _=>(us.map val)[i]? =some v) (fU h4) ⟨_,rfl⟩ (by rw[zb,zc];omega) ?_ ?_
  ·rintro Da i x hx σ H5 R ⟨_,rfl⟩ sm hD _ kk
   obtain⟨z,ak,rfl⟩:=VN hx;walk_at "i";exact⟨z,rfl,ao z (za ak),λH7 s7=>kk _ _ H7 ⟨_,rfl⟩ s7 λH' _=>by rw[zB,ak];rfl⟩
  ·intro Da H5 acc hD s5 hA ab hF
   have aj:acc=us.map val:=by
    refine List.ext_getElem? λi=>?_
    cases ei:acc[i]? with
    |none=>rw[zzy (by rw[zb]at ab⊢;rw[<-ab];exact List.getElem?_eq_none_iff.mp ei)]
    |some v=>exact(hF i v ei).symm
   rw[aj,ae]at hA
   have am:∀v∈uY ws kd.m,WV v:=λv hv=>by
    rw[<-ae]at hv;obtain⟨z,hm,rfl⟩:=zO.mp hv;exact RD (ao z hm)
   have an:(uY ws kd.m).length=kd.m:=by rw[<-ae,zb,ar]
   walk_at "i";refine⟨_,(((s2.trans s3).trans s4).trans s5) _ _ h1,_,hA,by rw[zc,zA,yC];omega,λpt ht=>?_⟩;have s6:=fM (o:=.lst ([V.str kd.wd]++uY ws kd.m)) ht;have h6:upd H5 pt (.lst ([V.str kd.wd]++uY ws kd.m)) pt=some (.lst ([V.str kd.wd]++uY ws kd.m)):=fK;have S5:Same H H5:=S4.trans s5;have aq:H pt=none:=S5.free ht;generalize upd H5 pt (.lst ([V.str kd.wd]++uY ws kd.m))=H6 at*;have S6:Same H H6:=S5.trans s6;walk_at "n";refine⟨_,.inr (T.sG H6),rfl,rfl,?_⟩;rw[k2]
   cases aa:kd.lot with
   |false=>
    rw[zo (λz=>nomatch z)];have au:ws.drop (kd.m+1)=[]:=List.drop_eq_nil_of_le (by have:=ai aa;omega)
    try walk_at "i"
    refine⟨pt,kd,uY ws kd.m,.non,none,rfl,hk,by rw[aa,h6];simp,an,am,rfl,λ_=>rfl,λe e1 e2 e3 e4 x B H' sB hM=>k x e B H' ⟨kd,hK,e1,⟨_,e2⟩,?_,e4⟩ (S6.trans sB) hM,λb H' sB=>kE (λe ⟨af,ad,e1,⟨nl,e2⟩,e3,e4⟩=>?_) H' (S6.trans sB)⟩
    ·rw[Lz hk e1 aa,au]
     rfl
    ·have ag:af=kd:=Dr ad hK
     subst ag;have hn:=Lz hk e1 aa;exact b e e1 (BZ hk e1 e2) (by rw[hn];rfl) e4
   |true=>
    rw[zu rfl]
    try walk_at "i"
    refine⟨.inl ⟨rfl,_,fU h6⟩,_,fU (S6 _ _ hq),λpn aw=>?_⟩;rw[BP,<-yyc];have s7:=fM (o:=.lst ((ws.drop (kd.m+1)).map V.str)) aw;have h7:upd H6 pn (.lst ((ws.drop (kd.m+1)).map V.str)) pn=some (.lst ((ws.drop (kd.m+1)).map V.str)):=fK;generalize upd H6 pn (.lst ((ws.drop (kd.m+1)).map V.str))=H7 at*;refine⟨pn,ws.drop (kd.m+1),rfl,h7,by rw[yf];omega,λz hm=>hz z (yz hm),λv o H8 s8 al ah ay=>?_⟩;have h8:H8 pt=some (.lst ([V.str kd.wd]++uY ws kd.m)):=s8 _ _ (s7 _ _ h6);refine⟨_,h8,by rw[zc,zh,zA,yC];omega,?_⟩;have S9:Same H (upd H8 pt (.lst ([V.str kd.wd]++uY ws kd.m++[v]))):=((S6.trans s7).trans s8).upd aq
    have ax:NW (upd H8 pt (.lst ([V.str kd.wd]++uY ws kd.m++[v]))) v o:=by
     cases o with
     |none=>exact al
     |some rs=>
      obtain⟨l,rfl,a1,a2,a3⟩:=al;refine⟨l,rfl,?_,λr hr=>?_,a3⟩
      ·rw [fY (λz=>by
        have:=ay l rfl;rw[z,s7 _ _ h6]at this;cases this)]
       exact a1
      ·have a4:=a2 r hr
       rw[fY (λz=>by rw[z,h8]at a4;cases a4)];exact a4
    try walk_at "i"
    refine⟨pt,kd,uY ws kd.m,v,o,rfl,hk,by rw[aa,fK];rfl,an,am,ax,(λz=>by rw[aa]at z;cases z),λe e1 e2 e3 e4 x B H' sB hM=>k x e B H' ⟨kd,hK,e1,⟨_,e2⟩,by rw[<-e3];exact ah,e4⟩ (S9.trans sB) hM,λb H' sB=>kE (λe ⟨af,ad,e1,⟨nl,e2⟩,e3,e4⟩=>?_) H' (S9.trans sB)⟩;have ag:af=kd:=Dr ad hK;subst ag;obtain⟨o2,ho,ap⟩:=Mg ah e3;exact b (e.wl o2) (aai hk e1) (by rw[Xk];exact BZ hk e1 e2) (by rw[Yo ap];exact ho) (WY ap e4)
def mj(T:Txt w K mg A D){k:Nat}:Oc P w K mg base (k+1) A.oV D.oV ["self", "row"] (Ft A.pS "row"):=by
 refine T.qK.okH wZ (by walk_at "v") (λ_ _ _ _ H vs Q E h=>?_)
 ·obtain⟨e,n,rfl,hn,hH,k⟩:=h
  refine ⟨_,(fJ (gK (Vt (K:=K) T.sO (by rfl) T.rX (pav 0 (fH (HB (pvD 1)) fO))))
   (fQ (Uo (K:=K) (pvD 0) (pvD 1) rfl))),?_⟩
  simp only[start_eq];walk_at "n";refine⟨hn,λz _=>⟨_,hH,_,T.sL,?_⟩⟩;walk_at "i";exact⟨_,hH,_,T.sL,T.sN,λd hd q=>k d hd q⟩
def mJ(T:Txt w K mg A D):jn P w K mg base CX0 1 A.oV D.oV ["self", "row"] (Ft A.pS "row"):=(mj T).ok
abbrev jT(z:Str):List Str:=Txt.split z (Str.ofString " ")
structure YF(z:Str):Prop where
 l:z.length<=100000
 n:(jT z).length<=59
 w:∀u∈jT z,u.length<=100000
noncomputable def Cr(A:Adr):Sp:=λvs H Q E=>∃(z:Str)(n:Int),vs=[.str z,.int n]/\n.natAbs<2^300/\YF z/\
 (∀x e B H',iZ (jT z) e->Same H B->Made A B H' x e->Q (.ref x) H')/\((∀e,¬iZ (jT z) e)->∀d H',Same H H'->H d=none->H' d=some (.xd [("row",.int n)])->E (.ref A.pS) (some d) H')
def CN(T:Txt w K mg A D):jn P w K mg base (CX1 P w) 8 A.oW D.oW ["row", "place"] (Cr A):=by
 refine T.qL.F.okX Dz (by walk_at "v") (λ_ _ _ _ H vs Q E hr h=>?_)
 ·obtain⟨z,n,rfl,hn,hz,k,kE⟩:=h
  refine⟨_,(fQ (Xo (fI:=0) Pa (Ly (Ae (K:=K) T) (hr.mono (by decide)) (by rfl) T.qJ.m T.qJ.k (Br T) .nil (fH (jD (K:=K) zH yU yV Ca (pvD 0) (fH fW fO)) fO)) T.sK (by rfl) T.rO rfl rfl T.sL (mj (K:=K) (k:=0) T) (hr.mono (by decide)) (by rfl) T.rY (jV T) (λea=>(pav 1 fO)))),?_⟩;simp only[start_eq];walk_at "i";refine⟨rfl,by decide+kernel,by have:=hz.l;omega,λp hp=>⟨p,jT z,rfl,fK,hz.n,hz.w,λx e B H' ht sB hM=>k x e B H' ht ((fM hp).trans sB) hM,λaa H1 s1=>⟨rfl,rfl,λea q=>⟨hn,fK,λd hd=>?_⟩⟩⟩⟩;have S:=((fM (o:=.lst ((jT z).map V.str)) hp).trans s1).trans (fM (o:=Px A.pJ ea) q);exact kE aa d _ (S.trans (fM hd)) (S.free hd) fK
abbrev EL:=List (Addr×Ent)
noncomputable def jz(es:EL):List V:=es.map λr=>V.ref r.1
def nO(es:EL):(jz es).length=es.length:=by unfold jz;rw[zb]
noncomputable def Kept(A:Adr)(l:Addr)(H:Hp)(x:Addr)(e:Ent):Prop:=∃dx nv,H x=some (.ins (e.cls A) dx (e.fs nv))/\NL H nv e.lots/\∀q,nv=.ref q->q≠l
def Kept.isE{l:Addr}{H:Hp}{x:Addr}{e:Ent}:Kept A l H x e->IsE A H x e:=fun⟨dx,q,h,n,_⟩=>⟨dx,q,h,n⟩
theorem Kept.same{l:Addr}{H H':Hp}{x:Addr}{e:Ent}(s:Same H H'):Kept A l H x e->Kept A l H' x e:=fun⟨dx,z,h,n,q⟩=>⟨dx,z,s _ _ h,n.same s,q⟩
def Made.kept{B H:Hp}{x:Addr}{e:Ent}{l:Addr}{ys:List V}(h:Made A B H x e)(hB:B l=some (.lst ys)):Kept A l H x e:=by
 obtain⟨dx,nv,h1,h2,h3⟩:=h;exact⟨dx,nv,h1.h,h2,λq e z=>by rw[<-z,h3 q e]at hB;cases hB⟩
theorem Kept.put{H:Hp}{x:Addr}{e:Ent}{l:Addr}{xs:List V}{u:HO}(h:Kept A l H x e)(hl:H l=some (.lst xs)):Kept A l (upd H l u) x e:=by
 obtain⟨dx,nv,hx,h2,h3⟩:=h;refine⟨dx,nv,?_,?_,h3⟩
 ·rw[fY (λz=>by rw[z,hl]at hx;cases hx)]
  exact hx
 ·generalize e.lots=o at h2
  cases o with
  |none=>exact h2
  |some rs=>
   obtain⟨q,rfl,h4,h5⟩:=h2;refine⟨q,rfl,?_,h5.put hl⟩;rw[fY (h3 q rfl)];exact h4
def Kept.putD{H:Hp}{x:Addr}{e:Ent}{l d:Addr}{kvs:List (Key×V)}{u:HO}(h:Kept A l H x e)(hd:H d=some (.dK kvs)):Kept A l (upd H d u) x e:=by
 obtain⟨dx,nv,hx,h2,h3⟩:=h;refine⟨dx,nv,?_,?_,h3⟩
 ·rw[fY (λz=>by rw[z,hd]at hx;cases hx)]
  exact hx
 ·generalize e.lots=o at h2
  cases o with
  |none=>exact h2
  |some rs=>
   obtain⟨q,rfl,h4,h5⟩:=h2;refine⟨q,rfl,?_,λr hr=>?_⟩
   ·rw[fY (λz=>by rw[z,hd]at h4;cases h4)]
    exact h4
   ·have h6:=h5 r hr
    rw[fY (λz=>by rw[z,hd]at h6;cases h6)];exact h6
def vG:(Str.ofString "\n").length=1:=by decide+kernel
abbrev Hi(rows:List Str)(es:List Ent):Prop:=Paired (λz e=>iZ (jT z) e) rows es
noncomputable def Hw(rows:List Str)(last:Str)(i:Nat)(ns:List Int):Prop:=(∃z,rows[i]? =some z/\((∀e,¬iZ (jT z) e)\/∃e,iZ (jT z) e/\e.num∈ns))\/(i=rows.length/\last≠Str.ofString "")
structure Lr(A:Adr)(H H2:Hp)(rows:List Str)(pr pe sd:Addr)(i:Nat)(es:EL)(kvs:List (Key×V)):Prop where
 s:Same H H2
 r:H2 pr=some (.lst (rows.map V.str))
 e:H2 pe=some (.lst (jz es))
 kp:∀r∈es,Kept A pe H2 r.1 r.2
 al:Hi (rows.take i) (es.map (·.2))
 u:((es.map (·.2)).map Ent.num).Nodup
 d:H2 sd=some (.dK kvs)
 dl:kvs.length<=i
 dn:∀j:Int,(nW kvs (Sum.inl j)).isSome=true↔j∈(es.map (·.2)).map Ent.num
theorem Lr.same{H H2 H3:Hp}{q:List Str}{z pe sd:Addr}{i:Nat}{es:EL}{kvs:List (Key×V)}(h:Lr A H H2 q z pe sd i es kvs)(s:Same H2 H3):Lr A H H3 q z pe sd i es kvs:=
 ⟨h.s.trans s,s _ _ h.r,s _ _ h.e,λr hr=>(h.kp r hr).same s,h.al,h.u,s _ _ h.d,h.dl,h.dn⟩
noncomputable def DG(A:Adr):Sp:=λvs H Q E=>∃(z:Str)(rows:List Str)(last:Str),vs=[.str z]/\z.length<=1000000/\Txt.split z (Str.ofString "\n")=rows++[last]/\rows.length<=100/\(∀r∈rows,YF r)/\
 (∀p (es:EL) H',Same H H'->H p=none->H' p=some (.lst (jz es))->(∀r∈es,Kept A p H' r.1 r.2)->Hi rows (es.map (·.2))->((es.map (·.2)).map Ent.num).Nodup->last=Str.ofString "" ->Q (.ref p) H')/\
 (∀(i:Nat)(es:List Ent) d H',Same H H'->H d=none->H' d=some (.xd [("row",.int ((i+1:Nat):Int))])->Hi (rows.take i) es->(es.map Ent.num).Nodup->Hw rows last i (es.map Ent.num)->E (.ref A.pS) (some d) H')
def uZ(T:Txt w K mg A D):jn P w K mg base (CX1 P w) 9 A.oX D.oX ["text"] (DG A):=by
 refine T.qM.F.okX iw (by walk_at "v") (λ_ _ _ _ H vs Q E hr h=>?_)
 ·obtain⟨z,q,aa,rfl,hz,an,hl,hR,k,kE⟩:=h
  refine ⟨_,(fJ (gm (i:=1) iw.nd rfl orl (jD (K:=K) zH yU yV Ca (pvD 0) (fH fW fO)))
   (fJ (gm (i:=2) iw.nd rfl orl (Kf (K:=K) yc PySem.F.slot_list_pop PySem.F.type_list_pop Vz (pvD 1)))
   (fJ (gm (i:=3) iw.nd rfl orl (ig fO))
   (fJ (gm (i:=4) iw.nd rfl orl FT)
   (fJ (Bd PassesOwn.leaving rfl (Ud (K:=K) (by rfl) T.rH (pav 1 fO)) (FW (K:=K) (n:=2) rfl (iK (gJ (i:=5) iw.nd rfl orl) (iK (gJ (i:=6) iw.nd rfl orl) Ay)))
    (fJ (gm (i:=7) iw.nd rfl orl (iu (CN (K:=K) T) (hr.mono (by decide)) (by rfl) T.qL.m T.qL.k (Ed T) .nil gj (pav 6 (pav 5 fO))))
    (fJ (iM (fZ (Je (Qd hr)) (fv K 7) (pvD 4) (by with_unfolding_all rfl)) (fQ (JB EY rfl T.sL (mJ (K:=K) T) (hr.mono (by decide)) (by rfl) T.rY (jV T) (pav 5 fO))) gw)
    (fJ (Sq (Qd hr) (pvD 4) (fv K 7) nq rfl)
    (fQ (gK (jD (K:=K) yc yv yw nF (pvD 3) (pav 7 fO))))))))
   (fJ (iM (fZ (OJ) (pvD 2) fW (gA _)) (fQ (JB EY rfl T.sL (mJ (K:=K) T) (hr.mono (by decide)) (by rfl) T.rY (jV T) (fH (fX iy (gG (jf (K:=K)) (by rfl) T.rq (by decide+kernel) (pav 1 fO)) fL) fO))) gw)
   (fQ (gn (pvD 3))))))))),?_⟩
  simp only[start_eq];walk_at "n";refine⟨rfl,vG,hz,λpr ai=>?_⟩;rw[an,zk];have s1:=fM (o:=.lst (q.map V.str++[aa].map V.str)) ai;have k1:upd H pr (.lst (q.map V.str++[aa].map V.str)) pr=some (.lst (q.map V.str++[aa].map V.str)):=fK;generalize upd H pr (.lst (q.map V.str++[aa].map V.str))=H1 at*;walk_at "n";refine⟨.inl ⟨rfl,_,fU k1⟩,pr,_,_,rfl,rfl,k1,by rw[zh,zg,yg,zA,yC,Nat.zero_add,Nat.add_sub_cancel,zT (zj _),zzY];rfl,?_⟩;rw[zg,yg,zzK];have s2:Same H (upd H1 pr (.lst (q.map V.str))):=s1.upd ai;have k2:upd H1 pr (.lst (q.map V.str)) pr=some (.lst (q.map V.str)):=fK;generalize upd H1 pr (.lst (q.map V.str))=H2 at*;walk_at "n";refine⟨zV _,λpe ad=>?_⟩;have s3:=fM (o:=.lst []) ad;have k3:upd H2 pe (.lst []) pe=some (.lst []):=fK;have ae:H pe=none:=s2.free ad;have ap:pe≠pr:=λz=>by rw[z,k2]at ad;cases ad
  generalize upd H2 pe (.lst [])=H3 at*;walk_at "n";intro sd ab;have s4:=fM (o:=.dK []) ab;have k4:upd H3 sd (.dK []) sd=some (.dK []):=fK;have ag:H sd=none:=(s2.trans s3).free ab;have hsp':sd≠pr:=λz=>by rw[z,s3 _ _ k2]at ab;cases ab
  have af:sd≠pe:=λz=>by rw[z,k3]at ab;cases ab
  generalize upd H3 sd (.dK [])=H4 at*;have S4:Same H H4:=(s2.trans s3).trans s4
  try dsimp only
  rw[ap_seq,ap_for];walk_at "i";refine⟨⟨_,fU (s4 _ _ (s3 _ _ k2))⟩,?_⟩
  refine Kc.enum1 (K:=K) (a:=pr) (xs:=q.map V.str) (λi σ H5=>∃(v5 v6 v7:Option V)(es:EL)(kvs:List (Key×V)),σ=[some (.str z),some (.ref pr),some (.str aa),some (.ref pe),some (.ref sd),v5,v6,v7]/\Lr A H H5 q pr pe sd i es kvs)
   ⟨_,_,_,[],[],rfl,S4,s4 _ _ (s3 _ _ k2),s4 _ _ k3,(λr hr=>nomatch hr),.nil,.nil,k4,zj _,λ_=>⟨(λh=>nomatch h),(λh=>nomatch h)⟩⟩ (λi σ H5 _ ⟨_,_,_,_,_,_,L⟩=>fU L.r) ?_ ?_
  ·rintro i y σ H5 p hi ⟨v5,v6,v7,es,kvs,rfl,L⟩ hp
   obtain⟨t,ht,rfl⟩:=VN hi;have as:i<q.length:=(zr.mp ht).1;have L:=L.same (fM (o:=.tup [.int ((i+1:Nat):Int),.str t]) hp);have kp:upd H5 p (.tup [.int ((i+1:Nat):Int),.str t]) p=some (.tup [.int ((i+1:Nat):Int),.str t]):=fK;walk_at "i";refine⟨_,jg kp,rfl,_,_,rfl,_,_,rfl,rfl,?_⟩;generalize upd H5 p (.tup [.int ((i+1:Nat):Int),.str t])=H6 at*;have aj:((i+1:Nat):Int).natAbs<2^300:=z9 (show((i+1:Nat):Int).natAbs<=1000 by omega) (by decide);walk_at "n";refine⟨t,_,rfl,aj,hR t (za ht),λx e B H7 hT sB hM=>?_,λam d H7 s7 aq hd=>kE i (es.map (·.2)) d H7 (L.s.trans s7) (L.s.free aq) hd L.al L.u (.inl ⟨t,ht,.inl am⟩)⟩;have s7:Same H6 H7:=sB.trans hM.choose_spec.choose_spec.1.s;have hK:=hM.kept (sB _ _ L.e);have L:=L.same s7;have hC:=YL T e;obtain⟨dx,nv,hx,av,au⟩:=id hK;walk_at "n";refine⟨_,dx,_,hx,hC.c,hC.n,_,Du e nv,?_⟩;refine⟨_,Tv (k:=Sum.inl e.num) L.d,?_⟩;by_cases ac:(nW kvs (Sum.inl e.num)).isSome=true
   ·rw[zu ac]
    exact⟨aj,λd hd=>kE i (es.map (·.2)) d _ (L.s.trans (fM hd)) (L.s.free hd) fK L.al L.u (.inl ⟨t,ht,.inr ⟨e,hT,(L.dn _).mp ac⟩⟩)⟩
   rw[zo ac];have ao:e.num∉(es.map (·.2)).map Ent.num:=λh=>ac ((L.dn _).mpr h);walk_at "n";refine⟨_,dx,_,hx,hC.c,hC.n,_,Du e nv,?_⟩;have ak:∀r∈es,Kept A pe (upd H7 sd (.dK (putK kvs (Sum.inl e.num) (.bl true)))) r.1 r.2:=λr hr=>(L.kp r hr).putD L.d;have al:=hK.putD (u:=.dK (putK kvs (Sum.inl e.num) (.bl true))) L.d
   have ar:es.length=i:=by
    have:=zzF L.al;rw[zv,zb]at this;omega
   have aw:=L.dl;have k8:upd H7 sd (.dK (putK kvs (Sum.inl e.num) (.bl true))) pe=some (.lst (jz es)):=by rw[fY af.symm];exact L.e
   refine⟨_,VG (k:=Sum.inl e.num) L.d (by rw[zc];omega),?_⟩
   try walk_at "i"
   refine⟨.inl ⟨rfl,_,fU k8⟩,_,k8,by rw[nO,zc];omega,es++[(x,e)],putK kvs (Sum.inl e.num) (.bl true),?_⟩;refine⟨(L.s.upd ag).upd ae,?_,?_,?_,?_,?_,?_,?_,?_⟩
   ·rw[fY ap.symm,fY hsp'.symm];exact L.r
   ·rw[fK]
    unfold jz;rw[zk];rfl
   ·intro r hr
    rcases zx.mp hr with hr|hr
    ·exact(ak r hr).put k8
    ·cases zC.mp hr
     exact al.put k8
   ·rw[y4,ht,zk]
    exact Paired.snoc L.al hT
   ·rw[zk,zk]
    exact y6.mpr ⟨L.u,by simp,λa ha b ah z=>by
     rw[zg,yg,zg,yg,zC]at ah;exact ao (by rw[<-ah,<-z];exact ha)⟩
   ·rw[fY af]
    exact fK
   ·have:=Lx kvs (Sum.inl e.num:Key) (V.bl true)
    omega
   ·intro j
    rw[zk,zk,zx,xg,<-L.dn j];by_cases e1:e.num=j
    ·subst e1
     simp
    ·rw[zo (λz=>e1 (Sum.inl.inj z).symm)]
     exact⟨.inl,λh=>h.elim id λh=>absurd (zC.mp h).symm e1⟩
  ·rintro σ H5 ⟨v5,v6,v7,es,kvs,rfl,L⟩
   rw[zb]at L;have L':=L.al;rw[ya (zj _)]at L';walk_at "n";by_cases h0:aa=Str.ofString ""
   ·rw[zo (λc=>c h0)]
    try walk_at "i"
    exact k pe es H5 L.s ae L.e L.kp L' L.u h0
   ·rw[zu h0]
    refine⟨_,.inl (fU L.r),?_⟩;rw[zb];refine⟨z9 (show((q.length:Int)+1).natAbs<=1000 by omega) (by decide),λd hd=>?_⟩;exact kE q.length (es.map (·.2)) d _ (L.s.trans (fM hd)) (L.s.free hd) fK L.al L.u (.inr ⟨rfl,h0⟩)
local macro_rules | `(tactic| walk_at "l") => `(tactic| (rw [ap_seq]; walk_at "i"))
def at4{a b c d i:Int}{lo hi:Int}(h0:0<=i)(h1:i<4)(ha:Rg lo hi a)(q:Rg lo hi b)(z:Rg lo hi c)(hd:Rg lo hi d):∃v,atI [V.int a,V.int b,V.int c,V.int d] i=some (.int v)/\Rg lo hi v:=by
 have h:i=0\/i=1\/i=2\/i=3:=by omega
 rcases h with h|h|h|h<;>rw[h]
 ·exact⟨a,rfl,ha⟩
 ·exact⟨b,rfl,q⟩
 ·exact⟨c,rfl,z⟩
 ·exact⟨d,rfl,hd⟩
def at3{a b c i:Int}{lo hi:Int}(h0:0<=i)(h1:i<3)(ha:Rg lo hi a)(q:Rg lo hi b)(z:Rg lo hi c):∃v,atI [V.int a,V.int b,V.int c] i=some (.int v)/\Rg lo hi v:=by
 have h:i=0\/i=1\/i=2:=by omega
 rcases h with h|h|h<;>rw[h]
 ·exact⟨a,rfl,ha⟩
 ·exact⟨b,rfl,q⟩
 ·exact⟨c,rfl,z⟩
def uL{lo hi x m:Int}(hm:0<m)(z:lo<=0)(q:m - 1<=hi):Rg lo hi (x%m):=⟨by have:=zI x (show m≠0 by omega);omega,by have:=zy x hm;omega⟩
def Rb{ws:List Str}{i:Int}(z:0<=i)(h1:i<ws.length):∃w,atI (ws.map V.str) i=some (.str w)/\ws[i.toNat]? =some w:=by
 have q:i.toNat<ws.length:=by omega
 refine⟨ws[i.toNat],?_,zJ q⟩;have e:((i.toNat:Nat):Int)=i:=by omega
 have h:=jw (xs:=ws.map V.str) (j:=i.toNat) (v:=.str ws[i.toNat]) (by rw[zB,zJ q];rfl)
 rwa [e]at h
def WR{ws:List Str}(q:ws.Nodup){i j:Nat}{u v:Str}(hi:ws[i]? =some u)(z:ws[j]? =some v)(h:i≠j):u≠v:=λe=>by
 subst e;have h1:=(zr.mp hi);have h2:=(zr.mp z);exact h ((List.getElem_inj (xs:=ws) q (h₀:=h1.1) (h₁:=h2.1)).mp (h1.2.trans h2.2.symm))
def e9:(10:Int)^Int.toNat 9=1000000000:=by decide
def e6:(10:Int)^Int.toNat 6=1000000:=by decide
def Zd{r f:Int}(z:Rg 0 1000000000 r)(q:Rg 0 1000000000 f):Rg 0 1000000000000000000 (r*f):=by
 refine⟨Int.mul_nonneg z.1 q.1,?_⟩;have:=Int.mul_le_mul z.2 q.2 q.1 (by decide);omega
def Uh{a b L:Int}(a0:0<=a)(a1:a<L)(z:0<=b)(q:b<L - 1):(a+1+b)%L≠a:=by
 by_cases h:a+1+b<L
 ·rw[Int.emod_eq_of_lt (by omega) h];omega
 ·have e:(a+1+b)%L=(a+1+b - L)%L:=by
   have:=Int.add_emod_right (a+1+b - L) L;rw[Int.sub_add_cancel]at this;exact this
  rw[e,Int.emod_eq_of_lt (by omega) (by omega)];omega
def abz{J:It}{cap:List (Option Nat)}{g:TG}{te:TE}{σ:L2.St}{H:Hp}{Q:VK}(n:Nat)(Xs:Nat->V->Prop)(Sσ:L2.St->Prop)(F:Nat->V->Hp->Prop)(h0:Sσ (uM σ cap))(hz:n<=sizeLine)
  (ad:∀i q,i<n->Same H q->J.go i q/\∀y H',J.yld i q y H'->H'=q/\Xs i y) (af:∀q,Same H q->J.stop n q)
  (hs:∀D i x,i<n->Xs i x->∀(σ:L2.St)(q:Hp)(R:L2.St->VK),Sσ σ->Same H q->H D=none->(∃acc,q D=some (.lst acc))->(∀v σ4 H6,Sσ σ4->Same q H6->(∀H',But D H6 H'->F i v H')->R σ4 v H6)->g x σ q λσ4 H4=>te σ4 H4 (R σ4))
  (k:∀D H' acc,H D=none->Same H H'->H' D=some (.lst acc)->acc.length=n->(∀(i:Nat) v,acc[i]? =some v->F i v H')->Q (.ref D) H'):jP cap J g Df te σ H Q:=by
 intro D hD;refine⟨λi m acc σ H2=>m=n - i/\i<=n/\Sσ σ/\Same H H2/\acc.length=i/\∀(j:Nat) v,acc[j]? =some v->∀H',But D H2 H'->F j v H',⟨n,rfl,zV _,h0,fM hD,rfl,λj v e=>by simp at e⟩,?_⟩;rintro i m acc σ1 H2 ⟨rfl,hi,hσ,sm,ab,hF⟩ hA;by_cases aa:i<n
 ·obtain⟨g1,g2⟩:=ad i H2 aa sm
  refine .inr ⟨g1,λy H3 hy=>?_⟩;obtain⟨e3,hx⟩:=g2 y H3 hy;subst e3;simp only[ap_noIf,if_true];refine hs D i _ aa hx σ1 H3 _ hσ sm hD ⟨_,hA⟩ λv σ4 H6 ah s6 ag=>?_;have ae:=s6 _ _ hA;refine⟨acc,ae,by omega,n - (i+1),by omega,rfl,aa,ah,(sm.trans s6).upd hD,by rw[zh,ab];rfl,λj u hj H' hb=>?_⟩;have ac:But D H6 H':=λb o z e=>hb b o z ((fY z).trans e);by_cases ai:j<acc.length
  ·rw[zW ai]at hj
   exact hF j u hj H' λb o z e=>ac b o z (s6 _ _ e)
  ·rw[zT (by omega)]at hj
   have aj:j - acc.length=0:=by
    have:=(zr.mp hj).1;simp at this;omega
   rw[aj]at hj;cases hj;obtain rfl:j=i:=by omega
   exact ag H' ac
 ·obtain rfl:i=n:=by omega
  exact .inl ⟨af H2 sm,k D H2 acc hD sm hA ab λj v e=>hF j v e H2 λb o _ e=>e⟩
def abu{lo:Int}{cap:List (Option Nat)}{g:TG}{te:TE}{σ:L2.St}{H:Hp}{Q:VK}{n:Nat}(Sσ:L2.St->Prop)(F:Nat->V->Hp->Prop)(h0:Sσ (uM σ cap))(hz:n<=sizeLine)
  (hs:∀D i,i<n->∀(σ:L2.St)(z:Hp)(R:L2.St->VK),Sσ σ->Same H z->H D=none->(∃acc,z D=some (.lst acc))->(∀v q H6,Sσ q->Same z H6->(∀H',But D H6 H'->F i v H')->R q v H6)->g (.int (lo+i)) σ z λq H4=>te q H4 (R q))
  (k:∀D H' acc,H D=none->Same H H'->H' D=some (.lst acc)->acc.length=n->(∀(i:Nat) v,acc[i]? =some v->F i v H')->Q (.ref D) H'):jP cap (Itr lo n) g Df te σ H Q:=
 abz n (λi x=>x=.int (lo+i)) Sσ F h0 hz (λi z hi _=>⟨hi,λy H' hy=>⟨hy.1,hy.2⟩⟩) (λ_ _=>zj n) (λD i x hi hx=>by subst hx;exact hs D i hi) k
def wU{t u:TS}{D:Ends}{σ:L2.St}{H:Hp}(P:L2.St->Hp->Prop)(h1:∀q H',P q H'->u D q H')(h2:∀N:L2.St->Hp->Prop,(∀q H',P q H'->N q H')->t {D with nx:=N} σ H):Zv t u D σ H:=h2 _ h1
noncomputable def Qy(H:Hp)(Q:VK)(ns:List Int):Prop:=∀p H',Same H H'->H p=none->H' p=some (.lst (ns.map V.int))->Q (.ref p) H'
noncomputable def Ent.oth:Ent->Str
 |.part _ _ _ u _ _=>u
 |e=>e.ware
noncomputable def toI:V->Int
 |.int i=>i
 |_=>0
theorem Nf{α:Type}{f:α->α}:∀{l:List α},(∀x∈l,f x=x)->l.map f=l
 |[],_=>rfl
 |x::l,h=>by rw[zg,h x (.head _),Nf λy q=>h y (.tail _ q)]
noncomputable def Ent.rest:Ent->List V
 |.buy _ _ _ p r f=>[.int p,.int r,.int f]
 |.sell _ _ _ p r f _=>[.int p,.int r,.int f]
 |.gift _ _ _ p c s=>[.int p,.int c,.int s]
 |.give _ _ _ p _=>[.int p]
 |.split _ _ _ m f=>[.int m,.int f]
 |.part _ _ _ u s t=>[.str u,.int s,.int t]
noncomputable def PJ(r:Addr×Int×Int):Str:=gZ r.2.1++Str.ofString ":" ++gZ r.2.2
noncomputable def nwO:Option Rs->List Str
 |none=>[]
 |some rs=>rs.map PJ
noncomputable def Ent.ws(e:Ent):List V:=[.int e.day,.int e.num,.str e.word,.str e.ware]++e.rest++(nwO e.lots).map V.str
noncomputable def sV:V->Str
 |.int i=>gZ i
 |.str z=>z
 |_=>Str.empty
noncomputable def Pk(ws:List V):Str:=Txt.join (Str.ofString " ") (ws.map sV)++Str.ofString "\n"
noncomputable def vB(os:List Ent):Str:=os.foldl (λt e=>t++Pk e.ws) (Str.ofString "")
def kY(a b c:Str):a++b++c=a++(b++c):=by
 show Str.mk (a.cps++b.cps++c.cps)=Str.mk (a.cps++(b.cps++c.cps));rw[zzl]
def vz:(Str.ofString "").cps= #[]:=by decide+kernel
theorem Nq:∀(xs:List Str)(a:Array _),xs.foldl (λacc p=>acc++(Str.ofString "").cps++p.cps) a=(xs.foldl (fun(t:Str) x=>t++x) ⟨a⟩).cps
 |[],a=>rfl
 |x::xs,a=>by
  rw[yB,yB,Nq xs,vz,zz1];rfl
def wu(x:Str):Str.ofString "" ++x=x:=by
 show Str.mk ((Str.ofString "").cps++x.cps)=x;rw[vz,zzm]
def Nj(xs:List Str):Txt.join (Str.ofString "") xs=xs.foldl (λt x=>t++x) (Str.ofString ""):=by
 cases xs with
 |nil=>
  show Str.mk Str.empty.cps=Str.ofString "";have:(Str.ofString "").cps=Str.empty.cps:=by rw[vz];rfl
  rw[<-this]
 |cons x xs=>
  show Str.mk (xs.foldl (λacc p=>acc++(Str.ofString "").cps++p.cps) x.cps)=_;rw[Nq,yB,wu]
noncomputable def Bo(v:V):Prop:=(∃i:Int,v=.int i/\i.natAbs<2^300)\/∃z:Str,v=.str z/\z.length<=1000
def Wg{v:V}(h:Bo v):(sV v).length<=1000:=by
 rcases h with⟨i,rfl,hi⟩|⟨z,rfl,q⟩
 ·exact zQ (kJ hi) (by decide)
 ·exact q
theorem Dt:∀{ws:List V},(∀v∈ws,Bo v)->((ws.map sV).map (·.length)).sum<=1000*ws.length
 |[],_=>zV _
 |v::ws,h=>by
  have h1:=Wg (h v zi);have h2:=Dt λx q=>h x (zt _ q);rw[zg,zg,yP,zA];omega
def Rz{ws:List V}(h:∀v∈ws,Bo v):(Pk ws).length<=1001*ws.length+1:=by
 have h1:=Dt h;have h2:=StrLaws.join_length_le (Str.ofString " ") (ws.map sV);have z:(Str.ofString " ").length=1:=by decide+kernel
 have e2:(Str.ofString "\n").length=1:=by decide+kernel
 rw[zb,z]at h2
 have h3:(Txt.join (Str.ofString " ") (ws.map sV)).length<=((ws.map sV).map (·.length)).sum+ws.length*1:=by
  have q:Txt.join (Str.ofString " ") (ws.map sV)=Str.join (Str.ofString " ") (ws.map sV):=StrLaws.glued_eq_join _ _;rw[q];exact h2
 unfold Pk;rw[str_len,e2];omega
def jy{i:Int}(h:i.natAbs<=1000000000000000000):i.natAbs<2^300:=z9 h (by decide)
def jc{i:Int}(q:0<=i)(h1:i<=1000000000000000000):Bo (.int i):=.inl ⟨i,rfl,jy (by omega)⟩
def Ss{z:Str}(h:Nm z):Bo (.str z):=.inr ⟨z,rfl,zQ h.2.1 (by decide)⟩
def UL{p:Int}{rs:Rs}(h:Ce rs p)(hp:p<=1000000000){r:Addr×Int×Int}(q:r∈rs):(PJ r).length<=1000:=by
 obtain⟨b0,b1,z,b3⟩:=h.b r q;have h1:=kJ (jy (i:=r.2.1) (by omega));have h2:=kJ (jy (i:=r.2.2) (by omega));unfold PJ;rw[str_len,str_len];have e:(Str.ofString ":").length=1:=by decide+kernel
 omega
def RB{e:Ent}(h:e.good):∃p,p<=1000000000/\Kh p e.lots:=by
 cases e with
 |sell d n w p r f o=>exact⟨p,h.2.1.2,h.2.2.2.2⟩
 |give d n w p o=>exact⟨p,h.2.1.2,h.2.2⟩
 |_=>exact⟨0,by decide,trivial⟩
def PQ{e:Ent}(h:e.good):(∀v∈e.rest,Bo v)/\e.rest.length<=3:=by
 have key:∀{l:List V},(∀v∈l,Bo v)->∀{v:V},Bo v->∀x∈v::l,Bo x:=λhl _ hv x hx=>by
  rcases zp.mp hx with rfl|hx
  ·exact hv
  ·exact hl x hx
 have q:∀v∈([]:List V),Bo v:=λv hv=>(zw hv).elim
 cases e with
 |buy d n w p r f=>
  obtain⟨_,⟨a1,a2⟩,⟨b1,z⟩,c1,c2⟩:=h;exact⟨key (key (key q (jc (by omega) (by omega))) (jc (by omega) (by omega))) (jc (by omega) (by omega)),by simp[Ent.rest]⟩
 |sell d n w p r f o=>
  obtain⟨_,⟨a1,a2⟩,⟨b1,z⟩,⟨c1,c2⟩,_⟩:=h;exact⟨key (key (key q (jc (by omega) (by omega))) (jc (by omega) (by omega))) (jc (by omega) (by omega)),by simp[Ent.rest]⟩
 |gift d n w p c s=>
  obtain⟨b,⟨a1,a2⟩,⟨b1,z⟩,c1,c2⟩:=h;have:=b.d1;exact⟨key (key (key q (jc (by omega) (by omega))) (jc (by omega) (by omega))) (jc (by omega) (by omega)),by simp[Ent.rest]⟩
 |give d n w p o=>
  obtain⟨_,⟨a1,a2⟩,_⟩:=h;exact⟨key q (jc (by omega) (by omega)),by simp[Ent.rest]⟩
 |split d n w m f=>
  obtain⟨_,⟨a1,a2⟩,b1,z⟩:=h;exact⟨key (key q (jc (by omega) (by omega))) (jc (by omega) (by omega)),by simp[Ent.rest]⟩
 |part d n w u s t=>
  obtain⟨_,hu,_,⟨a1,a2⟩,b1,z⟩:=h;exact⟨key (key (key q (jc (by omega) (by omega))) (jc (by omega) (by omega))) (Ss hu),by simp[Ent.rest]⟩
def jG{e:Ent}(h:e.good):Base e.day e.num e.ware:=by cases e<;>exact h.1
def SX(e:Ent):Bo (.str e.word):=.inr ⟨_,rfl,by cases e<;>(simp only[Ent.word];decide+kernel)⟩
noncomputable def Ent.good5(e:Ent):Prop:=e.good/\∀rs,e.lots=some rs->rs.length<=5
def Wn{e:Ent}(h:e.good5):(∀z∈nwO e.lots,z.length<=1000)/\(nwO e.lots).length<=5:=by
 obtain⟨p,hp,ho⟩:=RB h.1
 cases e0:e.lots with
 |none=>exact⟨λz q=>(zw q).elim,zV _⟩
 |some rs=>
  rw[e0]at ho;refine⟨λz q=>?_,?_⟩
  ·obtain⟨r,hr,rfl⟩:=zO.mp q
   exact UL ho hp hr
  ·show(rs.map PJ).length<=5
   rw[zb];exact h.2 rs e0
def Xm{e:Ent}(h:e.good5):(∀v∈e.ws,Bo v)/\e.ws.length<=12:=by
 obtain⟨r1,r2⟩:=PQ h.1;obtain⟨n1,n2⟩:=Wn h;have b:=jG h.1;unfold Ent.ws;refine⟨λv q=>?_,?_⟩
 ·rcases zx.mp q with q|q
  ·rcases zx.mp q with q|q
   ·have h1:=b.d0;have h2:=b.d1;have h3:=b.n0;have h4:=b.n1
    simp only[zp,zw,or_false]at q;rcases q with rfl|rfl|rfl|rfl
    ·exact jc h1 (by omega)
    ·exact jc h3 (by omega)
    ·exact SX e
    ·exact Ss b.w
   ·exact r1 v q
  ·obtain⟨z,hz,rfl⟩:=zO.mp q
   exact .inr ⟨z,rfl,n1 z hz⟩
 ·rw[zh,zh,zb]
  show 4+_+_<=12;omega
def Vl{e:Ent}(h:e.good5):(Pk e.ws).length<=12013:=by
 obtain⟨h1,h2⟩:=Xm h;have:=Rz h1;have:1001*e.ws.length<=1001*12:=zzT _ h2;omega
theorem text_len:∀(os:List Ent),(∀e∈os,e.good5)->(os.map λe=>(Pk e.ws).length).sum<=12013*os.length
 |[],_=>zV _
 |e::os,h=>by
  have h1:=Vl (h e zi);have h2:=text_len os λx q=>h x (zt _ q);rw[zg,yP,zA];omega
noncomputable def Ent.nml:Ent->Bool
 |.sell ..=>true
 |.give ..=>true
 |_=>false
def Tp(e:Ent)(q:V):(e.nml=true/\e.args q=[.int e.day,.int e.num,.str e.ware]++e.rest++[q])\/(e.nml=false/\e.lots=none/\e.args q=[.int e.day,.int e.num,.str e.ware]++e.rest):=by
 cases e with
 |sell=>exact .inl ⟨rfl,rfl⟩
 |give=>exact .inl ⟨rfl,rfl⟩
 |_=>exact .inr ⟨rfl,rfl,rfl⟩
def Wi(e:Ent):inV (V.str e.word) [V.str (Str.ofString "sell"),V.str (Str.ofString "give")]=e.nml:=by
 cases e<;>(simp only[Ent.word,Ent.nml];decide+kernel)
noncomputable def lwV(H:Hp):V->V
 |.ref b=>match H b with
  |some (.tup [.int i,.int j])=> .str (gZ i++Str.ofString ":" ++gZ j)
  |_=> .non
 |_=> .non
def Wb{H:Hp}{r:Addr×Int×Int}(h:H r.1=some (.tup [.int r.2.1,.int r.2.2])):lwV H (.ref r.1)=.str (PJ r):=by
 unfold lwV;dsimp only;rw[h];rfl
theorem Wa{H:Hp}:∀{rs:Rs},Mh H rs->(refs rs).map (lwV H)=(rs.map PJ).map V.str
 |[],_=>rfl
 |r::rs,h=>by
  have h1:=Wb (h r zi);have h2:=Wa (rs:=rs) λx q=>h x (zt _ q);unfold refs at h2⊢;rw[zg,zg,zg,zg,h1,h2]
def Zc:∀ws:List V,(ws.filter λ_=>true).map (λv=>V.str (sV v))=(ws.map sV).map V.str:=λws=>by
 rw[List.filter_eq_self.mpr λ_ _=>rfl,zU];rfl
def Vk(xs ys:List V):uN (xs++ys) (some (xs.length:Int)) none=ys:=by rw[BP,List.drop_left]
def nH{i:Int}(h:0<=i):∀c∈(gZ i).cps.toList,48<=c/\c<=57:=by
 obtain⟨m,z⟩:=yS h;subst z;intro c q;unfold gZ at q;rw[y0]at q;obtain⟨ch,g2,e⟩:=zO.mp q;rw[<-e];exact digit_range (zzW (by decide) (by decide) g2)
noncomputable def jQ(z:Str):Prop:=32∉z.cps.toList/\10∉z.cps.toList
def nQ{i:Int}(h:0<=i):jQ (gZ i):=⟨λm=>by have:=nH h 32 m;omega,λm=>by have:=nH h 10 m;omega⟩
def Mp{z:Str}(h:Nm z):jQ z:=⟨λm=>by have:=h.2.2 32 m;omega,λm=>by have:=h.2.2 10 m;omega⟩
def xG{a b:Str}(ha:jQ a)(q:jQ b):jQ (a++b):=by
 have e:(a++b).cps.toList=a.cps.toList++b.cps.toList:=by
  show(a.cps++b.cps).toList=_;rw[zY]
 unfold jQ;rw[e];exact⟨λm=>(zx.mp m).elim ha.1 q.1,λm=>(zx.mp m).elim ha.2 q.2⟩
def KJ:jQ (Str.ofString ":"):=by unfold jQ;decide+kernel
def Pg(e:Ent):jQ e.word:=by
 unfold jQ;cases e<;>(simp only[Ent.word];decide+kernel)
def QT{rs:Rs}{p:Int}(h:Ce rs p){r:Addr×Int×Int}(z:r∈rs):jQ (PJ r):=by
 obtain⟨q,b1,b2,b3⟩:=h.b r z;exact xG (xG (nQ q) KJ) (nQ (by omega))
def Nx{e:Ent}(h:e.good):∀v∈e.rest,jQ (sV v):=by
 have key:∀{l:List V},(∀v∈l,jQ (sV v))->∀{v:V},jQ (sV v)->∀x∈v::l,jQ (sV x):=λhl _ hv x hx=>by
  rcases zp.mp hx with rfl|hx
  ·exact hv
  ·exact hl x hx
 have q:∀v∈([]:List V),jQ (sV v):=λv hv=>(zw hv).elim;have i:∀{n:Int},0<=n->jQ (sV (.int n)):=λh=>nQ h
 cases e with
 |buy d n w p r f=>
  obtain⟨_,⟨a1,a2⟩,⟨b1,z⟩,c1,c2⟩:=h;exact key (key (key q (i (by omega))) (i (by omega))) (i (by omega))
 |sell d n w p r f o=>
  obtain⟨_,⟨a1,a2⟩,⟨b1,z⟩,⟨c1,c2⟩,_⟩:=h;exact key (key (key q (i (by omega))) (i (by omega))) (i (by omega))
 |gift d n w p c s=>
  obtain⟨b,⟨a1,a2⟩,⟨b1,z⟩,c1,c2⟩:=h;exact key (key (key q (i (by omega))) (i (by omega))) (i (by omega))
 |give d n w p o=>
  obtain⟨_,⟨a1,a2⟩,_⟩:=h;exact key q (i (by omega))
 |split d n w m f=>
  obtain⟨_,⟨a1,a2⟩,b1,z⟩:=h;exact key (key q (i (by omega))) (i (by omega))
 |part d n w u s t=>
  obtain⟨_,hu,_,⟨a1,a2⟩,b1,z⟩:=h;exact key (key (key q (i (by omega))) (i (by omega))) (Mp hu)
def Ls{e:Ent}(h:e.good):∀z∈e.ws.map sV,jQ z:=λz hz=>by
 obtain⟨v,q,rfl⟩:=zO.mp hz;have b:=jG h;unfold Ent.ws at q;rcases zx.mp q with q|q
 ·rcases zx.mp q with q|q
  ·simp only[zp,zw,or_false]at q
   rcases q with rfl|rfl|rfl|rfl
   ·exact nQ b.d0
   ·exact nQ b.n0
   ·exact Pg e
   ·exact Mp b.w
  ·exact Nx h v q
 ·obtain⟨y,hy,rfl⟩:=zO.mp q
  obtain⟨p,_,ho⟩:=RB h;show jQ y
  cases e0:e.lots with
  |none=>rw[e0]at hy;exact(zw hy).elim
  |some rs=>
   rw[e0]at hy ho;obtain⟨r,hr,rfl⟩:=zO.mp hy;exact QT ho hr
noncomputable def gQ(e:Ent):Str:=Txt.join (Str.ofString " ") (e.ws.map sV)
def vH:Str.ofString " " =⟨#[32]⟩:=by decide+kernel
def wM:Str.ofString "\n" =⟨#[10]⟩:=by decide+kernel
theorem xW{c d:Nat}(z:c≠d):∀{ps:List Str},(∀p∈ps,c∉p.cps.toList)->c∉(Str.join ⟨#[d]⟩ ps).cps.toList
 |[],_=>λm=>(zw (show c∈([]:List Nat)from m)).elim
 |[p],h=>h p zi
 |p::q::r,h=>by
  rw[xP];intro m;rcases zx.mp m with m|m
  ·exact h p zi m
  ·rcases zp.mp m with m|m
   ·exact z m
   ·exact xW z (ps:=q::r) (λx hx=>h x (zt _ hx)) m
def RZ{e:Ent}(h:e.good):10∉(gQ e).cps.toList:=by
 unfold gQ;rw[vH,show Txt.join ⟨#[32]⟩ (e.ws.map sV)=Str.join ⟨#[32]⟩ (e.ws.map sV)from StrLaws.glued_eq_join _ _];exact xW (by decide) λp q=>(Ls h p q).2
theorem HJ:∀os:List Ent,(os.map λe=>Pk e.ws).foldr (λx t=>x++t) (Str.ofString "")=Str.join (Str.ofString "\n") (os.map gQ++[Str.ofString ""])
 |[]=>rfl
 |[e]=>by
  show Pk e.ws++Str.ofString "" =gQ e++Str.ofString "\n" ++Str.ofString "";rfl
 |e::f::os=>by
  have q:=HJ (f::os);rw[zg,zzO,q];show Pk e.ws++Str.join (Str.ofString "\n") (gQ f::(os.map gQ++[Str.ofString ""]))=gQ e++Str.ofString "\n" ++Str.join (Str.ofString "\n") (gQ f::(os.map gQ++[Str.ofString ""]));rfl
theorem Gy:∀(xs:List Str)(t:Str),xs.foldl (λt x=>t++x) t=t++xs.foldr (λx t=>x++t) (Str.ofString "")
 |[],t=>by
  show t=t++Str.ofString ""
  have:(t++Str.ofString "").cps=t.cps:=by
   show t.cps++(Str.ofString "").cps=_;rw[vz,zz1]
  exact(Str.ext' this).symm
 |x::xs,t=>by
  rw[yB,Gy xs,zzO,kY]
def Em{os:List Ent}(h:∀e∈os,e.good):Txt.split (vB os) (Str.ofString "\n")=os.map gQ++[Str.ofString ""]:=by
 have e1:vB os=Txt.join ⟨#[10]⟩ (os.map gQ++[Str.ofString ""]):=by
  have e2:vB os=(os.map λe=>Pk e.ws).foldl (λt x=>t++x) (Str.ofString ""):=by
   unfold vB;rw[List.foldl_map]
  rw[e2,Gy,wu,HJ,wM];exact(StrLaws.glued_eq_join _ _).symm
 rw[e1,wM];refine split_join (by simp) λp q=>?_;rcases zx.mp q with q|q
 ·obtain⟨e,z,rfl⟩:=zO.mp q
  exact RZ (h e z)
 ·rw[zC.mp q,vz]
  simp
noncomputable def ToldN(H:Hp)(tl:EL):Prop:=∀r∈tl,Hj H r.1 r.2/\r.2.good5
theorem ToldN.same{H H':Hp}{tl:EL}(h:ToldN H tl)(s:Same H H'):ToldN H' tl:=λr q=>⟨(h r q).1.same s,(h r q).2⟩
theorem Dc{α β:Type}{F:α->β->Prop}:∀{l:List α}{m:List β},Paired F l m->∀i,Paired F (l.take i) (m.take i)
 |_,_,.nil,i=>by rw[List.take_nil,List.take_nil];exact .nil
 |_,_,.cons h t,0=> .nil
 |_,_,.cons h t,i+1=>by rw[zzR,zzR];exact .cons h (Dc t i)
theorem Hv{α β:Type}{F:α->β->Prop}:∀{l:List α}{m:List β},Paired F l m->∀{i:Nat}{x:α},l[i]? =some x->∃y,m[i]? =some y/\F x y
 |_,_,.nil,i,x,h=>by cases h
 |_,_,.cons h t,0,x,e=>by cases zf e;exact⟨_,rfl,h⟩
 |_,_,.cons h t,i+1,x,e=>Hv t (i:=i) e
def Vr{e:Ent}{q:V}:(e.args q)[1]? =some (.int e.num):=by cases e<;>rfl
def Cp{ws:List Str}{e:Ent}(h:iZ ws e):∃w,ws[1]? =some w/\val w=.int e.num:=by
 obtain⟨q,⟨hk,_,hl,_⟩,hi,⟨nl,ha⟩,_,_⟩:=h;have h4:=(jd hk).2.2.1;have h1:(uY ws q.m++(if q.lot then[nl]else[]))[1]? =some (.int e.num):=by rw[ha];exact Vr
 have z:ws[1]? =some ws[1]:=zJ (by omega);refine⟨ws[1],z,?_⟩;unfold uY at h1;rw[zW (by rw[zb,zh,zv];omega),zB,zW (by rw[zv];omega),yk (by decide),z]at h1;exact zf h1
def Bf{ws:List Str}{e z:Ent}(h:iZ ws e)(h':iZ ws z):e.num=z.num:=by
 obtain⟨w,e1,e2⟩:=Cp h;obtain⟨w',q,e4⟩:=Cp h';rw[e1]at q;cases zf q;rw[e2]at e4;injection e4
theorem Ja:∀{rows:List Str}{es es':List Ent},Hi rows es->Hi rows es'->es.map Ent.num=es'.map Ent.num
 |_,_,_,.nil,.nil=>rfl
 |_,_,_,.cons h t,.cons h' t'=>by rw[zg,zg,Bf h h',Ja t t']
def Rn{q:List Str}{ac:Str}{i j:Nat}{es aa:List Ent}(h0:Hi (q.take j) aa)(hu:(aa.map Ent.num).Nodup)(ab:i<j)(hj:j<=q.length)(h:Hi (q.take i) es)(hb:Hw q ac i (es.map Ent.num)):False:=by
 rcases hb with⟨z,hz,hb⟩|⟨e,_⟩
 ·have hz':(q.take j)[i]? =some z:=by rw[yk ab];exact hz
  obtain⟨e0,ad,ht⟩:=Hv h0 hz';rcases hb with hb|⟨e,he,hm⟩
  ·exact hb e0 ht
  ·have h1:=Dc h0 i
   rw[List.take_take,yyf (zzV ab)]at h1;have hn:=Ja h h1;rw[hn,Bf he ht]at hm;have h2:aa.map Ent.num=(aa.take i).map Ent.num++(aa.drop i).map Ent.num:=by rw[<-zk,List.take_append_drop]
   rw[h2]at hu;exact(y6.mp hu).2.2 _ hm e0.num (zO.mpr ⟨e0,by rw[List.mem_iff_getElem?];exact⟨0,by rw[zz3];exact ad⟩,rfl⟩) rfl
 ·omega
def Wx{q:List Str}{aa:Str}{i:Nat}{ns:List Int}(h:Hw q aa i ns):i<=q.length:=by
 rcases h with⟨z,hz,_⟩|⟨e,_⟩
 ·exact zzV (zr.mp hz).1
 ·omega
def Uc{q:List Str}{z:Str}{i j:Nat}{es aa:List Ent}(h:Hi (q.take i) es)(hu:(es.map Ent.num).Nodup)(hb:Hw q z i (es.map Ent.num))(h0:Hi (q.take j) aa)(ac:(aa.map Ent.num).Nodup)(ab:Hw q z j (aa.map Ent.num)):i=j:=by
 rcases Nat.lt_trichotomy i j with hl|e|hl
 ·exact(Rn h0 ac hl (Wx ab) h hb).elim
 ·exact e
 ·exact(Rn h hu hl (Wx hb) h0 ab).elim
def MP{q:List Str}{aa:Str}{j:Nat}{es ac:List Ent}(h:Hi q es)(hu:(es.map Ent.num).Nodup)(hl:aa=Str.ofString "") (h0:Hi (q.take j) ac) (ab:Hw q aa j (ac.map Ent.num)):False:=by
 rcases Nat.lt_or_ge j q.length with hj|hj
 ·exact Rn (j:=q.length) (by rw[zzB];exact h) hu hj (zj _) h0 ab
 ·rcases ab with⟨z,hz,_⟩|⟨_,hn⟩
  ·have:=(zr.mp hz).1
   omega
  ·exact hn hl
noncomputable def rfL(i:Nat):List V:=[.int ((i+1:Nat):Int),.bl true,.bl true,.bl false]
structure Ref(z:Str)(i:Nat):Prop where
 ex:∃rows last es,z.length<=1000000/\Txt.split z (Str.ofString "\n")=rows++[last]/\rows.length<=100/\(∀r∈rows,YF r)/\Hi (rows.take i) es/\(es.map Ent.num).Nodup/\Hw rows last i (es.map Ent.num)
noncomputable def Dv:Sp:=λvs H Q _=>∃(z:Str)(i:Nat),vs=[.str z]/\Ref z i/\∀p H',Same H H'->H p=none->H' p=some (.lst (rfL i))->Q (.ref p) H'
def jq(T:Txt w K mg A D):jn P w K mg base CX0 10 A.ph D.ph ["_law_text_here"] Dv:=by
 refine T.qV.F.okv jr λ_ _ _ _ H vs Q E hr h=>?_
 ·obtain⟨z,j,rfl,hR,k⟩:=h
  obtain⟨af,ac,ap,hz,al,hl,ao,h0,ah,ag⟩:=hR.ex
  refine ⟨_,(fJ (gm (i:=1) jr.nd rfl orl (ig fO))
   (fJ (Ye (i:=2) (Ly (uZ (K:=K) T) (hr.mono (by decide)) (by rfl) T.qM.m T.qM.k (vR T) .nil (pav 0 fO)) T.sL (by rfl) T.rY rfl rfl jr.nd rfl rfl (λea=>(fJ (gm (i:=3) jr.nd rfl orl (gG (Ow (K:=K)) (by rfl) T.rA (by decide+kernel) (pav 2 (fH (jJ (fH (gP (v:=V.ref A.pT) (by rfl) T.rZ rfl) (fH (gP (v:=V.ref A.pJ) (by rfl) T.rO rfl) (fH (gP (v:=V.ref A.pU) (by rfl) T.r6 rfl) (fH (gP (v:=V.ref A.pV) (by rfl) T.r9 rfl) (fH (gP (v:=V.ref A.pW) (by rfl) T.se rfl) (fH (gP (v:=V.ref A.pX) (by rfl) T.sf rfl) (fH (gP (v:=V.ref A.pY) (by rfl) T.sg rfl) (fH (gP (v:=V.ref A.pZ) (by rfl) T.sh rfl) (fH (gP (v:=V.ref A.qa) (by rfl) T.sj rfl) fO)))))))))) fO))))
    (fQ (gm (i:=1) jr.nd rfl orl (ig (fH (Us (K:=K) (pvD 2) rfl) (fH (gG (JH (K:=K)) (by rfl) T.rA (by decide+kernel) (pav 2 (fH (gP (v:=V.ref A.pR) (by rfl) T.rX rfl) fO))) (fH (gG (JH (K:=K)) (by rfl) T.rA (by decide+kernel) (pav 2 (fH (QX "ValueError" (by rfl) T.rN (by decide+kernel)) fO))) (pav 3 fO))))))))))
   (fQ (gn (pvD 1))))),?_⟩
  simp only[start_eq];walk_at "n";refine⟨sz,λp0 ak=>?_⟩;walk_at "n";refine⟨z,af,ac,rfl,hz,al,hl,ao,λp es H1 s1 _ _ _ h hu aj=>(MP h hu aj h0 ag).elim,λi es d H1 s1 aq aa h hu hb=>⟨rfl,d,rfl,λea ae=>?_⟩⟩;have e:=Uc h hu hb h0 ah ag;subst e;have am:d≠ea:=λe=>by rw[e,ae]at aa;cases aa
  have S1:=(fM (o:=.lst []) ak).trans (s1.trans (fM (o:=Fp A.pS ea d) ae));have he:(upd H1 ea (Fp A.pS ea d)) ea=some (Fp A.pS ea d):=fK;have ab:(upd H1 ea (Fp A.pS ea d)) d=some (.xd [("row",.int ((i+1:Nat):Int))]):=(fY am).trans aa;generalize upd H1 ea (Fp A.pS ea d)=H2 at S1 he ab;walk_at "n";refine⟨sz,λp3 an=>?_⟩;have s3:=fM (o:=.tup [V.ref A.pT,V.ref A.pJ,V.ref A.pU,V.ref A.pV,V.ref A.pW,V.ref A.pX,V.ref A.pY,V.ref A.pZ,V.ref A.qa]) an;have t3:(upd H2 p3 (.tup [V.ref A.pT,V.ref A.pJ,V.ref A.pU,V.ref A.pV,V.ref A.pW,V.ref A.pX,V.ref A.pY,V.ref A.pZ,V.ref A.qa])) p3=some (.tup ([A.pT,A.pJ,A.pU,A.pV,A.pW,A.pX,A.pY,A.pZ,A.qa].map V.ref)):=fK;generalize upd H2 p3 (.tup [V.ref A.pT,V.ref A.pJ,V.ref A.pU,V.ref A.pV,V.ref A.pW,V.ref A.pX,V.ref A.pY,V.ref A.pZ,V.ref A.qa])=H3 at s3 t3;have q:=s3 _ _ he;have ai:=s3 _ _ ab;refine⟨_,⟨_,q⟩,⟨_,T.sL⟩,T.sM,_,t3,false,T.kx3,?_⟩
  try walk_at "i"
  refine⟨_,_,_,.inr q,T.sL,T.sM,T.sN,_,ai,((i+1:Nat):Int),by rfl,_,⟨_,q⟩,⟨_,T.sL⟩,T.sM,true,.inl T.kx1,_,⟨_,q⟩,⟨_,T.sL⟩,T.sM,true,.inr T.kx2,sz,λp2 ad=>?_⟩
  try walk_at "i"
  exact k p2 _ ((S1.trans s3).trans (fM ad)) ((S1.trans s3).free ad) fK
def Xa:∀m:Nat,0<m->(Nat.toDigits 10 m).head? ≠some '0':=λm=>by
 induction m using Nat.strongRecOn with
 |_ m ih=>
  intro q;by_cases h:m<10
  ·rw[Nat.toDigits_of_lt_base h]
   have key:∀d:Fin 10,0<d.val->[Nat.digitChar d.val].head? ≠some '0':=by decide
   exact key ⟨m,h⟩ q
  ·rw[Nat.toDigits_of_base_le (by decide) (by omega),List.head?_append]
   have h1:=ih (m/10) (by omega) (by omega)
   cases e:(Nat.toDigits 10 (m/10)).head? with
   |none=>exact(Nat.toDigits_ne_nil (List.head?_eq_none_iff.mp e)).elim
   |some c=>
    rw[e]at h1;exact h1
def Xe{c:Char}(h:c.toNat=48):c='0':=Char.ext (UInt32.toNat_inj.mp h)
def Tz{i:Int}(h:0<=i)(q:Txt.startswith (gZ i) (Str.ofString "0")=true):gZ i=Str.ofString "0" :=by
 obtain⟨m,em⟩:=yS h;subst em;rw[Nt]at q;have h1:=Ck.mp q;unfold gZ at h1;rw[y0,zB]at h1
 cases e:(Nat.toDigits 10 m)[0]? with
 |none=>rw[e]at h1;cases h1
 |some c=>
  rw[e]at h1;have hc:c='0':=Xe (zf h1);by_cases z:0<m
  ·exact(Xa m z (by rw[List.head?_eq_getElem?,e,hc])).elim
  ·have:m=0:=by omega
   subst this;decide+kernel
def Qp{i:Int}(q:0<=i)(h1:i<=1000000000000000000):1<=(gZ i).length/\(gZ i).length<=19:=by
 obtain⟨m,z⟩:=yS q;subst z
 have e:(gZ ((m:Nat):Int)).length=(Nat.toDigits 10 m).length:=by
  show(gZ ((m:Nat):Int)).cps.size=_;rw[<-z7];unfold gZ;rw[y0,zb]
 rw[e];exact⟨Nat.length_toDigits_pos,(zz4 (by decide) (by decide)).mpr (by omega)⟩
def Ti{i:Int}(h0:0<=i)(h1:i<=1000000000000000000):nD (gZ i)=true:=by
 obtain⟨l1,l2⟩:=Qp h0 h1;unfold nD;rw[zG,zG,zG,decide_eq_true_iff,decide_eq_true_iff,yG];refine⟨⟨⟨λz=>?_,l2⟩,?_⟩,λc hc=>?_⟩
 ·rw[z]at l1
  exact absurd l1 (by decide+kernel)
 ·by_cases q:Txt.startswith (gZ i) (Str.ofString "0")=true
  ·rw[zF (λc=>c (Tz h0 q)),zzb]
   rfl
  ·rw[yyd]at q
   rw[q];rfl
 ·have:=nH h0 c hc
  rw[zG,decide_eq_true_iff,decide_eq_true_iff];exact this
def jl{i:Int}(q:0<=i)(h1:i<=1000000000000000000):val (gZ i)=.int i:=by
 unfold val;rw[zu (Ti q h1),L2.num_text q (jy (by omega))];rfl
def Ld{z:Str}{c:Nat}(q:c∈z.cps.toList)(h:c<48\/57<c):val z=.str z:=by
 refine GJ λhn=>?_;unfold nD at hn;rw[zG,yG]at hn;have:=hn.2 c q;rw[zG,decide_eq_true_iff,decide_eq_true_iff]at this;omega
def VL{z:Str}(h:Nm z):val z=.str z:=by
 obtain ⟨c,q⟩:∃c,c∈z.cps.toList:=by
  cases e:z.cps.toList with
  |nil=>
   have h1:=h.1;have:z.length=0:=by show z.cps.size=0;rw[<-z7,e];rfl
   omega
  |cons c l=>exact⟨c,zi⟩
 have:=h.2.2 c q;exact Ld q (by omega)
def Ot:Str.ofString ":" =⟨#[58]⟩:=by decide+kernel
def Uw{r:Addr×Int×Int}(q:0<=r.2.1)(h1:r.2.1<=1000000)(h2:0<=r.2.2)(z:r.2.2<=1000000000):DX (PJ r)=(.int r.2.1,.int r.2.2):=by
 have e:Ao (PJ r)=(gZ r.2.1,Str.ofString ":",gZ r.2.2):=by
  unfold Ao PJ;rw[Ot];exact L2.part_at λm=>by have:=nH q 58 m;omega
 unfold DX;rw[e];show(val (gZ r.2.1),val (gZ r.2.2))=_;rw[jl q (by omega),jl h2 (by omega)]
def Jh{o:Option Rs}{p:Int}(q:Kh p o)(hp:1<=p)(aa:p<=1000000000):Rh (nwO o) (wO o):=by
 cases o with
 |none=>rfl
 |some rs=>
  have q:Ce rs p:=q;refine⟨λz=>?_,?_⟩
  ·have:rs=[]:=List.map_eq_nil_iff.mp z
   have hs:=q.s;rw[this]at hs;have:(0:Int)=p:=hs;omega
  ·show(rs.map wR).map (·.2)=(rs.map PJ).map DX
   rw[zU,zU];refine zzS λr hr=>?_;obtain⟨b0,b1,b2,b3⟩:=q.b r hr;show(V.int r.2.1,V.int r.2.2)=DX (PJ r);rw[Uw b0 b1 (by omega) (by omega)]
noncomputable def wsE(e:Ent):List Str:=e.ws.map sV
def xF(e:Ent):wsE e=[gZ e.day,gZ e.num,e.word,e.ware]++e.rest.map sV++nwO e.lots:=by
 unfold wsE Ent.ws;rw[zk,zk,zU];show _++_++(nwO e.lots).map id=_;rw[List.map_id];rfl
def wK{e:Ent}(h:e.good):iZ (wsE e) e:=by
 have b:=jG h;have d0:=b.d0;have d1:=b.d1;have n0:=b.n0;have n1:=b.n1
 have vd:=jl d0 (by omega);have vn:=jl n0 (by omega);have vw:=VL b.w
 cases e with
 |buy d n w p r f=>
  obtain⟨_,⟨a1,a2⟩,⟨q,b2⟩,c1,c2⟩:=id h;refine⟨⟨"buy",6,vV,false⟩,⟨by simp[kinds],rfl,zj _,λ_=>rfl⟩,rfl,⟨.non,?_⟩,rfl,h⟩;show[val (gZ d),val (gZ n),val w,val (gZ p),val (gZ r),val (gZ f)]++[]=[V.int d,.int n,.str w,.int p,.int r,.int f];rw[show val (gZ d)=_ from vd,show val (gZ n)=_ from vn,show val w=_ from vw,jl (i:=p) (by omega) (by omega),jl (i:=r) q (by omega),jl (i:=f) c1 (by omega)];rfl
 |sell d n w p r f o=>
  obtain⟨_,⟨a1,a2⟩,⟨q,b2⟩,⟨c1,c2⟩,go⟩:=id h;refine⟨⟨"sell",6,mV,true⟩,⟨by simp[kinds],rfl,?_,λz=>nomatch z⟩,rfl,⟨.non,?_⟩,?_,h⟩
  ·rw[xF,zh]
   exact zzC 7 _
  ·show[val (gZ d),val (gZ n),val w,val (gZ p),val (gZ r),val (gZ f)]++[V.non]=[V.int d,.int n,.str w,.int p,.int r,.int f,.non]
   rw[show val (gZ d)=_ from vd,show val (gZ n)=_ from vn,show val w=_ from vw,jl (i:=p) (by omega) (by omega),jl (i:=r) q (by omega),jl (i:=f) c1 (by omega)];rfl
  ·rw[xF]
   exact Jh go a1 a2
 |gift d n w p c s=>
  obtain⟨_,⟨a1,a2⟩,⟨q,b2⟩,c1,c2⟩:=id h;have d1:d<=1000000:=d1;refine⟨⟨"gift",6,nY,false⟩,⟨by simp[kinds],rfl,zj _,λ_=>rfl⟩,rfl,⟨.non,?_⟩,rfl,h⟩;show[val (gZ d),val (gZ n),val w,val (gZ p),val (gZ c),val (gZ s)]++[]=[V.int d,.int n,.str w,.int p,.int c,.int s];rw[show val (gZ d)=_ from vd,show val (gZ n)=_ from vn,show val w=_ from vw,jl (i:=p) (by omega) (by omega),jl (i:=c) q (by omega),jl (i:=s) c1 (by omega)];rfl
 |give d n w p o=>
  obtain⟨_,⟨a1,a2⟩,go⟩:=id h;refine⟨⟨"give",4,lX,true⟩,⟨by simp[kinds],rfl,?_,λz=>nomatch z⟩,rfl,⟨.non,?_⟩,?_,h⟩
  ·rw[xF,zh]
   exact zzC 5 _
  ·show[val (gZ d),val (gZ n),val w,val (gZ p)]++[V.non]=[V.int d,.int n,.str w,.int p,.non]
   rw[show val (gZ d)=_ from vd,show val (gZ n)=_ from vn,show val w=_ from vw,jl (i:=p) (by omega) (by omega)];rfl
  ·rw[xF]
   exact Jh go a1 a2
 |split d n w m f=>
  obtain⟨_,⟨a1,a2⟩,q,b2⟩:=id h;refine⟨⟨"split",5,lD,false⟩,⟨by simp[kinds],rfl,zj _,λ_=>rfl⟩,rfl,⟨.non,?_⟩,rfl,h⟩;show[val (gZ d),val (gZ n),val w,val (gZ m),val (gZ f)]++[]=[V.int d,.int n,.str w,.int m,.int f];rw[show val (gZ d)=_ from vd,show val (gZ n)=_ from vn,show val w=_ from vw,jl (i:=m) (by omega) (by omega),jl (i:=f) (by omega) (by omega)];rfl
 |part d n w u s t=>
  obtain⟨_,hu,_,⟨a1,a2⟩,q,b2⟩:=id h;refine⟨⟨"part",6,mY,false⟩,⟨by simp[kinds],rfl,zj _,λ_=>rfl⟩,rfl,⟨.non,?_⟩,rfl,h⟩;show[val (gZ d),val (gZ n),val w,val u,val (gZ s),val (gZ t)]++[]=[V.int d,.int n,.str w,.str u,.int s,.int t];rw[show val (gZ d)=_ from vd,show val (gZ n)=_ from vn,show val w=_ from vw,VL hu,jl (i:=s) q (by omega),jl (i:=t) (by omega) (by omega)];rfl
structure Wds(ws:List Str):Prop where
 n:ws≠[]
 c:∀w∈ws,jQ w
 l:ws.length<=14
 s:∀w∈ws,w.length<=1000
abbrev ju(ws:List Str):Str:=Txt.join (Str.ofString " ") ws
def Qt{ws:List Str}(h:∀w∈ws,w.length<=1000):(ws.map (·.length)).sum<=1000*ws.length:=by
 induction ws with
 |nil=>exact zV _
 |cons w ws ih=>
  have h1:=h w zi;have h2:=ih λx q=>h x (zt _ q);rw[zg,yP,zA];omega
def Wds.words{ws:List Str}(h:Wds ws):jT (ju ws)=ws:=by
 unfold jT ju;rw[vH];exact L2.split_join h.n λp q=>(h.c p q).1
def Wds.row{ws:List Str}(h:Wds ws):YF (ju ws):=by
 refine⟨?_,?_,?_⟩
 ·have h1:=Qt h.s
  have h2:=StrLaws.join_length_le (Str.ofString " ") ws;have e1:(Str.ofString " ").length=1:=by decide+kernel
  have z:ju ws=Str.join (Str.ofString " ") ws:=StrLaws.glued_eq_join _ _;have hl:=h.l;rw[e1]at h2;rw[z];omega
 ·rw[h.words];have:=h.l;omega
 ·rw[h.words];exact λu q=>zQ (h.s u q) (by decide)
def Wds.line{ws:List Str}(h:Wds ws):10∉(ju ws).cps.toList:=by
 unfold ju;rw[vH,show Txt.join ⟨#[32]⟩ ws=Str.join ⟨#[32]⟩ ws from StrLaws.glued_eq_join _ _];exact xW (by decide) λp q=>(h.c p q).2
def vD{e:Ent}(h:e.good5):Wds (wsE e)/\5<=(wsE e).length/\(wsE e).length<=12:=by
 obtain⟨w1,w2⟩:=Xm h;have hl:(wsE e).length=e.ws.length:=zb ..
 have q:5<=(wsE e).length:=by
  rw[xF];cases e<;>(simp[Ent.rest];try omega)
 refine⟨⟨λz=>by rw[z]at q;exact absurd q (by decide),Ls h.1,by omega,λw hw=>?_⟩,q,by omega⟩;obtain⟨v,hv,rfl⟩:=zO.mp hw;exact Wg (w1 v hv)
structure Dk(z:Str):Prop where
 t:∀e,¬iZ (jT z) e
 r:YF z
 f:10∉z.cps.toList
 s:z.length<=20000
def Wds.len{ws:List Str}(h:Wds ws):(ju ws).length<=20000:=by
 have h1:=Qt h.s;have h2:=StrLaws.join_length_le (Str.ofString " ") ws;have z:(Str.ofString " ").length=1:=by decide+kernel
 have q:ju ws=Str.join (Str.ofString " ") ws:=StrLaws.glued_eq_join _ _;have hl:=h.l;rw[z]at h2;rw[q];omega
def Wds.no{ws:List Str}(h:Wds ws)(q:∀e,¬iZ ws e):Dk (ju ws):=⟨by rw[h.words];exact q,h.row,h.line,h.len⟩
def Ri{q:Kd}(h:q∈kinds):∃c∈q.wd.cps.toList,57<c:=by
 simp only[kinds,zp,zw,or_false]at h;rcases h with rfl|rfl|rfl|rfl|rfl|rfl<;>decide+kernel
def SQ{ws:List Str}(h:∀q∈kinds,ws[2]? ≠some q.wd)(e:Ent):¬iZ ws e:=fun⟨q,z,_⟩=>h q z.1 z.2.1
def Wk{ws:List Str}{i:Int}(h0:0<=i)(h:ws[2]? =some (gZ i)):∀e,¬iZ ws e:=SQ λkd hk z=>by
 obtain⟨c,q,aa⟩:=Ri hk;rw[h]at z;rw[<-zf z]at q;have:=nH h0 c q;omega
def BR{ws:List Str}(h:ws.length<=4)(e:Ent):¬iZ ws e:=fun⟨z,q,_⟩=>by
 have h1:=(jd q.1).2.2.1;have h2:=q.2.2.1;omega
def Ql{e:Ent}{q:V}:(e.args q)[2]? =some (.str e.ware):=by cases e<;>rfl
def Og{ws:List Str}{e:Ent}(h:iZ ws e):∃w,ws[3]? =some w/\val w=.str e.ware/\Nm e.ware:=by
 obtain⟨q,⟨hk,_,hl,_⟩,hi,⟨nl,ha⟩,_,hg⟩:=h;have h4:=(jd hk).2.2.1;have h1:(uY ws q.m++(if q.lot then[nl]else[]))[2]? =some (.str e.ware):=by rw[ha];exact Ql
 have z:ws[3]? =some ws[3]:=zJ (by omega);refine⟨ws[3],z,?_,(jG hg).w⟩;unfold uY at h1;have e2:(ws.take 2).length=2:=by rw[zv];omega
 rw[zW (by rw[zb,zh,e2,zv,yf];omega),zB,zT (by omega),e2,yk (by omega),zz3,z]at h1;exact zf h1
def Rf{ws:List Str}{z:Str}(h:ws[3]? =some z)(hv:val z=.str z)(hn:¬Nm z)(e:Ent):¬iZ ws e:=λht=>by
 obtain⟨w,e1,e2,q⟩:=Og ht;rw[h]at e1;rw[<-zf e1,hv]at e2;injection e2 with e2
 rw[<-e2]at q;exact hn q
def ZW{ws:List Str}{z:Str}(h:ws[1]? =some z)(q:val z=.str z\/val z=.int 1000001)(e:Ent):¬iZ ws e:=λht=>by
 obtain⟨w,e1,e2⟩:=Cp ht;obtain⟨kd,_,_,_,_,hg⟩:=ht;rw[h]at e1;rw[<-zf e1]at e2;rcases q with q|q
 ·rw[q]at e2;cases e2
 ·rw[q]at e2
  injection e2 with e2
  have:=(jG hg).n1;omega
def Rc{ws:List Str}{e0:Ent}{x:Str}(h0:iZ ws e0)(hx:∀i:Int,(DX x).1≠.int i)(e:Ent):¬iZ (ws++[x]) e:=fun⟨kd,⟨hk,h2,hl,hn⟩,_,_,hL,_⟩=>by
 obtain⟨q,⟨z,ad,ac,ab⟩,_⟩:=h0;have h4:=(jd z).2.2.1;rw[zW (by omega),ad]at h2;have ek:q=kd:=nR z hk (zf h2);subst ek;rw[zh,zM]at hl hn
 cases aa:q.lot with
 |false=>
  have:=hn aa;have:=ab aa;omega
 |true=>
  rw[List.drop_append_of_le_length ac]at hL;generalize e.lots=ol at hL
  cases ol with
  |none=>exact absurd (show ws.drop (q.m+1)++[x]=[]from hL) (by simp)
  |some rs=>
   have hm:DX x∈(rs.map wR).map (·.2):=by rw[hL.2,zk];exact zL _ zi
   rw[zU]at hm;obtain⟨r,_,er⟩:=zO.mp hm;exact hx r.2.1 (by rw[<-er];rfl)
def Xn{ws:List Str}{e0:Ent}(h0:iZ ws e0)(ae:∀z,Ci ws z->z.lot=false)(e:Ent):¬iZ ws.dropLast e:=fun⟨z,⟨hk,h2,hl,hn⟩,_⟩=>by
 obtain⟨ad,aa,_⟩:=h0;obtain⟨q,ac,af,ab⟩:=id aa;have h4:=(jd q).2.2.1;have ag:=zza (xs:=ws)
 have h2':ws[2]? =some z.wd:=by
  rw[List.dropLast_eq_take,yk (by omega)]at h2;exact h2
 rw[ac]at h2';have ek:ad=z:=nR q hk (zf h2');subst ek;have:=ab (ae _ aa);omega
def lY{z:Str}(h:z.cps.toList.all (λc=>c !=32 && c !=10)=true):jQ z:=by
 rw[yG]at h;refine⟨λm=>?_,λm=>?_⟩
 ·have:=h 32 m;exact absurd this (by decide)
 ·have:=h 10 m;exact absurd this (by decide)
def Wds.put{ws:List Str}{x:Str}{k:Nat}(h:Wds ws)(hl:k<ws.length)(z:jQ x)(hs:x.length<=1000):Wds (ws.take k++[x]++ws.drop (k+1)):=by
 refine⟨by simp,λw q=>?_,?_,λw q=>?_⟩
 ·rcases zx.mp q with q|q
  ·rcases zx.mp q with q|q
   ·exact h.c w (zS q)
   ·rw[zC.mp q];exact z
  ·exact h.c w (yz q)
 ·have:=h.l
  rw[zh,zh,zv,yf,zM];omega
 ·rcases zx.mp q with q|q
  ·rcases zx.mp q with q|q
   ·exact h.s w (zS q)
   ·rw[zC.mp q];exact hs
  ·exact h.s w (yz q)
def Mv{ws:List Str}{x:Str}{k:Nat}(q:k<ws.length):(ws.take k++[x]++ws.drop (k+1))[k]? =some x:=by
 have e:(ws.take k).length=k:=by rw[zv];omega
 rw[yK,zT (by omega),e,zzY];rfl
def Wds.more{ws:List Str}{x:Str}(h:Wds ws)(hl:ws.length<=13)(z:jQ x)(hs:x.length<=1000):Wds (ws++[x]):=by
 refine⟨by simp,λw q=>?_,by rw[zh,zM];omega,λw q=>?_⟩
 ·rcases zx.mp q with q|q
  ·exact h.c w q
  ·rw[zC.mp q];exact z
 ·rcases zx.mp q with q|q
  ·exact h.s w q
  ·rw[zC.mp q];exact hs
def Wds.sub{ws us:List Str}(h:Wds ws)(hn:us≠[])(q:us.Sublist ws):Wds us:=⟨hn,λw z=>h.c w (q.subset z),zQ q.length_le h.l,λw z=>h.s w (q.subset z)⟩
def kh(a b:Str)(l:List Str):ju (a::b::l)=a++Str.ofString " " ++ju (b::l):=by
 rw[show ju (a::b::l)=Str.join (Str.ofString " ") (a::b::l)from StrLaws.glued_eq_join _ _,show ju (b::l)=Str.join (Str.ofString " ") (b::l)from StrLaws.glued_eq_join _ _];rfl
theorem xZ(x:Str):∀{ws:List Str},ws≠[]->ju (ws++[x])=ju ws++Str.ofString " " ++x
 |[],h=>(h rfl).elim
 |[a],_=>kh a x []
 |a::b::l,_=>by
  have q:=xZ x (ws:=b::l) (zzD _ _);show ju (a::b::(l++[x]))=_;rw[kh,kh,show b::(l++[x])=(b::l)++[x]from rfl,q];simp only[kY]
def CG:jQ (Str.ofString ""):=by unfold jQ;decide+kernel
def QS(z:Str):Str.ofString "" ++z=z:=wu z
noncomputable def Zr:List Str:=["", "#", "1 2 buy", "1 2 buy cup 1 1 1 1", "1 2 give cup 3 4:1 4:2", "1 2 part cup cup 1 2"]
def Aq{ws:List Str}(h:ws.all (λz=>z.cps.toList.all (λc=>c !=32 && c !=10) && decide (z.length<=1000))=true)(hn:ws≠[])(hl:ws.length<=14):Wds ws:=by
 rw[yG]at h;refine⟨hn,λw q=>?_,hl,λw q=>?_⟩
 ·have:=h w q
  rw[zG]at this;exact lY this.1
 ·have:=h w q
  rw[zG,decide_eq_true_iff]at this;exact this.2
def Cm:∀z∈Zr,Dk z:=by
 intro z hz;simp only[Zr,zp,zw,or_false]at hz;rcases hz with rfl|rfl|rfl|rfl|rfl|rfl
 ·rw[show Str.ofString "" =ju [""] by decide+kernel]
  exact(Aq (by decide+kernel) (by simp) (by decide)).no (BR (by decide))
 ·rw[show Str.ofString "#" =ju ["#"] by decide+kernel]
  exact(Aq (by decide+kernel) (by simp) (by decide)).no (BR (by decide))
 ·rw[show Str.ofString "1 2 buy" =ju ["1", "2", "buy"] by decide+kernel]
  exact(Aq (by decide+kernel) (by simp) (by decide)).no (BR (by decide))
 ·rw[show Str.ofString "1 2 buy cup 1 1 1 1" =ju ["1", "2", "buy", "cup", "1", "1", "1", "1"] by decide+kernel]
  refine(Aq (by decide+kernel) (by simp) (by decide)).no λe ⟨kd,⟨hk,h2,hl,hn⟩,_⟩=>?_;have ek:=nR (a:=⟨"buy",6,vV,false⟩) (by simp[kinds]) hk (zf h2);subst ek;exact absurd (hn rfl) (by decide)
 ·rw[show Str.ofString "1 2 give cup 3 4:1 4:2" =ju ["1", "2", "give", "cup", "3", "4:1", "4:2"] by decide+kernel]
  refine(Aq (by decide+kernel) (by simp) (by decide)).no λe ⟨kd,⟨hk,h2,hl,hn⟩,hi,_,hL,hg⟩=>?_;have ek:=nR (a:=⟨"give",4,lX,true⟩) (by simp[kinds]) hk (zf h2);subst ek;obtain⟨d,n,w,p,o,rfl⟩:=Aw hi
  cases o with
  |none=>exact absurd (show[(Str.ofString "4:1"), "4:2"]=[]from hL) (by simp)
  |some rs=>
   have q:(rs.map wR).map (·.2)=[DX "4:1",DX "4:2"]:=hL.2;have e1:DX "4:1" =(V.int 4,V.int 1):=by decide+kernel
   have e2:DX "4:2" =(V.int 4,V.int 2):=by decide+kernel
   rw[e1,e2,zU]at q;have aa:Ce rs p:=hg.2.2
   match rs,q,aa with
   |[a,b],q,aa=>
    have q:[(V.int a.2.1,V.int a.2.2),(V.int b.2.1,V.int b.2.2)]=[(V.int 4,V.int 1),(V.int 4,V.int 2)]:=q;injection q with q1 q2
    injection q2 with q2 _
    injection q1 with q1 _
    injection q2 with q2 _
    injection q1 with q1
    injection q2 with q2
    have hu:[a.2.1,b.2.1].Nodup:=aa.u;rw[q1,q2]at hu;exact absurd hu (by decide)
   |[],q,_=>exact absurd (congrArg List.length q) (by simp)
   |[_],q,_=>exact absurd (congrArg List.length q) (by simp)
   |_::_::_::_,q,_=>exact absurd (congrArg List.length q) (by simp)
 ·rw[show Str.ofString "1 2 part cup cup 1 2" =ju ["1", "2", "part", "cup", "cup", "1", "2"] by decide+kernel]
  refine(Aq (by decide+kernel) (by simp) (by decide)).no λe ⟨kd,⟨hk,h2,hl,hn⟩,hi,⟨nl,ha⟩,hL,hg⟩=>?_;have ek:=nR (a:=⟨"part",6,mY,false⟩) (by simp[kinds]) hk (zf h2);subst ek;obtain⟨d,n,w,u,s,t,rfl⟩:=vm hi;have ha:[val "1",val "2",val "cup",val "cup",val "1",val "2"]++[]=[V.int d,.int n,.str w,.str u,.int s,.int t]:=ha;injection ha with _ ha
  injection ha with _ ha
  injection ha with q1 ha
  injection ha with q2 _
  rw[q1]at q2;injection q2 with q2
  exact hg.2.2.1 q2.symm
noncomputable def oh(T:Txt w K mg A D)(q:Value)(A':Around)(outer:List Env)(z:Shared)(H:Hp)(E:XK)(hr:mH 0 (A'.deeper (envOfC "_law_bent" (fP kj) z.heap.objs.size A.pI q))):
  {t:TS//PSs (uD CX0 P w K mg base ["_law_row", "_law_way", "_law_words", "_law_kind"] "_law_bent" (fP kj) A.pI q A' outer z H E).nox (iC kj) t}:=
 ⟨_,(fJ (gm (i:=2) uW.nd rfl orl (jD (K:=K) zH yU yV Ca (pvD 0) (fH fW fO)))
   (fJ (gm (i:=3) uW.nd rfl orl (gF (fV (K:=K)) (pvD 2) fL (λ_ _=>rfl)))
   (fJ (iM (fZ (Ei) (pvD 1) fL (gA _)) (fQ (gn (gF (fV (K:=K)) (ig (fH (fX gY fW (pvD 0)) (abi (Yq (pvD 0)) (Xr (i:=0) rfl orl)))) (pvD 1) (λ_ _=>rfl)))) gw)
   (fJ (iM (fZ (lH) (pvD 1) fL (gA _)) (fQ (gn (jD (K:=K) zH z5 z6 ou fW (fH (fX jR (fX Qs (gM (gR (K:=K)) (pvD 2) iB (ir (UW Mr fL))) (iU xQ (by rfl) T.rB (by decide+kernel) (fH (Wc (Af (OJ) (pvD 3) fW (gA _)) (VJ (Af (OJ) (pvD 3) fW (gA _)))) fO))) (fX Qs (gM (gR (K:=K)) (pvD 2) iB (ir fL)) (iU xQ (by rfl) T.rB (by decide+kernel) (fH (Af (VP (K:=K)) (pvD 3) (jJ (fH fW (fH fW fO))) (by with_unfolding_all rfl)) fO)))) fO)))) gw)
   (fJ (iM (fZ (lH) (pvD 1) fL (gA _)) (fQ (gn (fX gY (pvD 0) fW))) gw)
   (fJ (iM (fZ (lH) (pvD 1) fL (gA _)) (fQ (gn (jD (K:=K) zH z5 z6 ou fW (fH (fX jR (fX jR (gM (gR (K:=K)) (pvD 2) iB (ir fL)) (ig (fH (gF (fV (K:=K)) (ig (fH fW (fH fW (fH fW (fH fW (fH fW fO)))))) (fX gO (gG mK (by rfl) T.rq (by decide+kernel) (pav 0 fO)) fL) (λ_ _=>rfl)) fO))) (gM (gR (K:=K)) (pvD 2) (ir fL) iB)) fO)))) gw)
   (fJ (iM (fZ (lH) (pvD 1) fL (gA _)) (fQ (gn (jD (K:=K) zH z5 z6 ou fW (fH (fX jR (fX jR (gM (gR (K:=K)) (pvD 2) iB (ir fL)) (ig (fH (Kf (K:=K) zH PySem.F.slot_str_upper PySem.F.type_str_upper Ub (gF (fV (K:=K)) (pvD 2) fL (λ_ _=>rfl))) fO))) (gM (gR (K:=K)) (pvD 2) (ir fL) iB)) fO)))) gw)
   (fJ (iM (fZ (Ei) (pvD 1) fL (gA _)) (fQ (gn (jD (K:=K) zH z5 z6 ou fW (fH (fX jR (fX jR (gM (gR (K:=K)) (pvD 2) iB (ir fL)) (ig (fH (gF (fV (K:=K)) (ig (fH (fX gY fW (gF (fV (K:=K)) (pvD 2) fL (λ_ _=>rfl))) (fH (fX gY fW (gF (fV (K:=K)) (pvD 2) fL (λ_ _=>rfl))) (fH (fX WQ fW fL) (fH fW fO))))) (fX Ez (pvD 1) fL) (λ_ _=>rfl)) fO))) (gM (gR (K:=K)) (pvD 2) (ir fL) iB)) fO)))) gw)
   (fJ (iM (fZ (lH) (pvD 1) fL (gA _)) (fQ (gn (jD (K:=K) zH z5 z6 ou fW (fH (fX jR (fX jR (gM (gR (K:=K)) (pvD 2) iB (ir fL)) (ig (fH fW fO))) (gM (gR (K:=K)) (pvD 2) (ir fL) iB)) fO)))) gw)
   (fQ (gn (gF (fV (K:=K)) (ig (fH fW (fH fW (fH fW (fH fW (fH fW (fH fW fO))))))) (fX gO (pvD 1) fL) (λ_ _=>rfl)))))))))))))⟩
local macro_rules | `(tactic| walk_at "nxi") => `(tactic| ((try dsimp only); refine Gb fun u hu => ?_; rw [ap_seq]; refine WK fun v w hv hw => ?_; walk_at "i"; subst hv hw hu))
def Qh(e:Ent):(e.word=Str.ofString "sell" \/e.word=Str.ofString "give")↔e.nml=true:=by
 cases e with
 |sell=>exact⟨λ_=>rfl,λ_=> .inl rfl⟩
 |give=>exact⟨λ_=>rfl,λ_=> .inr rfl⟩
 |_=>exact⟨λh=>absurd h (by simp only[Ent.word];decide+kernel),λh=>by cases h⟩
def abY:∀d:Fin 26,Unicode.upperOf (97+d.val)=[65+d.val]:=by decide+kernel
def HX{z:Str}{x:Nat}:x∈(Txt.upper z).cps.toList↔∃c∈z.cps.toList,x∈Unicode.upperOf c:=by
 show x∈((z.cps.mapIdx λ_ c=>(Unicode.upperOf c).toArray).flatten).toList↔_;rw[Array.mem_toList_iff,Array.mem_flatten];constructor
 ·rintro⟨a,ha,q⟩
  obtain⟨i,hi,rfl⟩:=Array.mem_mapIdx.mp ha;exact⟨z.cps[i],by simp,by simpa using q⟩
 ·rintro⟨c,hc,q⟩
  obtain⟨i,hi,e⟩:=zzU hc;rw[z7]at hi;refine⟨(Unicode.upperOf c).toArray,Array.mem_mapIdx.mpr ⟨i,hi,?_⟩,by simpa using q⟩;rw[<-e,Array.getElem_toList]
def aaT{z:Str}(h:Nm z):(Txt.upper z).length<=24/\(∀x∈(Txt.upper z).cps.toList,65<=x/\x<=90)/\∃x,x∈(Txt.upper z).cps.toList:=by
 have key:∀c,97<=c->c<=122->Unicode.upperOf c=[c - 32]:=λc h1 h2=>by
  have:=abY ⟨c - 97,by omega⟩;rw[show 97+(⟨c - 97,by omega⟩:Fin 26).val=c by show 97+(c - 97)=c;omega]at this;rw[this];congr 1;show 65+(c - 97)=c - 32;omega
 refine⟨?_,λx q=>?_,?_⟩
 ·have:=len_upper z
  have:=h.2.1;omega
 ·obtain⟨c,hc,q⟩:=HX.mp q
  obtain⟨h1,h2⟩:=h.2.2 c hc;rw[key c h1 h2]at q;have:=zC.mp q;omega
 ·obtain ⟨c,hc⟩:∃c,c∈z.cps.toList:=by
   cases e:z.cps.toList with
   |nil=>
    have h1:=h.1;have:z.length=0:=by show z.cps.size=0;rw[<-z7,e];rfl
    omega
   |cons c l=>exact⟨c,zi⟩
  obtain⟨h1,h2⟩:=h.2.2 c hc;exact⟨c - 32,HX.mpr ⟨c,hc,by rw[key c h1 h2];exact zC.mpr rfl⟩⟩
def Mu(xs:List V):uN xs none (some (-1))=xs.dropLast:=by
 unfold uN HT.sIx;simp[List.dropLast_eq_take];omega
def Js{ws:List Str}(h:Wds ws):(ws.map (·.length)).sum+ws.length*(Str.ofString " ").length<=1000000:=by
 have h1:=Qt h.s;have z:=h.l;have q:(Str.ofString " ").length=1:=by decide+kernel
 rw[q];omega
def BL{H:Hp}{p p1 pw:Addr}{ws:List Str}{x:Str}{j:Nat}{i:Int}{Q:VK}(hp:H p=some (.lst ((ws.take j).map V.str)))(ab:H p1=some (.lst [V.str x]))(hw:H pw=some (.lst (ws.map V.str)))(hi:i=((j+1:Nat):Int))(W:Wds (ws.take j++[x]++ws.drop (j+1)))
  (kq:∀H',Same H H'->Q (.str (ju (ws.take j++[x]++ws.drop (j+1)))) H'):
  ∃xs,H p=some (.lst xs)/\∃x1,H p1=some (.lst x1)/\xs.length+x1.length<=sizeLine/\∀p2,H p2=none->∃x2,SqL K (upd H p2 (.lst (xs++x1))) pw x2/\∀z,upd H p2 (.lst (xs++x1)) z=none->∃q,upd (upd H p2 (.lst (xs++x1))) z (.lst (uN x2 (some i) none)) p2=some (.lst q)/\
   ∃x3,upd (upd H p2 (.lst (xs++x1))) z (.lst (uN x2 (some i) none)) z=some (.lst x3)/\q.length+x3.length<=sizeLine/\∀p4,upd (upd H p2 (.lst (xs++x1))) z (.lst (uN x2 (some i) none)) p4=none->
    ∃ys:List Str,upd (upd (upd H p2 (.lst (xs++x1))) z (.lst (uN x2 (some i) none))) p4 (.lst (q++x3)) p4=some (.lst (ys.map V.str))/\(ys.map (·.length)).sum+ys.length*(Str.ofString " ").length<=1000000/\Q (.str (Txt.join (Str.ofString " ") ys)) (upd (upd (upd H p2 (.lst (xs++x1))) z (.lst (uN x2 (some i) none))) p4 (.lst (q++x3))):=by
 subst hi;have hl:=W.l;rw[zh,zh,zM]at hl;refine⟨_,hp,_,ab,by rw[zc,zb,zM];omega,λp2 ad=>?_⟩;have s2:=fM (o:=.lst ((ws.take j).map V.str++[V.str x])) ad;refine⟨_,fU (s2 _ _ hw),λz aa=>?_⟩;rw[BP,<-yyc];have s3:=fM (o:=.lst ((ws.drop (j+1)).map V.str)) aa;have h2:upd H p2 (.lst ((ws.take j).map V.str++[V.str x])) p2=some (.lst ((ws.take j).map V.str++[V.str x])):=fK;refine⟨_,s3 _ _ h2,_,fK,by rw[zc,zh,zb,zb,zM];omega,λp4 ac=>?_⟩;refine⟨ws.take j++[x]++ws.drop (j+1),?_,Js W,kq _ ((s2.trans s3).trans (fM ac))⟩;rw[fK,zk,zk];rfl
def ZL{xs:List V}(b:Bool):(List.replicate (if b=true then(1:Int)else 0).toNat xs).flatten=if b then xs else[]:=by
 cases b
 ·rfl
 ·show([xs].flatten:List V)=xs
  simp
def ZM{H:Hp}{q pw:Addr}{e:Ent}{us:List Str}{Q:VK}(hq:H q=some (.lst (us.map V.str)))(hw:H pw=some (.lst ((wsE e).map V.str)))(hl:us.length<=14)(W:Wds (us++if e.nml then(wsE e).take 4 else[]))
  (kq:∀H',Same H H'->Q (.str (ju (us++if e.nml then(wsE e).take 4 else[]))) H'):
  ∃x1,SqL K H pw x1/\∀p,H p=none->2<=sizeLine/\∀z,upd H p (.lst (uN x1 none (some 4))) z=none->∃x2,(SqL K (upd (upd H p (.lst (uN x1 none (some 4)))) z (.tup [V.str (Str.ofString "sell"),V.str (Str.ofString "give")])) z x2\/SqT K (upd (upd H p (.lst (uN x1 none (some 4)))) z (.tup [V.str (Str.ofString "sell"),V.str (Str.ofString "give")])) z x2)/\
   Bh (V.str e.word)=true/\x2.all Bh=true/\((False/\∃x3,aat (V.ref p) (V.int x3) (upd (upd H p (.lst (uN x1 none (some 4)))) z (.tup [V.str (Str.ofString "sell"),V.str (Str.ofString "give")])) λy H2=>Zz (V.ref q) y H2 λx H1=>rJoin (V.str (Str.ofString " ")) [x] H1 Q)\/
    aat (V.ref p) (V.int (if inV (V.str e.word) x2=true then 1 else 0)) (upd (upd H p (.lst (uN x1 none (some 4)))) z (.tup [V.str (Str.ofString "sell"),V.str (Str.ofString "give")])) λy H2=>Zz (V.ref q) y H2 λx H1=>rJoin (V.str (Str.ofString " ")) [x] H1 Q):=by
 refine⟨_,fU hw,λp hp=>⟨sz,λz aa=>⟨_,.inr (jg fK),rfl,rfl,.inr ?_⟩⟩⟩;rw[show uN ((wsE e).map V.str) none (some 4)=((wsE e).take 4).map V.str from by rw[show(4:Int)=((4:Nat):Int)from rfl,jo,<-zX]]at aa⊢;have s1:=fM (o:=.lst (((wsE e).take 4).map V.str)) hp;have h1:upd H p (.lst (((wsE e).take 4).map V.str)) p=some (.lst (((wsE e).take 4).map V.str)):=fK;have s2:=fM (o:=.tup [V.str (Str.ofString "sell"),V.str (Str.ofString "give")]) aa;have h2:=s2 _ _ h1;have ac:=s2 _ _ (s1 _ _ hq);generalize upd (upd H p (.lst (((wsE e).take 4).map V.str))) z (.tup [V.str (Str.ofString "sell"),V.str (Str.ofString "give")])=H2 at*;have S2:Same H H2:=s1.trans s2;have h4:((wsE e).take 4).length<=4:=by rw[zv];omega
 rw[Wi,Gk];refine⟨_,h2,by split<;>decide,by split<;>decide,?_,λp2 ad=>?_⟩
 ·rw[zb,zc]
  split
  ·show _*1<=_;omega
  ·exact zV _
 rw[ZL]at*;have s3:=fM (o:=.lst (if e.nml then((wsE e).take 4).map V.str else[])) ad;refine⟨q,p2,_,_,rfl,rfl,s3 _ _ ac,fK,?_,λp3 ab=>⟨_,p3,us++(if e.nml then(wsE e).take 4 else[]),rfl,rfl,?_,Js W,kq _ ((S2.trans s3).trans (fM ab))⟩⟩
 ·rw[zb,zc]
  split
  ·rw[zb];omega
  ·show _+0<=_;omega
 ·rw[fK,zk]
  congr 3;split<;>rfl
noncomputable def JC:Sp:=λvs H Q _=>∃(e:Ent)(k:Int),vs=[.str (gQ e),.int k]/\e.good5/\0<=k/\k<18/\∀z H',Same H H'->Dk z->Q (.str z) H'
def JL(T:Txt w K mg A D):jn P w K mg base CX0 1 A.pI D.pI ["_law_row", "_law_way"] JC:=by
 refine T.rn.F.ok uW (by walk_at "v") (λao A' outer s0 H vs Q E hr h=>?_)
 ·obtain⟨e,k0,rfl,hg,bc,ba,k⟩:=h
  refine⟨(oh (base:=base) T ao A' outer s0 H E hr).1,(oh (base:=base) T ao A' outer s0 H E hr).2,?_⟩;unfold oh;obtain⟨hW,h5,bb⟩:=vD hg;have ac:gQ e=ju (wsE e):=rfl;have af:Txt.split (gQ e) (Str.ofString " ")=wsE e:=hW.words;have aw:(gQ e).length<=100000:=hW.row.l;simp only[start_eq];walk_at "n";refine⟨rfl,by decide+kernel,by omega,λpw as=>?_⟩;rw[af];have s1:=fM (o:=.lst ((wsE e).map V.str)) as;have hw:upd H pw (.lst ((wsE e).map V.str)) pw=some (.lst ((wsE e).map V.str)):=fK;generalize upd H pw (.lst ((wsE e).map V.str))=H1 at*;have h2:(wsE e)[2]? =some e.word:=by rw[xF];rfl
  walk_at "n";refine⟨_,fU hw,_,jw (j:=2) (by rw[zB,h2];rfl),?_⟩;walk_at "nxi";by_cases h3:k0<3
  ·rw[zu h3]
   rw[ap_ret]
   (try dsimp only)
   walk_at "i";have e1:(Str.ofString " ").length=1:=by decide+kernel
   refine⟨by rw[e1,zc];omega,by rw[e1,zc];omega,aw,e1,by decide+kernel,by decide+kernel,sz,λp hp=>⟨_,fU fK,?_⟩⟩
   obtain ⟨w0,w1,us,aa⟩:∃w0 w1 us,wsE e=w0::w1::us:=by
    match wsE e,h5 with
    |w0::w1::us,_=>exact⟨w0,w1,us,rfl⟩
   have hc:=hW.c;have hs:=hW.s
   have an:w1=gZ e.num:=by
    have:(wsE e)[1]? =some (gZ e.num):=by rw[xF];rfl
    rw[aa]at this;exact zf this
   have ak:=(jG hg.1).n0
   have z0:Dk (Str.ofString " " ++gQ e):=by
    have:Str.ofString " " ++gQ e=ju (Str.ofString "" ::wsE e):=by
     rw[ac,aa,kh (Str.ofString "") w0 (w1::us),QS]
    rw[this];refine Wds.no ⟨by simp,λw hw=>?_,by rw[zA];omega,λw hw=>?_⟩ (Wk (i:=e.num) ak (by rw[aa,an];rfl))
    ·rcases zp.mp hw with rfl|hw
     ·exact CG
     ·exact hc w hw
    ·rcases zp.mp hw with rfl|hw
     ·decide+kernel
     ·exact hs w hw
   have z1:Dk (gQ e++Str.ofString " "):=by
    have:gQ e++Str.ofString " " =ju (wsE e++[Str.ofString ""]):=by
     rw[xZ _ hW.n,<-ac];refine L2.str_ext ?_;simp only[yy,zY,vz];simp
    rw[this];exact(hW.more (by omega) CG (by decide+kernel)).no (Rc (wK hg.1) λi z=>absurd z (by rw[show(DX (Str.ofString "")).1=.str "" by decide+kernel];exact λz=>nomatch z))
   have z2:Dk (Gj (gQ e) (Str.ofString " ") (Str.ofString "  ")):=by
    have:Gj (gQ e) (Str.ofString " ") (Str.ofString "  ")=ju (w0::Str.ofString "" ::w1::us):=by
     rw[ac,aa,kh w0 w1 us,kh w0 (Str.ofString "") (w1::us),kh (Str.ofString "") w1 us,QS,vH,Vq (hc w0 (by rw[aa];exact zi)).1];refine L2.str_ext ?_;simp only[yy,zY];rw[show(Str.ofString "  ").cps.toList=[32,32] by decide+kernel];simp
    rw[this];refine Wds.no ⟨by simp,λw hw=>?_,?_,λw hw=>?_⟩ (Wk (i:=e.num) ak (by rw[an];rfl))
    ·rcases zp.mp hw with rfl|hw
     ·exact hc w (by rw[aa];exact zi)
     ·rcases zp.mp hw with rfl|hw
      ·exact CG
      ·exact hc w (by rw[aa];exact zt _ hw)
    ·have:=congrArg List.length aa
     rw[zA,zA]at this;rw[zA,zA,zA];omega
    ·rcases zp.mp hw with rfl|hw
     ·exact hs w (by rw[aa];exact zi)
     ·rcases zp.mp hw with rfl|hw
      ·decide+kernel
      ·exact hs w (by rw[aa];exact zt _ hw)
   rcases(show k0=0\/k0=1\/k0=2 by omega)with rfl|rfl|rfl
   ·exact⟨_,rfl,k _ _ (s1.trans (fM hp)) z0⟩
   ·exact⟨_,rfl,k _ _ (s1.trans (fM hp)) z1⟩
   ·exact⟨_,rfl,k _ _ (s1.trans (fM hp)) z2⟩
  rw[zo h3,ap_next];walk_at "nxi";by_cases h3:k0=3
  ·rw[zu h3]
   rw[ap_ret]
   (try dsimp only)
   walk_at "i";refine⟨rfl,_,fU hw,λp hp=>?_⟩;rw[Mu,<-List.map_dropLast];have s2:=fM (o:=.lst ((wsE e).dropLast.map V.str)) hp;have hp':upd H1 p (.lst ((wsE e).dropLast.map V.str)) p=some (.lst ((wsE e).dropLast.map V.str)):=fK;generalize upd H1 p (.lst ((wsE e).dropLast.map V.str))=H2 at*;have hT:=wK hg.1;have hd:(wsE e).dropLast.length<=14:=by rw[zza];omega
   have w4:Wds ((wsE e).take 4):=hW.sub (by intro z;have:=congrArg List.length z;rw[zv,yC]at this;omega) (zzr _ _);have n4:Dk (ju ((wsE e).take 4)):=w4.no (BR (by rw[zv];omega));have ag:∀{q:Addr}{b:Bool},b=false->e.nml=true->H2 q=none->_:=fun{q b} hb hm hq=>ZM (K:=K) (H:=upd H2 q (.lst (List.replicate (if b=true then(1:Int)else 0).toNat ((wsE e).dropLast.map V.str)).flatten)) (q:=q) (pw:=pw) (e:=e) (us:=[]) (Q:=Q) (by rw[fK,ZL,hb];rfl) (fM hq _ _ (s2 _ _ hw)) (by simp) (by rw[hm];exact w4) (λH' s'=>by rw[hm];exact k _ _ (s1.trans (s2.trans ((fM hq).trans s'))) n4);by_cases hs:e.word=Str.ofString "sell"
   ·rw[zo (λc=>c hs)]
    refine .inr ?_;rw[Gk];exact⟨_,hp',by decide,by decide,zV _,λq hq=>ag (b:=false) rfl ((Qh e).mp (.inl hs)) hq⟩
   ·rw[zu hs]
    refine .inr ?_;rw[Gk];by_cases hv:e.word=Str.ofString "give"
    ·rw[zo (λc=>c hv)]
     exact⟨_,hp',by decide,by decide,zV _,λq hq=>ag (b:=false) rfl ((Qh e).mp (.inr hv)) hq⟩
    ·rw[zu hv]
     have hm:e.nml=false:=by
      cases hm:e.nml with
      |false=>rfl
      |true=>exact absurd ((Qh e).mpr hm) (λh=>h.elim hs hv)
     have wd:Wds (wsE e).dropLast:=hW.sub (by intro z;have:=congrArg List.length z;rw[zza,yC]at this;omega) (List.dropLast_sublist _)
     have nd:Dk (ju (wsE e).dropLast):=wd.no (Xn hT λkd hK=>by
      have h1:=(jd hK.1).2.1;have h2':=hK.2.1;rw[h2]at h2';rw[<-zf h2',Wi,hm]at h1;exact h1.symm)
     refine⟨_,hp',by decide,by decide,by rw[zb,zc];show _*1<=_;omega,λq hq=>?_⟩;exact ZM (K:=K) (H:=upd H2 q (.lst (List.replicate (1:Int).toNat ((wsE e).dropLast.map V.str)).flatten)) (q:=q) (pw:=pw) (e:=e) (us:=(wsE e).dropLast) (Q:=Q) (by rw[fK];show some (HO.lst ([(wsE e).dropLast.map V.str].flatten))=_;simp) (fM hq _ _ (s2 _ _ hw)) hd (by rw[hm];simpa using wd) (λH' s'=>by rw[hm];simpa using k _ _ (s1.trans (s2.trans ((fM hq).trans s'))) nd)
  rw[zo h3,ap_next];walk_at "nxi";by_cases h4:k0=4
  ·rw[zu h4]
   rw[ap_ret]
   (try dsimp only)
   walk_at "i";have e2:(Str.ofString " x").length=2:=by decide+kernel
   refine⟨by rw[e2,zc];omega,k _ _ s1 ?_⟩
   have:gQ e++Str.ofString " x" =ju (wsE e++[Str.ofString "x"]):=by
    rw[xZ _ hW.n,<-ac,kY];rfl
   rw[this];exact(hW.more (by omega) (lY (by decide+kernel)) (by decide+kernel)).no (Rc (wK hg.1) λi z=>absurd z (by rw[show(DX (Str.ofString "x")).1=.str "x" by decide+kernel];exact λz=>nomatch z))
  rw[zo h4,ap_next];walk_at "nxi";by_cases aj:k0=5
  ·rw[zu aj]
   rw[ap_ret]
   (try dsimp only)
   walk_at "i";refine⟨rfl,_,fU hw,λp hp=>?_⟩;rw[show(2:Int)=((2:Nat):Int)from rfl,jo,<-zX];have s2:=fM (o:=.lst (((wsE e).take 2).map V.str)) hp;have hp':upd H1 p (.lst (((wsE e).take 2).map V.str)) p=some (.lst (((wsE e).take 2).map V.str)):=fK;generalize upd H1 p (.lst (((wsE e).take 2).map V.str))=H2 at*;refine⟨sz,λp1 ah=>⟨by rw[zc];omega,by decide,_,fU fK,?_⟩⟩;have s3:=fM (o:=.lst [V.str (Str.ofString "buyy"),V.str (Str.ofString "sel"),V.str (Str.ofString "Buy"),V.str (Str.ofString "parting"),V.str (Str.ofString "")]) ah;generalize upd H2 p1 (.lst [V.str (Str.ofString "buyy"),V.str (Str.ofString "sel"),V.str (Str.ofString "Buy"),V.str (Str.ofString "parting"),V.str (Str.ofString "")])=H3 at*
   obtain ⟨x,hx,ay⟩:∃x:Str,atI [V.str (Str.ofString "buyy"),V.str (Str.ofString "sel"),V.str (Str.ofString "Buy"),V.str (Str.ofString "parting"),V.str (Str.ofString "")] (((gQ e).length:Int)%5)=some (.str x)/\x∈([Str.ofString "buyy", "sel", "Buy", "parting", ""]:List Str):=by
    rcases(show((gQ e).length:Int)%5=0\/((gQ e).length:Int)%5=1\/((gQ e).length:Int)%5=2\/((gQ e).length:Int)%5=3\/((gQ e).length:Int)%5=4 by omega)with e6|e6|e6|e6|e6<;>rw[e6]
    ·exact⟨_,rfl,za (i:=0) rfl⟩
    ·exact⟨_,rfl,za (i:=1) rfl⟩
    ·exact⟨_,rfl,za (i:=2) rfl⟩
    ·exact⟨_,rfl,za (i:=3) rfl⟩
    ·exact⟨_,rfl,za (i:=4) rfl⟩
   refine⟨_,hx,sz,λp2 ab=>?_⟩;have s4:=fM (o:=.lst [V.str x]) ab;have key:∀x∈([Str.ofString "buyy", "sel", "Buy", "parting", ""]:List Str),x.cps.toList.all (λc=>c !=32 && c !=10)=true/\x.length<=1000/\∀w∈([Str.ofString "buy", "sell", "gift", "give", "split", "part"]:List Str),x≠w:=by decide+kernel
   obtain⟨c1,c2,c3⟩:=key x ay;have W:=hW.put (k:=2) (x:=x) (by omega) (lY c1) c2;refine BL (K:=K) (ws:=wsE e) (j:=2) (s4 _ _ (s3 _ _ hp')) fK (s4 _ _ (s3 _ _ (s2 _ _ hw))) rfl W λH' s'=>k _ _ (s1.trans (s2.trans (s3.trans (s4.trans s')))) (W.no (SQ λkd hk z=>?_));rw[Mv (by omega)]at z;simp only[kinds,zp,zw,or_false]at hk;rcases hk with rfl|rfl|rfl|rfl|rfl|rfl<;>exact c3 _ (by simp) (zf z)
  rw[zo aj,ap_next];walk_at "nxi";by_cases h6:k0=6
  ·rw[zu h6]
   rw[ap_ret]
   (try dsimp only)
   walk_at "i";have av:(wsE e)[3]? =some e.ware:=by rw[xF];rfl
   refine⟨rfl,_,fU hw,λp hp=>?_⟩;rw[show(3:Int)=((3:Nat):Int)from rfl,jo,<-zX];have s2:=fM (o:=.lst (((wsE e).take 3).map V.str)) hp;have hp':upd H1 p (.lst (((wsE e).take 3).map V.str)) p=some (.lst (((wsE e).take 3).map V.str)):=fK;generalize upd H1 p (.lst (((wsE e).take 3).map V.str))=H2 at*;refine⟨_,fU (s2 _ _ hw),V.str e.ware,jw (j:=3) (by rw[zB,av];rfl),rfl,?_⟩;obtain⟨u1,u2,c,hc⟩:=aaT (jG hg.1).w;have az:=u2 c hc;refine⟨e.ware,rfl,rfl,by omega,sz,λp2 ab=>?_⟩;have s4:=fM (o:=.lst [V.str (Txt.upper e.ware)]) ab;have W:=hW.put (k:=3) (x:=Txt.upper e.ware) (by omega) ⟨λm=>by have:=u2 32 m;omega,λm=>by have:=u2 10 m;omega⟩ (by omega);exact BL (K:=K) (ws:=wsE e) (j:=3) (s4 _ _ hp') fK (s4 _ _ (s2 _ _ hw)) rfl W λH' s'=>k _ _ (s1.trans (s2.trans (s4.trans s'))) (W.no (Rf (Mv (by omega)) (Ld hc (by omega)) (λh=>by have:=h.2.2 c hc;omega)))
  rw[zo h6,ap_next];walk_at "nxi";by_cases h7:k0<11
  ·rw[zu h7]
   rw[ap_ret]
   (try dsimp only)
   walk_at "i";have au:(wsE e)[1]? =some (gZ e.num):=by rw[xF];rfl
   have hb:=jG hg.1;have n0:=hb.n0;have n1:=hb.n1;obtain⟨l1,l2⟩:=Qp n0 (by omega);have am:atI ((wsE e).map V.str) 1=some (.str (gZ e.num)):=jw (j:=1) (by rw[zB,au];rfl);refine⟨rfl,_,fU hw,λp hp=>?_⟩;rw[show uN ((wsE e).map V.str) none (some 1)=((wsE e).take 1).map V.str from by rw[show(1:Int)=((1:Nat):Int)from rfl,jo,<-zX]];have s2:=fM (o:=.lst (((wsE e).take 1).map V.str)) hp;have hp':upd H1 p (.lst (((wsE e).take 1).map V.str)) p=some (.lst (((wsE e).take 1).map V.str)):=fK;generalize upd H1 p (.lst (((wsE e).take 1).map V.str))=H2 at*;have e0:(Str.ofString "0").length=1:=by decide+kernel
   have em:(Str.ofString "-").length=1:=by decide+kernel
   refine⟨_,fU (s2 _ _ hw),_,am,_,rfl,by rw[e0,zc];omega,_,fU (s2 _ _ hw),_,am,_,rfl,by rw[em,zc];omega,by decide,by decide,by decide+kernel,by decide+kernel,sz,λp1 ah=>⟨_,fU fK,?_⟩⟩;obtain⟨ae,ad⟩:∃ae:Str,ae=⟨List.foldl (λx1 x2=>x1++x2) #[] (List.replicate (Int.toNat 20) (Str.ofString "1").cps)⟩:=⟨_,rfl⟩;rw[<-ad];have s3:=fM (o:=.lst [V.str (Str.ofString "0" ++gZ e.num),V.str (Str.ofString "-" ++gZ e.num),V.str ae,V.str (Str.ofString "1000001")]) ah;generalize upd H2 p1 (.lst [V.str (Str.ofString "0" ++gZ e.num),V.str (Str.ofString "-" ++gZ e.num),V.str ae,V.str (Str.ofString "1000001")])=H3 at*;have ai:=nQ n0
   obtain ⟨x,hx,ax,aq,ap⟩:∃x:Str,atI [V.str (Str.ofString "0" ++gZ e.num),V.str (Str.ofString "-" ++gZ e.num),V.str ae,V.str (Str.ofString "1000001")] (k0 - 7)=some (.str x)/\jQ x/\x.length<=1000/\(val x=.str x\/val x=.int 1000001):=by
    rcases(show k0 - 7=0\/k0 - 7=1\/k0 - 7=2\/k0 - 7=3 by omega)with e6|e6|e6|e6<;>rw[e6]
    ·refine⟨_,rfl,xG (lY (by decide+kernel)) ai,by rw[str_len,e0];omega,.inl (GJ λhn=>?_)⟩
     unfold nD at hn;rw[zG,zG]at hn
     have hs:Txt.startswith (Str.ofString "0" ++gZ e.num) (Str.ofString "0")=true:=by
      rw[Nt];exact Ck.mpr (by rw[yy,zY];rfl)
     have ar:Str.ofString "0" ++gZ e.num≠Str.ofString "0" :=λz=>by
      have:=congrArg Str.length z;rw[str_len,e0]at this;omega
     have:=hn.1.2;rw[hs,yb ar]at this;exact absurd this (by decide)
    ·refine⟨_,rfl,xG (lY (by decide+kernel)) ai,by rw[str_len,em];omega,.inl (Ld (c:=45) ?_ (.inl (by decide)))⟩
     rw[yy,zY];exact yx _ (by decide+kernel)
    ·exact⟨ae,rfl,by rw[ad];unfold jQ;decide+kernel,by rw[ad];decide+kernel,.inl (by rw[ad];decide+kernel)⟩
    ·exact⟨_,rfl,lY (by decide+kernel),by decide+kernel,.inr (by decide+kernel)⟩
   refine⟨_,hx,sz,λp2 ab=>?_⟩;have s4:=fM (o:=.lst [V.str x]) ab;have W:=hW.put (k:=1) (x:=x) (by omega) ax aq;exact BL (K:=K) (ws:=wsE e) (j:=1) (s4 _ _ (s3 _ _ hp')) fK (s4 _ _ (s3 _ _ (s2 _ _ hw))) rfl W λH' s'=>k _ _ (s1.trans (s2.trans (s3.trans (s4.trans s')))) (W.no (ZW (Mv (by omega)) ap))
  rw[zo h7,ap_next];walk_at "nxi";by_cases al:k0=11
  ·rw[zu al]
   rw[ap_ret]
   (try dsimp only)
   walk_at "i";refine⟨rfl,_,fU hw,λp hp=>?_⟩;rw[show(3:Int)=((3:Nat):Int)from rfl,jo,<-zX];have s2:=fM (o:=.lst (((wsE e).take 3).map V.str)) hp;have hp':upd H1 p (.lst (((wsE e).take 3).map V.str)) p=some (.lst (((wsE e).take 3).map V.str)):=fK;generalize upd H1 p (.lst (((wsE e).take 3).map V.str))=H2 at*;refine⟨sz,λp2 ab=>?_⟩;have s4:=fM (o:=.lst [V.str (Str.ofString "toolongname")]) ab;have W:=hW.put (k:=3) (x:=Str.ofString "toolongname") (by omega) (lY (by decide+kernel)) (by decide+kernel);exact BL (K:=K) (ws:=wsE e) (j:=3) (s4 _ _ hp') fK (s4 _ _ (s2 _ _ hw)) rfl W λH' s'=>k _ _ (s1.trans (s2.trans (s4.trans s'))) (W.no (Rf (Mv (by omega)) (by decide+kernel) (λh=>absurd h.2.1 (by decide+kernel))))
  rw[zo al,ap_next]
  (try dsimp only)
  try rw[ap_ret]
  (try dsimp only)
  walk_at "i";refine⟨sz,λp hp=>⟨by decide,_,fU fK,?_⟩⟩;have hm:∀z∈Zr,Q (.str z) (upd H1 p (.lst [V.str (Str.ofString ""),V.str (Str.ofString "#"),V.str (Str.ofString "1 2 buy"),V.str (Str.ofString "1 2 buy cup 1 1 1 1"),V.str (Str.ofString "1 2 give cup 3 4:1 4:2"),V.str (Str.ofString "1 2 part cup cup 1 2")])):=λz hz=>k z _ (s1.trans (fM hp)) (Cm z hz);rcases(show k0%6=0\/k0%6=1\/k0%6=2\/k0%6=3\/k0%6=4\/k0%6=5 by omega)with e6|e6|e6|e6|e6|e6<;>rw[e6]
  ·exact⟨_,rfl,hm _ (za (i:=0) rfl)⟩
  ·exact⟨_,rfl,hm _ (za (i:=1) rfl)⟩
  ·exact⟨_,rfl,hm _ (za (i:=2) rfl)⟩
  ·exact⟨_,rfl,hm _ (za (i:=3) rfl)⟩
  ·exact⟨_,rfl,hm _ (za (i:=4) rfl)⟩
  ·exact⟨_,rfl,hm _ (za (i:=5) rfl)⟩
noncomputable def Eb(K:Fg_):Sp:=λvs H Q _=>∃c l bs,vs=[.int c,.ref l]/\SqL K H l (bs.map V.int)/\(∀b∈bs,Py 0 b)/\bs.length<=1000/\Qy H Q (Ml c bs)
noncomputable def GF:Sp:=λvs H Q _=>∃(c k:Int),vs=[.int c,.int k]/\0<=k/\k<1000/\∀r:Int,Q (.int r) H
noncomputable def GQ(K:Fg_):Sp:=λvs H Q _=>∃(a:Addr)(ns:List Int),vs=[.ref a]/\SqL K H a (ns.map V.int)/\ns.length<=63/\∀p (cs:List Int) H',Same H H'->H p=none->H' p=some (.lst (cs.map V.int))->Q (.ref p) H'
def nu(T:Txt w K mg A D):jn P w K mg base CX0 1 A.oY D.oY ["_law_cell", "_law_bases"] (Eb K):=by
 refine T.qN.F.okv kO λ_ _ _ _ H vs Q E hr h=>?_
 ·obtain⟨c,l,bs,rfl,hS,hb,hl,k⟩:=h
  refine ⟨_,(fJ (gm (i:=2) kO.nd rfl orl (ig fO))
   (fJ (Bd yZ rfl (lG (K:=K) (pv 1)) (gJ (i:=3) kO.nd rfl orl)
    (fJ (gK (jD (K:=K) yc yv yw nF (pvD 2) (fH (fX gO (pvD 0) (pvD 3)) fO)))
    (fQ (gm (i:=0) kO.nd rfl orl (fX jm (pvD 0) (pvD 3))))))
   (fQ (gn (pvD 2))))),?_⟩
  walk_at "a";refine⟨zV _,λp hp=>?_⟩
  refine ⟨⟨_,(fM hp).seq hS⟩,wV (K:=K) (a:=l) (xs:=bs.map V.int) (λi σ H2=>∃v,σ=[some (.int (YG c (bs.take i))),some (.ref l),some (.ref p),v]/\Same H H2/\H2 p=some (.lst ((Ml c (bs.take i)).map V.int)))
   ⟨none,rfl,fM hp,fK⟩ (λi σ H2 _ ⟨_,_,z,_⟩=>z.seq hS) ?_ ?_⟩
  ·rintro i y σ H2 hi ⟨v,rfl,z,h2⟩
   obtain⟨b,rfl,q⟩:=La hi;have ab:i<bs.length:=(zr.mp q).1;have aa:Py 0 b:=hb b (za q);have ht:bs.take (i+1)=bs.take i++[b]:=by rw[y4,q];rfl
   walk_at "a";refine⟨tyL (fU h2),aa.1,_,h2,?_,aa,by rw[ht,Ie],z.upd hp,?_⟩
   ·rw[zb,wB,zv]
    exact Qj (by omega)
   ·rw[fK,ht,Jc,zk]
    rfl
  ·rintro σ H2 ⟨v,rfl,z,h2⟩
   rw[zb,zzB]at h2;walk_at "a";exact k p H2 z hp h2
def GR(T:Txt w K mg A D):jn P w K mg base CX0 1 A.o7 D.o7 ["_law_cell", "_law_k"] GF:=by
 refine T.qR.F.okv uG λ_ _ _ _ H vs Q E hr h=>?_
 ·obtain⟨c,z,rfl,k0,k1,k⟩:=h
  refine ⟨_,(fJ (gm (i:=2) uG.nd rfl orl (fX gO (fX lC (fX iy (fX iy (pvD 0) (fX lC (fX lC fL (pvD 1)) (pvD 1))) (pvD 1)) fL) fL))
   (fJ (gm (i:=3) uG.nd rfl orl (fX gO (fX lC (pvD 2) fL) fL))
   (fQ (gn (fX lC (fX lC (pvD 2) (pvD 3)) (fX iy (fX iy (fX jm (pvD 2) fL) (fX jm (pvD 3) fL)) fL)))))),?_⟩
  walk_at "a";have q:∀j:Int,0<j->j.natAbs<2^64->∀i,Py i j:=λj h0 h1 i=>⟨h0,Ue h1 (by decide)⟩;refine⟨Er (by decide) (by decide),Er (by omega) (by omega),Lw (by decide) (by decide),by decide,Lw (by decide) (by decide),by decide,?_⟩;generalize hn:(c+7919*z*z+z)*982451653%2305843009213693951=n;have n0:0<=n:=by rw[<-hn];exact zI _ (by decide)
  have n1:n<2305843009213693951:=by rw[<-hn];exact zy _ (by decide)
  generalize ho:n*1000003%1152921504606846883=o;have o0:0<=o:=by rw[<-ho];exact zI _ (by decide)
  have o1:o<1152921504606846883:=by rw[<-ho];exact zy _ (by decide)
  refine⟨Er (by omega) (by omega),q _ (by decide) (by decide) _,q _ (by decide) (by decide) _,Lw (by omega) (by omega),k _⟩
def ints_of{acc:List V}(h:∀(i:Nat) v,acc[i]? =some v->∃r,v=V.int r):∃xs:List Int,acc=xs.map V.int:=by
 refine⟨acc.map toI,?_⟩;rw[zU];refine(Nf λv z=>?_).symm;obtain⟨j,q,ej⟩:=zzU z;obtain⟨r,rfl⟩:=h j v (by rw[zJ q,ej]);rfl
def Fv(T:Txt w K mg A D):jn P w K mg base CX0 2 A.o8 D.o8 ["_law_script"] (GQ K):=by
 refine T.qS.F.okv xH λ_ _ _ _ H vs Q E hr h=>?_
 ·obtain⟨a,ns,rfl,z,hl,k⟩:=h
  refine ⟨_,(fJ (iM (PW.pt (HD (fZ (El) (gG (jf (K:=K)) (by rfl) T.rq (by decide+kernel) (pav 0 fO)) fL (gA _)) (GD (fZ (lH) (fX gO (gF (fV (K:=K)) (pvD 0) fL (λ_ _=>rfl)) fL) fL (gA _))))) (fJ (gm (i:=1) xH.nd rfl orl (gG (Qg rfl) (by rfl) T.rK (by decide+kernel) (fH (gG (JD rfl) (by rfl) T.rJ (by decide+kernel) (fH (gG (jf (K:=K)) (by rfl) T.rq (by decide+kernel) (pav 0 fO)) (fH fL fO))) (fH (fX iy fL (fX gO (fX jm (gF (fV (K:=K)) (pvD 0) fL (λ_ _=>rfl)) fL) fL)) fO))))
    (fQ (gn (jO (cap:=[none,some 0]) (N':=["_law_k", "_law_script"]) rfl (by walk_at "c") (Dh (by rfl) T.rL (pav 1 fO)) (λ_ _ _ _=>(gJ (i:=0) (show(["_law_k", "_law_script"]:List Str).Nodup from by decide+kernel) rfl orl orr)) (λ_ _ _ _=>jZ) (λ_ _ _ _=>(pcg (GR T) hr T.qR (Ig T) (fH (gF (fV (K:=K)) (pvD 1) (fX gO (pvD 0) (gG (jf (K:=K)) (by rfl) T.rq (by decide+kernel) (pav 1 fO))) (λ_ _=>rfl)) (pav 0 fO)))))))) gw)
   (fQ (gn (jO (cap:=[none]) (N':=["_law_cell"]) rfl (by walk_at "c") (vC (K:=K) (gM (gR (K:=K)) (pvD 0) iB (ir fL))) (λ_ _ _ _=>(gJ (i:=0) nd1 rfl orl orr)) (λ_ _ _ _=>jZ) (λ_ _ _ _=>(fX gO (pvD 0) (fX vo fL fL))))))),?_⟩
  walk_at "a";refine⟨_,.inl z,?_⟩;rw[zb]
  have q:∃ys,SqL K H a ys/\∀p,H p=none->(∃xs,SqL K (upd H p (.lst (uN ys none (some 63)))) p xs)/\jP [none] (Itl K p) (KC 0) Df (tOp (rI (λx j=>0<j) λi j=>V.int (i%j)) (tV 0) (tOp (rI abM λi j=>V.int (i^j.toNat)) (tC (V.int 10)) (tC (V.int 60)))) [some (V.ref a),none] (upd H p (.lst (uN ys none (some 63)))) Q:=by
   refine⟨_,z,λp hp=>⟨⟨_,fU fK⟩,?_⟩⟩;refine jP.list (xs:=(ns.take 63).map V.int) (λσ=>∃v,σ=[v]) (λ_=>true) (λv=>match v with|.int k=> .int (k%10^60)|_=> .non) (fU ?_) ⟨none,rfl⟩ ?_ ?_ ?_
   ·rw[fK,show(63:Int)=((63:Nat):Int)from rfl,jo,zX]
   ·rw[zb,zv,zc];omega
   ·rintro x hx σ H5 R1 R2 ⟨v,rfl⟩ sm k1 k2
    obtain⟨c,_,rfl⟩:=zO.mp hx;walk_at "a";refine⟨⟨by decide,by decide,by decide⟩,by decide,k1 rfl _ _ ⟨_,rfl⟩ (same_refl _)⟩
   ·intro Da H' hD sm e
    rw[nU,zU]at e;exact k Da ((ns.take 63).map λk=>k%10^60) H' ((fM hp).trans sm) ((fM hp).free hD) (by rw[e,zU];rfl)
  by_cases h0:0<ns.length
  ·rw[zu (by omega)]
   have hh:(ns.map V.int)[0]? =some (.int (ns.headD 0)):=by
    cases ns with
    |nil=>simp at h0
    |cons c r=>rfl
   have aa:atI (ns.map V.int) 0=some (.int (ns.headD 0)):=jw (j:=0) hh;refine⟨_,z,_,aa,_,rfl,by decide,?_⟩;by_cases h1:ns.headD 0%2=1
   ·rw[zu h1]
    refine⟨_,.inl z,_,z,_,aa,_,rfl,⟨by decide,by decide⟩,by decide,?_⟩;rw[zb];generalize hm:(if 3+ns.headD 0/2%61>if 63<(ns.length:Int)then 63 else(ns.length:Int)then 3+ns.headD 0/2%61 else if 63<(ns.length:Int)then 63 else(ns.length:Int))=m;have hm:0<=m/\m<=63:=by rw[<-hm];split<;>split<;>omega
    refine⟨by omega,by omega,?_⟩;refine abu (λσ=>∃v,σ=[v,some (.ref a)]) (λi v _=>∃r,v=.int r) ⟨_,rfl⟩ (by rw[zc];omega) ?_ ?_
    ·rintro Da i hi σ H5 R ⟨v,rfl⟩ sm hD _ kk
     walk_at "a";have h5:=sm.seq z;refine⟨_,.inl h5,by rw[zb];omega,_,h5,?_⟩;rw[zb];have e0:=zI (0+(i:Int)) (show(ns.length:Int)≠0 by omega);have e1:=zy (0+(i:Int)) (show(0:Int)<ns.length by omega);obtain⟨j,hj⟩:∃j:Nat,(0+(i:Int))%(ns.length:Int)=j:=⟨_,(Int.toNat_of_nonneg e0).symm⟩;rw[hj]at e1⊢;have ab:j<ns.length:=by omega
     exact⟨.int ns[j],jw (by rw[zB,zJ ab];rfl),_,_,rfl,by omega,by omega,λr=>kk _ _ H5 ⟨_,rfl⟩ (same_refl _) λ_ _=>⟨r,rfl⟩⟩
    ·intro Da H' acc hD sm hA ac hF
     obtain⟨xs,hx⟩:=ints_of hF;exact k Da xs H' sm hD (hx▸hA)
   ·rw[zo h1]
    exact q
  ·rw[zo (by omega)]
   exact q
structure Yp(ws:List Str):Prop where
 l0:3<=ws.length
 l1:ws.length<=6
 n:∀w∈ws,Nm w
 u:ws.Nodup
noncomputable def Hf(K:Fg_):Sp:=λvs H Q _=>∃(a:Addr)(ns:List Int),vs=[.ref a]/\SqL K H a (ns.map V.int)/\∀p ws H',Same H H'->H p=none->Yp ws->H' p=some (.lst (ws.map V.str))->Q (.ref p) H'
noncomputable def names:List Str:=["cup", "pot", "zz", "a", "teapots", "b"]
def Vf:∀w∈names,Nm w:=by
 unfold Nm;decide+kernel
def Qn:names.Nodup:=by decide+kernel
def QF(w:Str):5<=(names.filter λx=>x !=w).length:=by
 rw[<-Qn.erase_eq_filter,List.length_erase];split<;>decide
def Vj{w:Str}{m:Nat}(z:Nm w)(h0:2<=m)(h1:m<=5):Yp (w::((names.filter λx=>x !=w).take m)):=by
 have hl:=QF w;refine⟨?_,?_,?_,?_⟩
 ·rw[zA,zv];omega
 ·rw[zA,zv];omega
 ·intro v q
  rcases zp.mp q with rfl|q
  ·exact z
  ·exact Vf v (zzh.mp (zS q)).1
 ·rw[yI]
  refine⟨λhm=>?_,((zzr _ _).trans List.filter_sublist).nodup Qn⟩;have:=(zzh.mp (zS hm)).2;simp at this
theorem Wz:∀(k:Nat)(c:Int),∀d∈Ml c (List.replicate k 26),0<=d/\d<26
 |0,_,d,h=>by cases h
 |k+1,c,d,h=>by
  rw[yh]at h;rcases zp.mp h with rfl|h
  ·exact⟨zI _ (by decide),zy _ (by decide)⟩
  ·exact Wz k _ d h
def Od:(Str.ofString "abcdefghijklmnopqrstuvwxyz").cps.toList=(List.range 26).map λi=>97+i:=by decide+kernel
def Sd{d:Int}(q:0<=d)(h1:d<26):atI (Str.ofString "abcdefghijklmnopqrstuvwxyz").cps.toList d=some (97+d.toNat):=by
 rw[Od,show d=((d.toNat:Nat):Int) by omega];refine jw ?_;rw[zB,List.getElem?_range (by omega),Int.toNat_natCast];rfl
def Ir(z:Str)(c:Nat):(z++(⟨#[c]⟩:Str)).length=z.length+1:=by
 show(z.cps++ #[c]).size=z.cps.size+1;simp
def Ht(z:Str)(c x:Nat)(h:x∈(z++(⟨#[c]⟩:Str)).cps.toList):x∈z.cps.toList\/x=c:=by
 have h:x∈(z.cps++ #[c]).toList:=h
 simpa using h
def Oi(z:Str):((names.map V.str).filter λv=>!decide (v=.str z)).map id=(names.filter λx=>x !=z).map V.str:=by
 rw[List.map_id,List.filter_map];refine congrArg _ (List.filter_congr λx _=>?_);show(!decide (V.str x=V.str z))=(x !=z);by_cases h:x=z
 ·subst h;simp
 ·simp[h]
def Gq(T:Txt w K mg A D):jn P w K mg base CX0 2 A.o5 D.o5 ["_law_script"] (Hf K):=by
 refine T.qP.F.okv jH λ_ _ _ _ H vs Q E hr h=>?_
 ·obtain⟨a,ns,rfl,hS,k⟩:=h
  refine ⟨_,(fJ (gm (i:=1) jH.nd rfl orr fW)
   (fJ (Bd yZ rfl (vC (K:=K) (gM (gR (K:=K)) (pcg (nu T) hr T.qN (uE T) (fH (fX jm (pcg (iJ T) hr T.qO (iW T) (pav 0 (fH fL fO))) fL) (fH (fX Qs (ig (fH fL fO)) fL) fO))) iB (ir (fX iy fL (fX gO (pcg (iJ T) hr T.qO (iW T) (pav 0 (fH fL fO))) fL))))) (gJ (i:=2) jH.nd rfl orl)
    (fQ (gm (i:=1) jH.nd rfl orr (fX gY (pvD 1) (gF aak fW (pvD 2) (λ_ _=>rfl))))))
   (fJ (gm (i:=3) jH.nd rfl orl (gF (fV (K:=K)) (ig (fH fL (fH fL fO))) (iU xQ (by rfl) T.rB (by decide+kernel) (fH (Af (lH) (fX gO (fX jm (pcg (iJ T) hr T.qO (iW T) (pav 0 (fH fL fO))) fL) fL) fL (gA _)) fO)) (λ_ _=>rfl)))
   (fQ (gn (fX jR (ig (pav 1 fO)) (gM (gR (K:=K)) (jO (cap:=[none,some 1]) (N':=["_law_name", "_law_word"]) rfl (by walk_at "c") (vC (K:=K) (ig (fH fW (fH fW (fH fW (fH fW (fH fW (fH fW fO)))))))) (λ_ _ _ _=>(gJ (i:=0) (show(["_law_name", "_law_word"]:List Str).Nodup from by decide+kernel) rfl orl orr)) (λ_ _ _ _=>(XX (fZ (OJ) (pvD 0) (pvD 1) (gA _)))) (λ_ _ _ _=>(pvD 0))) iB (ir (pvD 3))))))))),?_⟩
  simp only[start_eq];walk_at "l";rw[ap_seq,ap_for];walk_at "i";obtain⟨c,hc⟩:∃c,c=ns.getD 1 0:=⟨_,rfl⟩;refine⟨a,ns,1,rfl,hS,_,rfl,⟨by decide,by decide⟩,sz,λp1 ai=>?_⟩;have s1:=fM (o:=.lst [V.int 26]) ai;rw[Gk];refine⟨_,fK,by decide,by decide,sz,λp2 aj=>?_⟩;have s2:=s1.trans (fM (o:=.lst (List.replicate (8:Int).toNat [V.int 26]).flatten) aj);refine⟨_,p2,List.replicate 8 26,rfl,fU (by rw[fK];rfl),λb hb=>by rw[(List.mem_replicate.mp hb).2];exact⟨by decide,by decide⟩,by rw[zzx];decide,λp3 H3 s3 au h3=>?_⟩;have s3:=s2.trans s3;refine⟨a,ns,1,rfl,s3.seq hS,_,rfl,by decide,p3,rfl,_,fU h3,λp4 am=>⟨⟨_,fU fK⟩,?_⟩⟩;rw[<-hc];have ac:H p4=none:=s3.free am;have as:=zI c (show(8:Int)≠0 by decide);have ar:=zy c (show(0:Int)<8 by decide);obtain⟨n,hn⟩:∃n:Nat,(n:Int)=1+c%8:=⟨(1+c%8).toNat,by omega⟩;rw[<-hn,jo,<-zX];have hd:∀d∈(Ml (c/8) (List.replicate 8 26)).take n,0<=d/\d<26:=λd h=>Wz _ _ d (zS h);have af:((Ml (c/8) (List.replicate 8 26)).take n).length=n:=by rw[zv,wB,zzx];omega
  generalize(Ml (c/8) (List.replicate 8 26)).take n=ds at hd af
  refine wV (K:=K) (a:=p4) (xs:=ds.map V.int) (λi σ H2=>∃z v2 v3,σ=[some (.ref a),some (.str z),v2,v3]/\Same H H2/\H2 p4=some (.lst (ds.map V.int))/\z.length=i/\∀x∈z.cps.toList,97<=x/\x<=122)
   ⟨_,none,none,rfl,s3.upd ac,fK,by decide+kernel,by decide+kernel⟩ (λi σ H2 _ ⟨_,_,_,_,_,h4,_⟩=>fU h4) ?_ ?_
  ·rintro i y σ H2 hi ⟨z,v2,v3,rfl,sm,h4,hz,hl⟩
   obtain⟨d,rfl,ah⟩:=La hi;have aq:i<ds.length:=(zr.mp ah).1;obtain⟨d0,d1⟩:=hd d (za ah);walk_at "a";refine⟨by decide+kernel,_,Sd d0 d1,?_⟩;refine⟨by rw[zc];show z.length+1<=_;omega,sm,h4,by rw[Ir,hz],λx hx=>?_⟩;rcases Ht _ _ _ hx with h|h
   ·exact hl x h
   ·omega
  ·rintro σ H2 ⟨z,v2,v3,rfl,sm,h4,hz,hl⟩
   rw[zb,af]at hz;have hN:Nm z:=⟨by omega,by omega,hl⟩;dsimp only;walk_at "l";refine⟨sz,λq1 an=>?_⟩;have t1:Same H (upd H2 q1 (.lst [V.int 2,V.int 5])):=sm.trans (fM an)
   obtain ⟨m,al,ak,ap⟩:∃m:Nat,2<=m/\m<=5/\atI [V.int 2,V.int 5] (if ns.getD 0 0/122%8=3 then 1 else 0)=some (.int m):=by
    split
    ·exact⟨5,by decide,by decide,rfl⟩
    ·exact⟨2,by decide,by decide,rfl⟩
   refine⟨a,ns,0,rfl,t1.seq hS,_,rfl,⟨by decide,by decide⟩,by decide,.inr ?_⟩;refine⟨_,fU fK,_,ap,sz,λq2 ao=>⟨sz,λq3 ae=>⟨⟨_,fU fK⟩,?_⟩⟩⟩;obtain⟨H4,ab⟩:∃H4,H4=upd (upd H2 q1 (.lst [V.int 2,V.int 5])) q2 (.lst [V.str z]):=⟨_,rfl⟩;rw[<-ab]at ae⊢;have t2:Same H H4:=ab▸t1.trans (fM ao);have hq2':H4 q2=some (.lst [V.str z]):=by rw[ab,fK]
   have t3:Same H4 (upd H4 q3 (.lst (names.map V.str))):=fM ae;refine jP.list (xs:=names.map V.str) (λσ=>∃v,σ=[v,some (.str z)]) (λv=>!decide (v=.str z)) id (fU fK) ⟨none,rfl⟩ (by rw[zb,zc];decide) ?_ ?_
   ·rintro x hx σ H5 R1 R2 ⟨v,rfl⟩ aa k1 k2
    obtain⟨w',_,rfl⟩:=zO.mp hx;walk_at "a";by_cases hw:w'=z
    ·rw[zo (λh=>h hw)]
     exact k2 (by simp[hw]) _ _ ⟨_,rfl⟩ (same_refl _)
    ·rw[zu hw]
     exact k1 (by simp[hw]) _ _ ⟨_,rfl⟩ (same_refl _)
   ·intro Da H' hD aa e
    rw[Oi]at e;refine⟨m,rfl,Da,rfl,_,fU e,λq4 ag=>?_⟩;rw[jo,<-zX];have q:H' q2=some (.lst [V.str z]):=aa _ _ (t3 _ _ hq2');refine⟨[V.str z],by rw[fY (λh=>by rw[h,ag]at q;cases q)];exact q,_,fK,?_,λq5 ad=>?_⟩
    ·rw[zc,zb,zv]
     show 1+_<=_;omega
    ·have t4:=(t2.trans t3).trans (aa.trans (fM (o:=.lst (((names.filter λx=>x !=z).take m).map V.str)) ag))
     exact k q5 (z::((names.filter λx=>x !=z).take m)) _ (t4.upd (t4.free ad)) (t4.free ad) (Vj hN al ak) fK
def Wt{j i:Nat}{σ:L2.St}{H:Hp}{Q:VK}{x s a b c d:Int}(hx:σ[j]? =some (some (.int x)))(hs:σ[i]? =some (some (.int s)))(z:0<=s/\s<4)(ha:Rg 1 1000 a)(hb:Rg 1 1000 b)(hc:Rg 1 1000 c)(hd:Rg 1 1000 d)(k:∀v H',Same H H'->Rg 1 1000 v->Q (.int v) H'):
  tOp (rI0 λi j=>V.int (i+j)) (tC (V.int 1)) (tOp (rI (λ_ j=>0<j) λi j=>V.int (i%j)) (tV j) (tOp (YH K) (ZG (uy (tC (V.int a)) (uy (tC (V.int b)) (uy (tC (V.int c)) (uy (tC (V.int d)) Ro))))) (tV i))) σ H Q:=by
 obtain⟨m,hm,bm⟩:=at4 z.1 z.2 ha hb hc hd;simp only[L2.ap_op,L2.av_V,L2.atV_iff,L2.ap_c];refine⟨_,hx,?_⟩;rw[ap_lst];simp only[L2.ap_cons,L2.ap_c,L2.ap_nil];refine⟨by rw[zc];show 4<=_;decide,λq hq=>⟨_,hs,?_⟩⟩;unfold Rg at bm;have g0:=zI x (show m≠0 by omega);have g1:=zy x (show 0<m by omega);exact⟨q,_,s,_,rfl,rfl,fU fK,hm,x,m,rfl,rfl,by omega,1,x%m,rfl,rfl,k _ _ (fM hq) ⟨by omega,by omega⟩⟩
noncomputable def Gg(K:Fg_):Sp:=λvs H Q _=>∃(c d n:Int)(wa hd:Addr)(ws:List Str)(kvs:List (Key×V)),vs=[.int c,.int d,.int n,.ref wa,.ref hd]/\H wa=some (.lst (ws.map V.str))/\Yp ws/\H hd=some (.dK kvs)/\
 (∀w:Str,∃i:Int,0<=i/\(nW kvs (Sum.inr w)).getD (.int 0)=.int i)/\Rg 0 1000000 d/\Rg 0 1000000 n/\
 ∀(t:Addr)(e:Ent)(H':Hp),Same H H'->H t=none->H' t=some (.tup (.str e.word::e.args .non))->e.good->e.lots=none->e.day=d->e.num=n->e.ware∈ws/\e.oth∈ws->Q (.ref t) H'
def Gw(T:Txt w K mg A D):jn P w K mg base CX0 2 A.o6 D.o6 ["_law_cell", "_law_day", "_law_number", "_law_wares_here", "_law_held"] (Gg K):=by
 refine T.qQ.F.okv gD λ_ _ _ _ H vs Q E hr h=>?_
 ·obtain⟨c,d,n,wa,hd,ws,kvs,rfl,aa,hW,ac,hv,ah,ai,k⟩:=h
  refine ⟨_,(fJ (Wy (pcg (nu T) hr T.qN (uE T) (pav 0 (fH (ig (fH fL (fH fL (fH fL (fH (fX vo fL fL) (fH (fX iy (fX vo fL fL) fL) (fH (fX iy (fX vo fL fL) fL) fO))))))) fO))) (Tt (K:=K) (n:=6) rfl (iK (gJ (i:=5) gD.nd rfl orl) (iK (gJ (i:=6) gD.nd rfl orl) (iK (gJ (i:=7) gD.nd rfl orl) (iK (gJ (i:=8) gD.nd rfl orl) (iK (gJ (i:=9) gD.nd rfl orl) (iK (gJ (i:=10) gD.nd rfl orl) Ay))))))))
   (fJ (gm (i:=11) gD.nd rfl orl (gG (jf (K:=K)) (by rfl) T.rq (by decide+kernel) (pav 3 fO)))
   (fJ (gm (i:=12) gD.nd rfl orl (gF (fV (K:=K)) (pvD 3) (fX gO (pvD 6) (pvD 11)) (λ_ _=>rfl)))
   (fJ (gm (i:=13) gD.nd rfl orl (Vp (Qd hr) (pvD 4) (pvD 12) fL ⟨rfl,rfl,rfl,rfl⟩))
   (fJ (gm (i:=8) gD.nd rfl orl (fX iy (gF (fV (K:=K)) (ig (fH (fX gO (pvD 8) fL) (fH (fX gO (pvD 8) fL) (fH (fX gO (pvD 8) fL) (pav 8 fO))))) (pvD 7) (λ_ _=>rfl)) fL))
   (fJ (gm (i:=9) gD.nd rfl orl (gF (fV (K:=K)) (ig (fH (fX gO (pvD 9) fL) (fH (fX gO (pvD 9) fL) (pav 9 fO)))) (fX gO (pvD 8) fL) (λ_ _=>rfl)))
   (fJ (gm (i:=10) gD.nd rfl orl (gF (fV (K:=K)) (ig (fH fL (fH (fX gO (pvD 10) fL) (pav 10 fO)))) (fX gO (fX jm (pvD 8) fL) fL) (λ_ _=>rfl)))
   (fJ (iM (PW.pt (HD (fZ (El) (pvD 5) fL (gA _)) (HD (fZ (Ei) (pvD 5) fL (gA _)) (GD (fZ (El) (pvD 13) fL (gA _)))))) (fQ (gm (i:=8) gD.nd rfl orl (fX iy fL (fX gO (pvD 8) (gG (JD rfl) (by rfl) T.rJ (by decide+kernel) (pav 13 (fH (fX vo fL fL) fO))))))) gw)
   (fJ (iM (fZ (lH) (pvD 5) fL (gA _)) (fJ (gm (i:=14) gD.nd rfl orl (fX iy (fX gO (pvD 10) (fX vo fL fL)) fL))
    (fJ (gm (i:=15) gD.nd rfl orl (gF (fV (K:=K)) (pvD 3) (fX gO (fX iy (fX iy (fX gO (pvD 6) (pvD 11)) fL) (fX gO (pvD 7) (fX Ez (pvD 11) fL))) (pvD 11)) (λ_ _=>rfl)))
    (fQ (gn (jJ (fH fW (pav 1 (pav 2 (pav 12 (pav 15 (fH (fX gO (pvD 9) (fX iy (pvD 14) fL)) (pav 14 fO)))))))))))) gw)
   (fJ (iM (fZ (El) (pvD 5) fL (gA _)) (fQ (gn (jJ (fH fW (pav 1 (pav 2 (pav 12 (fH (fX iy fL (fX gO (pvD 9) (gF (fV (K:=K)) (ig (fH fL (fH fL (fH fL (fH fL fO))))) (pvD 7) (λ_ _=>rfl)))) (fH (fX iy fL (fX gO (pvD 10) (gF (fV (K:=K)) (ig (fH fL (fH fL (fH fL (fH fL fO))))) (pvD 7) (λ_ _=>rfl)))) fO))))))))) gw)
   (fJ (iM (fZ (lH) (pvD 5) fL (gA _)) (fQ (gn (jJ (fH fW (pav 1 (pav 2 (pav 12 (pav 8 (fH (fX lC (pvD 9) (pvD 10)) (fH (fX Ez (pvD 1) (fX gO (pvD 10) (fX iy (pvD 1) fL))) fO)))))))))) gw)
   (fJ (iM (PW.pt (Cg (fZ (Ei) (pvD 5) fL (gA _)) (wI (fZ (lH) (pvD 13) fL (gA _))))) (fQ (gn (jJ (fH fW (pav 1 (pav 2 (pav 12 (pav 8 (pav 9 (pav 10 fO)))))))))) gw)
   (fJ (iM (fZ (Ei) (pvD 5) fL (gA _)) (fQ (gn (jJ (fH fW (pav 1 (pav 2 (pav 12 (pav 8 (pav 9 (pav 10 (fH vQ fO))))))))))) gw)
   (fQ (gn (jJ (fH fW (pav 1 (pav 2 (pav 12 (pav 8 (fH vQ fO)))))))))))))))))))))),?_⟩
  simp only[start_eq];walk_at "n";refine⟨⟨by decide,by decide,by decide⟩,⟨by decide,by decide,by decide⟩,⟨by decide,by decide,by decide⟩,sz,λp1 bw=>?_⟩;have s1:=fM (o:=.lst [V.int 16,V.int 6,V.int 4,V.int (10^(9:Int).toNat),V.int (10^(9:Int).toNat+1),V.int (10^(9:Int).toNat+1)]) bw;refine⟨c,p1,[16,6,4,1000000000,1000000001,1000000001],rfl,fU (by rw[fK];rfl),by unfold Py;decide,by decide,λp2 H2 s2 b4 h2=>?_⟩;have s2:=s1.trans s2
  obtain ⟨kd,ix,si,pc,pr,ex,bl,aw,bq,bsz,aj,au,am⟩:∃kd ix si pc pr ex:Int,Ml c [16,6,4,1000000000,1000000001,1000000001]=[kd,ix,si,pc,pr,ex]/\Rg 0 15 kd/\Rg 0 5 ix/\Rg 0 3 si/\Rg 0 999999999 pc/\Rg 0 1000000000 pr/\Rg 0 1000000000 ex:=
   ⟨_,_,_,_,_,_,rfl,uL (by decide) (by decide) (by decide),uL (by decide) (by decide) (by decide),uL (by decide) (by decide) (by decide),uL (by decide) (by decide) (by decide),uL (by decide) (by decide) (by decide),uL (by decide) (by decide) (by decide)⟩
  rw[bl]at h2;refine⟨p2,rfl,_,fU h2,rfl,_,_,rfl,_,_,rfl,_,_,rfl,_,_,rfl,_,_,rfl,_,_,rfl,rfl,?_⟩;have aa:=s2 _ _ aa;have ac:=s2 _ _ ac;walk_at "n";refine⟨_,.inl (fU aa),?_⟩;rw[zb];have b7:=hW.l0;have b6:=hW.l1;unfold Rg at aw bq bsz aj au am ah ai;have al:=zI ix (show(ws.length:Int)≠0 by omega);have ao:=zy ix (show(0:Int)<ws.length by omega);obtain⟨w,bx,q⟩:=Rb al ao;have be:Nm w:=hW.n w (za q);walk_at "n";refine⟨by omega,_,fU aa,_,bx,?_⟩;obtain⟨th,b3,bu⟩:=hv w;walk_at "n";refine⟨.inl ⟨kvs,.inl ac⟩,_,Tv (k:=Sum.inr w) ac,?_⟩;rw[bu];walk_at "n";refine⟨by decide,by decide,by decide,sz,λq1 bm=>?_⟩;obtain⟨p0,ba,bj⟩:=at4 (a:=pc%4) (b:=pc%50) (c:=pc%3000) (d:=pc) (lo:=0) (hi:=999999999) bsz.1 (by omega) (uL (by decide) (by decide) (by decide)) (uL (by decide) (by decide) (by decide)) (uL (by decide) (by decide) (by decide)) aj;refine⟨_,fU fK,_,ba,_,rfl,?_⟩;generalize b0:upd H2 q1 _=H3;have s3:Same H2 H3:=b0▸fM bm;obtain⟨p,hp⟩:∃p,p=p0+1:=⟨_,rfl⟩;rw[<-hp];have bp:Rg 1 1000000000 p:=by unfold Rg at bj⊢;omega
  walk_at "n";obtain⟨r,bc,br⟩:=at3 (i:=p%3) (a:=pr%9) (b:=pr%500) (c:=pr) (lo:=0) (hi:=1000000000) (zI _ (by decide)) (zy _ (by decide)) (uL (by decide) (by decide) (by decide)) (uL (by decide) (by decide) (by decide)) au;refine⟨by decide,by decide,sz,λq2 bo=>⟨by decide,_,fU fK,_,bc,?_⟩⟩;generalize bh:upd H3 q2 _=H4;have s4:Same H3 H4:=bh▸fM bo;walk_at "n";obtain⟨f,bs,bf⟩:=at3 (i:=p/3%3) (a:=0) (b:=ex%30) (c:=ex) (lo:=0) (hi:=1000000000) (zI _ (by decide)) (zy _ (by decide)) ⟨by decide,by decide⟩ (uL (by decide) (by decide) (by decide)) am;refine⟨by decide,sz,λq3 bz=>⟨⟨by decide,by decide⟩,by decide,_,fU fK,_,bs,?_⟩⟩;generalize bt:upd H4 q3 _=H5;have s5:Same H4 H5:=bt▸fM bz;have sH:Same H H5:=s2.trans (s3.trans (s4.trans s5));have aa:H5 wa=some (.lst (ws.map V.str)):=s5 _ _ (s4 _ _ (s3 _ _ aa));refine wU (λσ H'=>H'=H5/\∃p',Rg 1 1000000000 p'/\σ=[some (.int c),some (.int d),some (.int n),some (.ref wa),some (.ref hd),some (.int kd),some (.int ix),some (.int si),some (.int p'),some (.int r),some (.int f),some (.int ws.length),some (.str w),some (.int th),none,none]) ?_ ?_
  rotate_left
  ·intro N hN
   walk_at "i";have ab:N [some (.int c),some (.int d),some (.int n),some (.ref wa),some (.ref hd),some (.int kd),some (.int ix),some (.int si),some (.int p),some (.int r),some (.int f),some (.int ws.length),some (.str w),some (.int th),none,none] H5:=hN _ _ ⟨rfl,p,bp,rfl⟩;split
   ·split
    ·split
     ·refine⟨⟨by decide,by decide,by decide⟩,?_,hN _ _ ⟨rfl,_,?_,rfl⟩⟩
      ·split
       ·decide
       ·assumption
      ·rw[e9]
       split
       ·unfold Rg
        have h1:=zI p (show(1000000000:Int)≠0 by decide);have h2:=zy p (show(0:Int)<1000000000 by decide);omega
       ·unfold Rg
        have h1:=zI p (show th≠0 by omega);have h2:=zy p (show 0<th by omega);omega
     ·exact ab
    ·exact ab
   ·exact ab
  ·rintro σ' H' ⟨rfl,p',ak,rfl⟩
   have bB:Base d n w:=⟨ah.1,ah.2,ai.1,ai.2,be⟩;have ax:Rg 0 1000000000000000000 (r*f):=Zd br bf;have ae:=ak;have ap:=br;have an:=bf;unfold Rg at ak br bf;walk_at "nxi";by_cases ar:kd=15
   ·rw[zu ar]
    walk_at "n";refine⟨⟨by decide,by decide,by decide⟩,by decide,?_⟩;rw[e6];obtain⟨wh,bk⟩:∃wh,wh=f%1000000+1:=⟨_,rfl⟩
    have ad:Rg 1 1000000 wh:=by
     have h1:=zI f (show(1000000:Int)≠0 by decide);have h2:=zy f (show(0:Int)<1000000 by decide);unfold Rg;omega
    rw[<-bk];have bn:=zI si (show(ws.length:Int) - 1≠0 by omega);have az:=zy si (show(0:Int)<(ws.length:Int) - 1 by omega);have bb:=zI (ix%ws.length+1+si%((ws.length:Int) - 1)) (show(ws.length:Int)≠0 by omega);have bg:=zy (ix%ws.length+1+si%((ws.length:Int) - 1)) (show(0:Int)<ws.length by omega);have b5:=Uh al ao bn az;obtain⟨u,bv,af⟩:=Rb bb bg;have bd:u≠w:=WR hW.u af q (by omega);walk_at "n";refine⟨by omega,by omega,by omega,_,fU aa,_,bv,?_⟩;have bi:=zI r (show wh+1≠0 by unfold Rg at ad;omega);have b8:=zy r (show 0<wh+1 by unfold Rg at ad;omega);rw[ap_ret];(try dsimp only);walk_at "i";refine⟨by unfold Rg at ad;omega,sz,λt z=>?_⟩;exact k t (.part d n w u (r%(wh+1)) wh) _ (sH.upd (sH.free z)) (sH.free z) fK ⟨bB,hW.n u (za af),bd,ad,⟨bi,by omega⟩⟩ rfl rfl rfl ⟨za q,za af⟩
   rw[zo ar,ap_next];walk_at "nxi";by_cases as:kd>11
   ·rw[zu as]
    rw[ap_ret];generalize h5:tOp (rI0 λi j=>V.int (i+j)) (tC (V.int 1)) (tOp (rI (λ_ j=>0<j) λi j=>V.int (i%j)) (tV 9) (tOp (YH K) (ZG (uy (tC (V.int 3)) (uy (tC (V.int 3)) (uy (tC (V.int 10)) (uy (tC (V.int 1000)) Ro))))) (tV 7)))=e5;generalize h6:tOp (rI0 λi j=>V.int (i+j)) (tC (V.int 1)) (tOp (rI (λ_ j=>0<j) λi j=>V.int (i%j)) (tV 10) (tOp (YH K) (ZG (uy (tC (V.int 3)) (uy (tC (V.int 5)) (uy (tC (V.int 10)) (uy (tC (V.int 1000)) Ro))))) (tV 7)))=e6
    (try dsimp only);walk_at "i"
    have R3:∀x:Int,1<=x->x<=1000->Rg 1 1000 x:=λx a b=>⟨a,b⟩;rw[<-h5];refine Wt rfl rfl ⟨bsz.1,by omega⟩ (R3 _ (by decide) (by decide)) (R3 _ (by decide) (by decide)) (R3 _ (by decide) (by decide)) (R3 _ (by decide) (by decide)) λv1 H1 av b1=>?_;rw[<-h6];refine Wt rfl rfl ⟨bsz.1,by omega⟩ (R3 _ (by decide) (by decide)) (R3 _ (by decide) (by decide)) (R3 _ (by decide) (by decide)) (R3 _ (by decide) (by decide)) λv2 H2' ay b2=>⟨sz,λt z=>?_⟩;have ag:=sH.trans (av.trans ay);exact k t (.split d n w v1 v2) _ (ag.upd (ag.free z)) (ag.free z) fK ⟨bB,b1,b2⟩ rfl rfl rfl ⟨za q,za q⟩
   rw[zo as,ap_next];walk_at "nxi";by_cases h6:kd=6
   ·rw[zu h6]
    have g0:=zI f (show d+1≠0 by omega);have g1:=zy f (show 0<d+1 by omega);rw[ap_ret];(try dsimp only);walk_at "i";refine⟨Er (by omega) (by omega),by omega,sz,λt z=>?_⟩;exact k t (.gift d n w p' (r*f) (d - f%(d+1))) _ (sH.upd (sH.free z)) (sH.free z) fK ⟨bB,ae,ax,⟨by omega,by omega⟩⟩ rfl rfl rfl ⟨za q,za q⟩
   rw[zo h6,ap_next];walk_at "nxi"
   have aq:(7:Nat)<=sizeLine/\∀t,H' t=none->Q (.ref t) (upd H' t (.tup [V.str (Str.ofString "buy"),V.int d,V.int n,V.str w,V.int p',V.int r,V.int f])):=
    ⟨sz,λt z=>k t (.buy d n w p' r f) _ (sH.upd (sH.free z)) (sH.free z) fK ⟨bB,ae,ap,an⟩ rfl rfl rfl ⟨za q,za q⟩⟩
   by_cases h7:kd<6
   ·rw[zu h7]
    rw[ap_ret];(try dsimp only);walk_at "i";exact aq
   rw[zo h7];by_cases h8:th=0
   ·rw[zu h8]
    rw[ap_ret];(try dsimp only);walk_at "i";exact aq
   rw[zo h8,ap_next];walk_at "nxi";by_cases h9:kd<10
   ·rw[zu h9]
    rw[ap_ret];(try dsimp only);walk_at "i";refine⟨sz,λt z=>?_⟩;exact k t (.sell d n w p' r f none) _ (sH.upd (sH.free z)) (sH.free z) fK ⟨bB,ae,ap,an,trivial⟩ rfl rfl rfl ⟨za q,za q⟩
   rw[zo h9,ap_next];dsimp only;rw[ap_ret];(try dsimp only);walk_at "i";refine⟨sz,λt z=>?_⟩;exact k t (.give d n w p' none) _ (sH.upd (sH.free z)) (sH.free z) fK ⟨bB,ae,trivial⟩ rfl rfl rfl ⟨za q,za q⟩
def Wh(n d:Nat):HT.sIx n d (some (-1))=n - 1:=by
 unfold HT.sIx;simp;omega
def Uq(pre:List V)(x:V):uN (pre++[x]) none (some (-1))=pre:=by
 unfold uN;rw[HT.sIx_none,Wh,zzt,zh];show(pre++[x]).take (pre.length+1 - 1 - 0)=pre;rw[Nat.add_sub_cancel,Nat.sub_zero,List.take_left]
def JR(pre:List V)(x:V):¬(HT.sIx (pre++[x]).length 0 none=0/\HT.sIx (pre++[x]).length (pre++[x]).length (some (-1))=(pre++[x]).length):=λh=>by
 have h1:=h.2;rw[Wh,zh,zM]at h1;omega
noncomputable def xu(K:Fg_):Sp:=λvs H Q _=>∃(t:Addr)(c:Int)(e:Ent),vs=[.ref t,.int c]/\H t=some (.tup (.str e.word::e.args .non))/\e.good/\e.lots=none/\
 ∀(t':Addr)(e':Ent)(H':Hp),Same H H'->Hj H' t' e'->e'.good5->e'.day=e.day->e'.num=e.num->Q (.ref t') H'
structure acd(xs pre:List V)(p:Int)(mk:Rs->Ent)(dd nn:Int):Prop where
 x:xs=pre++[.non]
 p4:atI xs 4=some (.int p)
 l:pre.length<=7
 n:pre≠[]
 pp:1<=p
 g:∀rs,Ce rs p->(mk rs).good
 o:∀rs,(mk rs).lots=some rs
 e:∀rs nt,.str (mk rs).word::(mk rs).args nt=pre++[nt]
 dn:∀rs,(mk rs).day=dd/\(mk rs).num=nn
def xR(T:Txt w K mg A D):jn P w K mg base CX0 1 A.o9 D.o9 ["_law_told", "_law_cell"] (xu K):=by
 refine T.qT.F.okv gW λ_ _ _ _ H vs Q E hr h=>?_
 ·obtain⟨t,c,e,rfl,ht,hg,ho,k⟩:=h
  refine ⟨_,(fJ (iM (PW.pt (Cg (fZ (Jm (K:=K)) (gF (mC (K:=K)) (pvD 0) fL (λ_ _=>rfl)) (jJ (fH fW (fH fW fO))) (by with_unfolding_all rfl)) (wI (fZ (lH) (fX gO (pvD 1) fL) fL (gA _))))) (fQ (gn (pvD 0))) gw)
   (fJ (gm (i:=2) gW.nd rfl orl (gF (mC (K:=K)) (pvD 0) fL (λ_ _=>rfl)))
   (fJ (gm (i:=3) gW.nd rfl orl (ig fO))
   (fJ (Bd yZ rfl (Dh (by rfl) T.rL (fH (fX iy fL (fX gO (fX jm (pvD 1) fL) fL)) fO)) (gJ (i:=4) gW.nd rfl orl)
    (fJ (gm (i:=5) gW.nd rfl orl (fX iy fL (fX gO (fX jm (pvD 1) (fX iy (fX lC fL (pvD 4)) fL)) (pvD 2))))
    (fJ (iM (fZ (lH) (pvD 4) (fX gO (fX jm (pvD 1) fL) fL) (gA _)) (fQ (gm (i:=5) gW.nd rfl orl (pvD 2))) gw)
    (fJ (iM (fZ (El) (pvD 2) fL (gA _)) (fJ (gK (jD (K:=K) yc yv yw nF (pvD 3) (fH (jJ (fH (fX iy (fX gO (pvD 1) (fX vo fL fL)) (fX lC (pvD 4) (fX iy fL (fX gO (fX jm (pvD 1) fL) fL)))) (pav 5 fO))) fO)))
     (fQ (gm (i:=2) gW.nd rfl orl (fX Ez (pvD 2) (pvD 5))))) gw)
    (fQ (iM (fZ (lH) (pvD 2) fL (gA _)) (fQ (gn (fX (UV (K:=K)) (gM (Rk (K:=K)) (pvD 0) iB (ir (UW Mr fL))) (jJ (fH (iU (DR (K:=K)) (by rfl) T.rM (by decide+kernel) (pav 3 fO)) fO))))) gw))))))
   (fQ (gn (pvD 0))))))),?_⟩
  simp only[start_eq];walk_at "l";refine⟨_,jg ht,.str e.word,jw (j:=0) rfl,sz,λq hq=>⟨_,.inr (jg fK),rfl,rfl,?_⟩⟩;have s1:=fM (o:=.tup [V.str (Str.ofString "sell"),V.str (Str.ofString "give")]) hq;have ae:Q (.ref t) (upd H q (.tup [V.str (Str.ofString "sell"),V.str (Str.ofString "give")])):=k t e _ s1 ⟨.non,s1 _ _ ht,by rw[ho];rfl⟩ ⟨hg,λrs z=>by rw[ho]at z;cases z⟩ rfl rfl;obtain⟨xs,ad⟩:∃xs,xs=V.str e.word::e.args .non:=⟨_,rfl⟩
  have ah:inV (V.str e.word) [V.str (Str.ofString "sell"),V.str (Str.ofString "give")]=true->∃pre p mk,acd xs pre p mk e.day e.num:=by
   intro ac
   cases e with
   |sell d n w p r f o=>exact⟨[.str "sell",.int d,.int n,.str w,.int p,.int r,.int f],p,λrs=> .sell d n w p r f (some rs),ad,by rw[ad];rfl,by simp,by simp,hg.2.1.1,λrs h=>⟨hg.1,hg.2.1,hg.2.2.1,hg.2.2.2.1,h⟩,λ_=>rfl,λ_ _=>rfl,λ_=>⟨rfl,rfl⟩⟩
   |give d n w p o=>exact⟨[.str "give",.int d,.int n,.str w,.int p],p,λrs=> .give d n w p (some rs),ad,by rw[ad];rfl,by simp,by simp,hg.2.1.1,λrs h=>⟨hg.1,hg.2.1,h⟩,λ_=>rfl,λ_ _=>rfl,λ_=>⟨rfl,rfl⟩⟩
   |buy=>exact absurd (show inV (V.str (Str.ofString "buy")) _=true from ac) (by decide+kernel)
   |gift=>exact absurd (show inV (V.str (Str.ofString "gift")) _=true from ac) (by decide+kernel)
   |split=>exact absurd (show inV (V.str (Str.ofString "split")) _=true from ac) (by decide+kernel)
   |part=>exact absurd (show inV (V.str (Str.ofString "part")) _=true from ac) (by decide+kernel)
  rw[<-ad]at ht;by_cases ac:inV (V.str e.word) [V.str (Str.ofString "sell"),V.str (Str.ofString "give")]=false
  ·rw[zu ac];exact ae
  rw[zo ac];refine⟨by decide,?_⟩;by_cases h3:c%3=0
  ·rw[zu h3];exact ae
  rw[zo h3];obtain⟨pre,p,mk,hc⟩:=ah (by simpa using ac);clear ah ae;generalize upd H q _=H1 at s1;walk_at "l";refine⟨_,jg (s1 _ _ ht),_,hc.p4,?_⟩;walk_at "l";refine⟨sz,λlp ay=>?_⟩;have aj:H lp=none:=s1.free ay;rw[ap_seq,ap_for];walk_at "i"
  obtain ⟨N,hN,bd⟩:∃N:Nat,(N:Int)=c/3%5/\N<=4:=by
   have h1:=zI (c/3) (show(5:Int)≠0 by decide);have h2:=zy (c/3) (show(0:Int)<5 by decide);exact⟨(c/3%5).toNat,by omega,by omega⟩
  rw[<-hN];refine⟨⟨by decide,by decide⟩,by decide,by omega,by omega,?_⟩;rw[show(1+(N:Int)).toNat=N+1 by omega]
  obtain ⟨st,av,bc,bb⟩:∃st:Int,st=1+c/11%9/\1<=st/\st<=9:=by
   have h1:=zI (c/11) (show(9:Int)≠0 by decide);have h2:=zy (c/11) (show(0:Int)<9 by decide);exact⟨_,rfl,by omega,by omega⟩
  obtain⟨b,hb,b0,b1⟩:∃b:Int,b=c%10^Int.toNat 5/\0<=b/\b<100000:=⟨_,rfl,zI _ (by decide),zy _ (by decide)⟩
  refine Kc.range (λi σ H2=>∃rs left v4 v5,σ=[some (.ref t),some (.int c),some (.int left),some (.ref lp),v4,v5]/\Same H H2/\H2 lp=some (.lst (refs rs))/\Mh H2 rs/\1<=left/\left<=p/\left+(rs.map (·.2.2)).sum=p/\rs.length=i/\(∀r∈rs,1<=r.2.2/\r.2.2<=p)/\rs.map (·.2.1)=(List.range i).map (fun(j:Nat)=>b+(j:Int)*st)/\i<=N)
   ⟨[],p,none,none,rfl,s1.upd aj,fK,(λr hr=>by cases hr),hc.pp,yyi _,by simp,rfl,(λr hr=>by cases hr),rfl,zV _⟩ ?_ ?_
  ·rintro i σ H2 hi ⟨rs,left,v4,v5,rfl,s2,hl,hL,l0,l1,al,ai,am,ag,aq⟩
   rw[ap_name];simp only[List.set_cons_zero,List.set_cons_succ,Int.zero_add];walk_at "l";have g0:=zI (c/(7*(i:Int)+5)) (show left≠0 by omega);have g1:=zy (c/(7*(i:Int)+5)) (show 0<left by omega);refine⟨Er (by decide) (by decide),⟨by omega,z9 (show(7*(i:Int)+5).natAbs<=100 by omega) (by decide)⟩,by omega,?_⟩;refine wU (λσ H'=>H'=H2/\∃so,1<=so/\so<=left/\(i=N->so=left)/\σ=[some (.ref t),some (.int c),some (.int left),some (.ref lp),some (.int i),some (.int so)]) ?_ ?_
   rotate_left
   ·intro M hM
    walk_at "i";refine⟨⟨by decide,by decide⟩,by decide,?_⟩;rw[<-hN];by_cases hk:(i:Int)=N
    ·rw[zu hk]
     exact hM _ _ ⟨rfl,left,by omega,yyi _,λ_=>rfl,rfl⟩
    ·rw[zo hk]
     exact hM _ _ ⟨rfl,_,by omega,by omega,λh=>absurd h (by omega),rfl⟩
   ·rintro σ' H' ⟨rfl,so,az,bf,ax,rfl⟩
    walk_at "l";rw[zu (by omega)];walk_at "l";refine⟨tyL (fU hl),⟨by decide,by decide,by decide⟩,by decide,⟨by decide,by decide⟩,by decide,Er (by omega) (by omega),sz,λq1 ak=>?_⟩;rw[<-av,<-hb];have ap:lp≠q1:=λh=>by rw[h,ak]at hl;cases hl
    refine⟨refs rs,by rw[fY ap];exact hl,by rw[Gf,zc];omega,?_⟩;obtain⟨aa,ab⟩:∃aa:Rs,aa=rs++[(q1,b+i*st,so)]:=⟨_,rfl⟩;have ar:refs rs++[V.ref q1]=refs aa:=by rw[ab];unfold refs;rw[zk];rfl
    rw[ar];generalize af:upd (upd H' q1 _) lp (.lst (refs aa))=H3;have s3:Same H H3:=af▸(s2.upd (s2.free ak)).upd aj;have ao:H3 lp=some (.lst (refs aa)):=by rw[<-af,fK]
    have an:Mh H3 aa:=by
     intro r hr;rw[ab]at hr;rcases zx.mp hr with h|h
     ·have h2:=hL r h
      rw[<-af,fY (λz=>by rw[z,hl]at h2;cases h2),fY (λz=>by rw[z,ak]at h2;cases h2)];exact h2
     ·rw[zC.mp h,<-af,fY ap.symm,fK]
    have hsum':(aa.map (·.2.2)).sum=(rs.map (·.2.2)).sum+so:=by rw[ab,zk,List.sum_append];simp
    have hlen':aa.length=i+1:=by rw[ab,zh,ai];rfl
    have hb2':∀r∈aa,1<=r.2.2/\r.2.2<=p:=by
     intro r hr;rw[ab]at hr;rcases zx.mp hr with h|h
     ·exact am r h
     ·rw[zC.mp h];exact⟨az,by show so<=p;omega⟩
    have hnum':aa.map (·.2.1)=(List.range (i+1)).map (fun(j:Nat)=>b+(j:Int)*st):=by
     rw[ab,zk,ag,List.range_succ,zk];rfl
    by_cases h0:left - so=0
    ·rw[zu h0]
     have hG:Ce aa p:=by
      refine⟨by omega,λr hr=>?_,?_,by omega⟩
      ·have h1:r.2.1∈aa.map (·.2.1):=zO.mpr ⟨r,hr,rfl⟩
       rw[hnum']at h1;obtain⟨j,hj,e⟩:=zO.mp h1;have hj:=List.mem_range.mp hj;have m0:0<=(j:Int)*st:=Int.mul_nonneg (by omega) (by omega);have m1:(j:Int)*st<=4*9:=Int.mul_le_mul (by omega) bb (by omega) (by decide);exact⟨by omega,by omega,hb2' r hr⟩
      ·rw[hnum']
       refine List.pairwise_map.mpr (List.nodup_range.imp fun{a a'} h e=>h ?_);have e2:(a:Int)*st=(a':Int)*st:=by omega
       have:=Int.eq_of_mul_eq_mul_right (show st≠0 by omega) e2;omega
     have ht:=hc.x▸ht;refine⟨_,jg (s3 _ _ ht),JR _ _,λp1 as=>?_⟩;rw[Uq];have t1:=fM (o:=.tup pre) as;refine⟨refs aa,.inl ⟨fU (t1 _ _ ao),λp2 au=>⟨sz,λp3 ba=>?_⟩⟩⟩;have t2:=fM (o:=.tup (refs aa)) au;have t3:=fM (o:=.tup [V.ref p2]) ba;have be:=hc.l;refine⟨p1,p3,pre,[.ref p2],rfl,rfl,jg (t3 _ _ (t2 _ _ fK)),jg fK,hc.n,by rw[zc,zM];omega,(λh=>by cases h),λ_ p4 aw=>?_⟩;have t4:=fM (o:=.tup (pre++[V.ref p2])) aw;have tt:=t1.trans (t2.trans (t3.trans t4));refine k p4 (mk aa) _ (s3.trans tt) ⟨.ref p2,by rw[fK,hc.e],?_⟩ ⟨hc.g aa hG,λrs z=>by rw[hc.o]at z;cases z;omega⟩ (hc.dn aa).1 (hc.dn aa).2;rw[hc.o];exact⟨p2,rfl,t4 _ _ (t3 _ _ fK),an.same tt⟩
    ·rw[zo h0]
     exact ⟨s3,aa,ao,an,by omega,by omega,by omega,hlen',hb2',hnum',by
      rcases Nat.lt_or_ge i N with h|h
      ·omega
      ·exact absurd (ax (by omega)) (by omega)⟩
  ·rintro σ H2 ⟨rs,left,v4,v5,rfl,s2,hl,hL,l0,l1,al,ai,am,ag,aq⟩
   exact absurd aq (by omega)
noncomputable def uX(T:Txt w K mg A D)(z:Value)(A':Around)(outer:List Env)(s0:Shared)(H:Hp)(E:XK)(q:mH 2 (A'.deeper (envOfC "_law_any" (fP lN) s0.heap.objs.size A.pf z))):
  {t:TS//PSs (uD CX0 P w K mg base ["_law_script", "_law_most", "_law_wares_here", "_law_by", "_law_low", "_law_told", "_law_k", "_law_cell", "_law_small", "_law_great", "_law_kind", "_law_more", "_law_day", "_law_held", "_law_row"] "_law_any" (fP lN) A.pf z A' outer s0 H E).nox (iC lN) t}:=
 ⟨_,(fJ (gm (i:=2) gU.nd rfl orl (pcg (Gq T) q T.qP (HW T) (pav 0 fO)))
   (fJ (gm (i:=3) gU.nd rfl orl (fX iy fL (fX gO (pcg (iJ T) q T.qO (iW T) (pav 0 (fH fL fO))) fL)))
   (fJ (gm (i:=4) gU.nd rfl orl (fX gO (fX jm (pcg (iJ T) q T.qO (iW T) (pav 0 (fH fL fO))) fL) (fX vo fL fL)))
   (fJ (gm (i:=5) gU.nd rfl orl (ig fO))
   (fJ (Bd yZ rfl (WP (K:=K) (by rfl) T.rH (fH (gM (gR (K:=K)) (pcg (Fv T) q T.qS (IK T) (pav 0 fO)) iB (ir (pvD 1))) fO)) (FW (K:=K) (n:=2) rfl (iK (gJ (i:=6) gU.nd rfl orl) (iK (gJ (i:=7) gU.nd rfl orl) Ay)))
    (fJ (Wy (pcg (nu T) q T.qN (uE T) (pav 7 (fH (ig (fH fL (fH (fX iy (fX vo fL fL) fL) (fH fL (fH fL fO))))) fO))) (Tt (K:=K) (n:=4) rfl (iK (gJ (i:=8) gU.nd rfl orl) (iK (gJ (i:=9) gU.nd rfl orl) (iK (gJ (i:=10) gU.nd rfl orl) (iK (gJ (i:=11) gU.nd rfl orl) Ay))))))
    (fJ (gm (i:=12) gU.nd rfl orl (gF (fV (K:=K)) (ig (pav 8 (pav 9 (fH (fX gO (pvD 9) fL) fO)))) (pvD 10) (λ_ _=>rfl)))
    (fJ (gm (i:=13) gU.nd rfl orl (gF (fV (K:=K)) (ig (fH FT (fH (XJ (Fq (gF (fV (K:=K)) (pvD 2) fL (λ_ _=>rfl)) (fX vo fL fL) (Fq (gF (fV (K:=K)) (pvD 2) fL (λ_ _=>rfl)) fL (Fq (gF (fV (K:=K)) (pvD 2) fL (λ_ _=>rfl)) (fX iy fL (pvD 8)) YB))) rfl rfl (zzD _ _) (Nat.le_of_ble_eq_true rfl)) fO))) (iU xQ (by rfl) T.rB (by decide+kernel) (fH (Af (El) (pvD 11) fL (gA _)) fO)) (λ_ _=>rfl)))
    (fJ (gm (i:=14) gU.nd rfl orl (pcg (Gw T) q T.qQ (Im T) (fH (fX jm (pvD 7) fL) (pav 12 (fH (fX iy (pvD 4) (fX gO (fX lC (fX iy (pvD 6) fL) (pvD 3)) fL)) (pav 2 (pav 13 fO)))))))
    (fQ (gK (jD (K:=K) yc yv yw nF (pvD 5) (fH (pcg (xR T) q T.qT (Ab T) (pav 14 (fH (fX jm (pvD 7) fL) fO))) fO)))))))))
   (fQ (gn (pvD 5))))))))⟩
def abp:∀b:Fin 61,b.val≠0->∃v:Fin 61,b.val*v.val%61=1:=by decide+kernel
def Uk{b i j:Nat}(b0:1<=b)(b1:b<=60)(hi:i<=60)(z:j<=60)(h:i*b%61=j*b%61):i=j:=by
 obtain⟨v,q⟩:=abp ⟨b,by omega⟩ (by show b≠0;omega);have q:b*v.val%61=1:=q
 have key:∀x,x<=60->x=(x*b%61)*v.val%61:=λx hx=>by
  rw[Nat.mod_mul_mod,Nat.mul_assoc,Nat.mul_mod,q,Nat.mul_one,Nat.mod_mod,Nat.mod_eq_of_lt (by omega)]
 rw[key i hi,key j z,h]
def Yl{q b:Int}{i j:Nat}(b0:1<=b)(z:b<=60)(hi:i<60)(hj:j<60)(h:q+((i:Int)+1)*b%61=q+((j:Int)+1)*b%61):i=j:=by
 obtain⟨n,rfl⟩:∃n:Nat,b=n:=⟨b.toNat,by omega⟩;have h1:((i:Int)+1)*n%61=((j:Int)+1)*n%61:=by omega
 have h2:(i+1)*n%61=(j+1)*n%61:=by exact_mod_cast h1
 have:=Uk (b:=n) (i:=i+1) (j:=j+1) (by omega) (by omega) (by omega) (by omega) h2;omega
def Xf(z w1 q:Str){a b c:Int}(ha:0<=a)(hc:0<=c)(hb:0<=b:=by decide)(w:Str):∃i:Int,0<=i/\(nW (Dl [] [(Sum.inr z,V.int a),(Sum.inr w1,V.int b),(Sum.inr q,V.int c)]) (Sum.inr w:Key)).getD (.int 0)=.int i:=by
 show∃i:Int,0<=i/\(nW (putK (putK (putK [] (Sum.inr z) (V.int a)) (Sum.inr w1) (V.int b)) (Sum.inr q) (V.int c)) (Sum.inr w:Key)).getD (.int 0)=.int i;rw[xg,xg,xg];split
 ·exact⟨c,hc,rfl⟩
 ·split
  ·exact⟨b,hb,rfl⟩
  ·split
   ·exact⟨a,ha,rfl⟩
   ·exact⟨0,yyi _,rfl⟩
def Tn{H:Hp}{q t:Addr}{e:Ent}{xs ys:List V}(hq:H q=some (.lst xs))(h:Hj H t e):Hj (upd H q (.lst ys)) t e:=by
 have key:∀{b:Addr}{zs:List V},H b=some (.tup zs)->(upd H q (.lst ys)) b=some (.tup zs):=λhb=>(fY λz=>by rw[z,hq]at hb;cases hb).trans hb;obtain⟨nt,ht,hn⟩:=h;refine⟨nt,key ht,?_⟩;revert hn
 cases e.lots with
 |none=>exact λh=>h
 |some rs=>
  rintro⟨l,e0,hl,hL⟩;exact⟨l,e0,key hl,λr hr=>key (hL r hr)⟩
structure Lp(B H:Hp)(pt:Addr)(tl:EL)(low by':Int)(i:Nat):Prop where
 s:Same B H
 l:H pt=some (.lst (jz tl))
 t:ToldN H tl
 n:tl.length=i
 m:∀(j:Nat) r,tl[j]? =some r->r.2.num=low+((j:Int)+1)*by'%61
theorem Lp.same{B H H':Hp}{pt:Addr}{tl:EL}{q z:Int}{i:Nat}(h:Lp B H pt tl q z i)(s:Same H H'):Lp B H' pt tl q z i:=⟨h.s.trans s,s _ _ h.l,h.t.same s,h.n,h.m⟩
noncomputable def Kg(K:Fg_):Sp:=λvs H Q _=>∃(a:Addr)(ns:List Int)(m:Nat),vs=[.ref a,.int m]/\SqL K H a (ns.map V.int)/\ns.length<=63/\m<=60/\
 ∀p (tl:EL) H',Same H H'->H p=none->H' p=some (.lst (jz tl))->ToldN H' tl->tl.length<=m->(tl.map (·.2.num)).Nodup->(∀r∈tl,r.2.num<1000000)->Q (.ref p) H'
def Lh(T:Txt w K mg A D):jn P w K mg base CX0 3 A.pf D.pf ["_law_script", "_law_most"] (Kg K):=by
 refine T.qU.F.ok gU (by walk_at "v") (λbw A' outer s0 H vs Q E hr h=>?_)
 ·obtain⟨a,ns,m,rfl,hS,hl,hm,k⟩:=h
  refine⟨(uX (base:=base) T bw A' outer s0 H E hr).1,(uX (base:=base) T bw A' outer s0 H E hr).2,?_⟩;unfold uX;simp only[start_eq];walk_at "m";refine⟨a,ns,rfl,hS,λwa ws H1 s1 ck hW av=>?_⟩;walk_at "m";refine⟨a,ns,2,rfl,s1.seq hS,_,rfl,by decide,?_⟩;obtain⟨z,b7⟩:∃b,b=1+ns.getD 2 0%60:=⟨_,rfl⟩;have bi:1<=z/\z<=60:=by omega
  rw[<-b7];walk_at "m";refine⟨a,ns,2,rfl,s1.seq hS,_,rfl,⟨by decide,by decide⟩,⟨by decide,by decide,by decide⟩,by decide,?_⟩;obtain⟨ab,ai⟩:∃ab,ab=ns.getD 2 0/60%10^Int.toNat 5:=⟨_,rfl⟩;have bl:0<=ab/\ab<100000:=by rw[ai];exact⟨zI _ (by decide),zy _ (by decide)⟩
  rw[<-ai];walk_at "m";refine⟨sz,λpt ad=>?_⟩;have S1:=s1.trans (fM (o:=.lst []) ad);have aw:(upd H1 pt (.lst [])) pt=some (.lst []):=fK;have ah:=fM (o:=.lst []) ad _ _ av;have cr:=s1.free ad;have n1:=fM (o:=.lst []) ad;generalize upd H1 pt (.lst [])=H1' at S1 aw ah n1
  try dsimp only
  rw[ap_seq,ap_for];walk_at "i";refine⟨a,ns,rfl,S1.seq hS,hl,λp1 bh H2 s2 cy h2=>?_⟩;refine⟨p1,rfl,_,fU h2,λq1 as=>⟨⟨_,fU fK⟩,?_⟩⟩;rw[jo,<-zX];have bk:(bh.take m).length<=m:=by rw[zv];omega
  generalize bh.take m=cs at bk;have s3:=s2.trans (fM (o:=.lst (cs.map V.int)) as);have aj:(upd H2 q1 (.lst (cs.map V.int))) q1=some (.lst (cs.map V.int)):=fK;have ch:q1≠pt:=λe=>by rw[e,s2 _ _ aw]at as;cases as
  have L3:Lp H1 (upd H2 q1 (.lst (cs.map V.int))) pt [] ab z 0:=⟨n1.trans s3,s3 _ _ aw,λr h=>(zw h).elim,rfl,λj r h=>by simp at h⟩;generalize upd H2 q1 _=H3 at s3 aj L3;have cj:=s3 _ _ ah;have cu:=(S1.trans s3).seq hS;have cp:∀{Hx:Hp},Same H3 Hx->True:=λ_=>trivial
  refine Kc.enum (K:=K) (a:=q1) (xs:=cs.map V.int) (λi σ H4=>∃(tl:EL)(v6 v7 v8 v9 aq ao ay ap ar:Option V),σ=[some (.ref a),some (.int m),some (.ref wa),some (.int z),some (.int ab),some (.ref pt),v6,v7,v8,v9,aq,ao,ay,ap,ar]/\Lp H1 H4 pt tl ab z i/\H4 q1=some (.lst (cs.map V.int)))
   ⟨[],_,_,_,_,_,_,_,_,_,rfl,L3,aj⟩ (λi σ H4 _ ⟨_,_,_,_,_,_,_,_,_,_,_,_,h⟩=>fU h) ?_ ?_
  ·rintro i y σ H4 pe hi ⟨tl,v6,v7,v8,v9,aq,ao,ay,ap,ar,rfl,L4,bp⟩ cg
   obtain⟨c,rfl,bx⟩:=La hi;have ct:i<cs.length:=(zr.mp bx).1;have n5:=fM (o:=.tup [V.int i,V.int c]) cg;have L5:=L4.same n5;have bs:=n5 _ _ bp;walk_at "i";refine⟨_,jg fK,rfl,_,_,rfl,_,_,rfl,rfl,?_⟩;generalize upd H4 pe _=H5 at L5 bs;walk_at "m";refine⟨⟨by decide,by decide,by decide⟩,sz,λp2 bz=>?_⟩;have n6:=fM (o:=.lst [V.int 4,V.int (10^Int.toNat 6+1),V.int 3,V.int 3]) bz;refine⟨c,p2,[4,1000001,3,3],rfl,fU (by rw[fK];rfl),by unfold Py;decide,by decide,λp3 H6 t6 cn h6=>?_⟩;have L6:=(L5.same n6).same t6;have ca:=t6 _ _ (n6 _ _ bs);obtain⟨sm,gr,kd,mo,cb,cq,co,cl,cx⟩:∃sm gr kd mo,Ml c [4,1000001,3,3]=[sm,gr,kd,mo]/\(0<=sm/\sm<4)/\(0<=gr/\gr<1000001)/\(0<=kd/\kd<3)/\(0<=mo/\mo<3):=⟨_,_,_,_,rfl,by omega,by omega,by omega,by omega⟩;rw[cb]at h6;refine⟨p3,rfl,_,fU h6,rfl,_,_,rfl,_,_,rfl,_,_,rfl,_,_,rfl,rfl,?_⟩;walk_at "m";refine⟨by decide,sz,λp4 b1=>?_⟩
   obtain ⟨ae,bb,am⟩:∃ae:Int,atI [V.int sm,V.int gr,V.int (gr%30)] kd=some (.int ae)/\(0<=ae/\ae<=1000000):=by
    rcases(show kd=0\/kd=1\/kd=2 by omega)with e|e|e<;>rw[e]
    ·exact⟨sm,rfl,by omega⟩
    ·exact⟨gr,rfl,by omega⟩
    ·exact⟨gr%30,rfl,by omega⟩
   refine⟨_,fU fK,_,bb,?_⟩;have n7:=fM (o:=.lst [V.int sm,V.int gr,V.int (gr%30)]) b1;have L7:=L6.same n7;have be:=n7 _ _ ca;generalize upd H6 p4 _=H7 at L7 be;walk_at "m";intro p8 b3;have n8:=fM (o:=.dK []) b3;have bm:(upd H7 p8 (.dK [])) p8=some (.dK []):=fK;have L8:=L7.same n8;have bd:=n8 _ _ be;generalize upd H7 p8 (.dK [])=H8 at L8 bd bm
   obtain ⟨w0,w1,w2,wr,ce⟩:∃w0 w1 w2 wr,ws=w0::w1::w2::wr:=by
    have:=hW.l0
    cases ws with
    |nil=>simp at this
    |cons w0 r=>cases r with
     |nil=>simp at this
     |cons w1 r=>cases r with
      |nil=>simp at this
      |cons w2 r=>exact⟨w0,w1,w2,r,rfl⟩
   intro pd bc;have t8:=fM (o:=.dK []) bc;have ac:=t8 _ _ (L8.s _ _ av);rw[ce]at ac;simp only[Nk];walk_at "i";refine⟨_,fU ac,.str w0,jw (j:=0) rfl,⟨by decide,by decide,by decide⟩,_,fU ac,.str w1,jw (j:=1) rfl,_,fU ac,.str w2,jw (j:=2) rfl,fK,[(Sum.inr w0,.int (10^Int.toNat 9)),(Sum.inr w1,.int 50),(Sum.inr w2,.int (3+sm))],rfl,by simp,?_⟩;rw[Xu];obtain⟨af,an⟩:∃k,k=Dl [] [(Sum.inr w0,V.int (10^Int.toNat 9)),(Sum.inr w1,V.int 50),(Sum.inr w2,V.int (3+sm))]:=⟨_,rfl⟩;rw[<-an];have n9:=fM (o:=.dK af) bc;have ba:(upd H8 pd (.dK af)) pd=some (.dK af):=fK;have L9:=L8.same n9;have az:=n9 _ _ bd;have ak:=n9 _ _ bm;generalize upd H8 pd (.dK af)=H9 at L9 az ba ak;refine⟨sz,λax br=> .inr ?_⟩;have ag:=fM (o:=.lst [V.ref p8,V.ref pd]) br;have bt:(upd H9 ax (.lst [V.ref p8,V.ref pd])) ax=some (.lst [V.ref p8,V.ref pd]):=fK;have au:=L9.same ag;have al:=ag _ _ az;have bf:=ag _ _ ak;have bu:=ag _ _ ba;generalize upd H9 ax (.lst [V.ref p8,V.ref pd])=cf at au al bt bf bu
   obtain ⟨hd,kvs,b8,b6,hok⟩:∃(hd:Addr)(kvs:List (Key×V)),atI [V.ref p8,V.ref pd] (if 0<mo then 1 else 0)=some (.ref hd)/\cf hd=some (.dK kvs)/\∀w:Str,∃i:Int,0<=i/\(nW kvs (Sum.inr w)).getD (.int 0)=.int i:=by
    by_cases q:0<mo
    ·rw[zu q]
     exact⟨pd,af,rfl,bu,by rw[an];exact Xf w0 w1 w2 (by decide) (by omega)⟩
    ·rw[zo q]
     exact⟨p8,[],rfl,bf,λw=>⟨0,yyi _,rfl⟩⟩
   refine⟨_,fU bt,_,b8,?_⟩
   have bn:0<=ab+((i:Int)+1)*z%61/\ab+((i:Int)+1)*z%61<=1000000:=by
    have:=zI (((i:Int)+1)*z) (show(61:Int)≠0 by decide);have:=zy (((i:Int)+1)*z) (show(0:Int)<61 by decide);omega
   walk_at "m";refine⟨⟨by decide,by decide⟩,Lw (by omega) (by omega),by decide,_,ae,ab+((i:Int)+1)*z%61,wa,hd,ws,kvs,rfl,au.s _ _ av,hW,b6,hok,⟨am.1,am.2⟩,⟨bn.1,bn.2⟩,λt e cm bo cw ht hg ho c2 b4 _=>?_⟩;have bg:=au.same bo;have bq:=bo _ _ al;refine⟨.inl ⟨rfl,_,fU bg.l⟩,⟨by decide,by decide⟩,t,_,e,rfl,ht,hg,ho,λt' e' c1 bj b0 cc c0 ci=>?_⟩;have aa:=bg.same bj;have bv:=bj _ _ bq;refine⟨_,aa.l,by rw[nO,aa.n,zc];omega,tl++[(t',e')],⟨aa.s.upd ad,?_,λr hr=>?_,by rw[zh,aa.n];rfl,λj r hj=>?_⟩,(fY ch).trans bv⟩
   ·rw[fK];unfold jz;rw[zk];rfl
   ·rcases zx.mp hr with hr|hr
    ·exact⟨Tn aa.l (aa.t r hr).1,(aa.t r hr).2⟩
    ·obtain rfl:=zC.mp hr
     exact⟨Tn aa.l b0,cc⟩
   ·by_cases b5:j<tl.length
    ·rw[zW b5]at hj
     exact aa.m j r hj
    ·rw[zT (by omega)]at hj
     have b2:j - tl.length=0:=by
      have:=(zr.mp hj).1;simp at this;omega
     rw[b2]at hj;cases hj;have:j=i:=by have:=aa.n;omega
     rw[this];exact ci.trans b4
  ·rintro σ H4 ⟨tl,v6,v7,v8,v9,aq,ao,ay,ap,ar,rfl,L4,bp⟩
   rw[zb]at L4;have cz:tl.length<=60:=by rw[L4.n];omega
   have b9:(tl.map (·.2.num)).Nodup:=by
    refine List.pairwise_map.mpr (List.pairwise_iff_getElem.mpr λi j hi hj cv=>?_);rw[L4.m i _ (zJ hi),L4.m j _ (zJ hj)];intro e;have:=Yl bi.1 bi.2 (by omega) (by omega) e;omega
   walk_at "a"
   exact k pt tl H4 (s1.trans L4.s) (s1.free ad) L4.l L4.t (by rw[L4.n];exact bk) b9 (λr hr=>by
    obtain⟨i,hi,e⟩:=zzU hr;have:=L4.m i r (by rw[zJ hi,e]);have:=zy (((i:Int)+1)*z) (show(0:Int)<61 by decide);omega)
def Ho{rs:EL}{i:Nat}{y:V}(h:(jz rs)[i]? =some y):∃r,rs[i]? =some r/\y=.ref r.1:=by
 unfold jz at h;rw[zB]at h
 cases e:rs[i]? with
 |none=>rw[e]at h;cases h
 |some r=>rw[e]at h;exact⟨r,rfl,(zf h).symm⟩
def Mx(e:Ent)(q:V):V.str e.word::e.args q=[.str e.word,.int e.day,.int e.num,.str e.ware]++(e.rest++(if e.nml then[q]else[])):=by cases e<;>rfl
def ats(e:Ent)(q:V):atI (V.str e.word::e.args q) 0=some (.str e.word)/\atI (V.str e.word::e.args q) 1=some (.int e.day)/\atI (V.str e.word::e.args q) 2=some (.int e.num)/\atI (V.str e.word::e.args q) 3=some (.str e.ware):=by cases e<;>exact⟨rfl,rfl,rfl,rfl⟩
def Fy(e:Ent):(e.word=Str.ofString "sell" \/e.word=Str.ofString "give")↔e.nml=true:=by
 cases e with
 |sell=>exact⟨λ_=>rfl,λ_=> .inl rfl⟩
 |give=>exact⟨λ_=>rfl,λ_=> .inr rfl⟩
 |_=>exact⟨λh=>absurd h (by simp only[Ent.word];decide+kernel),λh=>by cases h⟩
def Ut(e:Ent)(q:V):uN (V.str e.word::e.args q) (some 4) none=e.rest++(if e.nml then[q]else[]):=by
 rw[Mx];exact Vk [.str e.word,.int e.day,.int e.num,.str e.ware] _
def Sg(e:Ent)(q:V):¬(HT.sIx (V.str e.word::e.args q).length 0 (some 4)=0/\HT.sIx (V.str e.word::e.args q).length (V.str e.word::e.args q).length none=(V.str e.word::e.args q).length):=λh=>by
 have h1:=h.1;rw[show(4:Int)=((4:Nat):Int)from rfl,HT.sIx_nat,Mx,zh]at h1;simp at h1
def XM(e:Ent):(e.ws.map sV).map V.str=([V.str (gZ e.day),V.str (gZ e.num),V.str e.word,V.str e.ware]++(e.rest.map sV).map V.str)++(nwO e.lots).map V.str:=by
 have h:((nwO e.lots).map V.str).map sV=nwO e.lots:=by rw[zU];exact List.map_id _
 unfold Ent.ws;rw[zk,zk,zk,zk,h];rfl
theorem Cv:∀(os:List Ent)(t:Str),(os.foldl (λt e=>t++Pk e.ws) t).length=t.length+(os.map λe=>(Pk e.ws).length).sum
 |[],t=>by simp
 |e::os,t=>by
  rw[yB,Cv os,str_len,zg,yP];omega
def PB(os:List Ent)(e:Ent):vB (os++[e])=vB os++Pk e.ws:=by
 unfold vB;rw[List.foldl_append];rfl
noncomputable def Jb(K:Fg_):Sp:=λvs H Q _=>∃(p:Addr)(tl:EL),vs=[.ref p]/\H p=some (.lst (jz tl))/\ToldN H tl/\tl.length<=60/\∀H',Same H H'->Q (.str (vB (tl.map (·.2)))) H'
def Ib(T:Txt w K mg A D):jn P w K mg base CX0 1 A.pH D.pH ["_law_told"] (Jb K):=by
 refine T.rm.F.okv iD λ_ _ _ _ H vs Q E hr h=>?_
 ·obtain⟨p,tl,rfl,hp,hT,hl,k⟩:=h
  refine ⟨_,(fJ (gm (i:=1) iD.nd rfl orl fW)
   (fJ (Bd yZ rfl (lG (K:=K) (pv 0)) (gJ (i:=2) iD.nd rfl orl)
    (fJ (gm (i:=3) iD.nd rfl orl (ig (fH (iU vh (by rfl) T.rE (by decide+kernel) (fH (gF (mC (K:=K)) (pvD 2) fL (λ_ _=>rfl)) fO)) (fH (iU vh (by rfl) T.rE (by decide+kernel) (fH (gF (mC (K:=K)) (pvD 2) fL (λ_ _=>rfl)) fO)) (fH (gF (mC (K:=K)) (pvD 2) fL (λ_ _=>rfl)) (fH (gF (mC (K:=K)) (pvD 2) fL (λ_ _=>rfl)) fO))))))
    (fJ (gm (i:=4) iD.nd rfl orl (iU (Ew (K:=K)) (by rfl) T.rF (by decide+kernel) (fH (gM (Rk (K:=K)) (pvD 2) (ir fL) iB) fO)))
    (fJ (gm (i:=5) iD.nd rfl orl vQ)
    (fJ (iM (PW.pt (Cg (fZ (lH) (gF (mC (K:=K)) (pvD 2) fL (λ_ _=>rfl)) fW (gA _)) (wI (fZ (lH) (gF (mC (K:=K)) (pvD 2) fL (λ_ _=>rfl)) fW (gA _))))) (fQ (gm (i:=5) iD.nd rfl orl (Kf (K:=K) yc PySem.F.slot_list_pop PySem.F.type_list_pop Vz (pvD 4)))) gw)
    (fJ (gm (i:=3) iD.nd rfl orl (fX jR (pvD 3) (jO (cap:=[none]) (N':=["_law_thing"]) rfl (by walk_at "c") (lG (K:=K) (pv 4)) (λ_ _ _ _=>(gJ (i:=0) nd1 rfl orl orr)) (λ_ _ _ _=>jZ) (λ_ _ _ _=>(iU vh (by rfl) T.rE (by decide+kernel) (pav 0 fO))))))
    (fJ (iM (fZ (XQ) (pvD 5) vQ (gA _)) (fQ (gm (i:=3) iD.nd rfl orl (fX jR (pvD 3) (jO (cap:=[none,none]) (N':=["_law_lot", "_law_some"]) rfl (by walk_at "c") (Xz (K:=K) (pvD 5)) (λ_ _ _ _=>(FW (K:=K) (n:=2) rfl (iK (gJ (i:=0) (show(["_law_lot", "_law_some"]:List Str).Nodup from by decide+kernel) rfl orl orr) (iK (gJ (i:=1) (show(["_law_lot", "_law_some"]:List Str).Nodup from by decide+kernel) rfl orl orr) Ay)))) (λ_ _ _ _=>jZ) (λ_ _ _ _=>(fX gY (fX gY (iU vh (by rfl) T.rE (by decide+kernel) (pav 0 fO)) fW) (iU vh (by rfl) T.rE (by decide+kernel) (pav 1 fO)))))))) gw)
    (fQ (gm (i:=1) iD.nd rfl orl (fX gY (fX gY (pvD 1) (jD (K:=K) zH z5 z6 ou fW (pav 3 fO))) fW))))))))))
   (fQ (gn (pvD 1))))),?_⟩
  simp only[start_eq];walk_at "m"
  try dsimp only
  rw[ap_seq,ap_for];walk_at "i";refine⟨⟨_,fU hp⟩,?_⟩
  refine wV (K:=K) (a:=p) (xs:=jz tl) (λi σ Hx=>∃(v2 v3 v4 v5:Option V),σ=[some (.ref p),some (.str (vB ((tl.map (·.2)).take i))),v2,v3,v4,v5]/\Same H Hx)
   ⟨_,_,_,_,rfl,same_refl _⟩ (λi σ Hx _ ⟨_,_,_,_,_,s⟩=>s.seq (fU hp)) ?_ ?_
  ·rintro i x σ H1 hx ⟨v2,v3,v4,v5,rfl,s1⟩
   obtain⟨r,ak,rfl⟩:=Ho hx;obtain⟨⟨nt,ht,aq⟩,hg⟩:=(hT.same s1) r (za ak);obtain⟨a0,a1,a2,a3⟩:=ats r.2 nt;have hb:=jG hg.1;have bf:=hb.d0;have bk:=hb.d1;have bj:=hb.n0;have bh:=hb.n1;walk_at "i";walk_at "m";refine⟨_,jg ht,_,a1,.inl ⟨_,rfl,jy (by omega),_,jg ht,_,a2,.inl ⟨_,rfl,jy (by omega),_,jg ht,_,a0,_,jg ht,_,a3,sz,λp2 ah=>?_⟩⟩⟩;have n2:=fM (o:=.lst [V.str (gZ r.2.day),V.str (gZ r.2.num),V.str r.2.word,V.str r.2.ware]) ah;have h2:(upd H1 p2 (.lst [V.str (gZ r.2.day),V.str (gZ r.2.num),V.str r.2.word,V.str r.2.ware])) p2=some (.lst [V.str (gZ r.2.day),V.str (gZ r.2.num),V.str r.2.word,V.str r.2.ware]):=fK;generalize upd H1 p2 (.lst [V.str (gZ r.2.day),V.str (gZ r.2.num),V.str r.2.word,V.str r.2.ware])=H2 at n2 h2;have bb:=s1.free ah;walk_at "m";refine⟨_,jg (n2 _ _ ht),Sg r.2 nt,λp3 as=>?_⟩;rw[Ut];have n3:=fM (o:=.tup (r.2.rest++(if r.2.nml then[nt]else[]))) as;have h3:(upd H2 p3 (.tup (r.2.rest++(if r.2.nml then[nt]else[])))) p3=some (.tup (r.2.rest++(if r.2.nml then[nt]else[]))):=fK;generalize upd H2 p3 (.tup (r.2.rest++(if r.2.nml then[nt]else[])))=H3 at n3 h3;refine⟨_,.inr (jg h3),λp4 ac=>?_⟩;have n4:=fM (o:=.lst (r.2.rest++(if r.2.nml then[nt]else[]))) ac;have h4:(upd H3 p4 (.lst (r.2.rest++(if r.2.nml then[nt]else[])))) p4=some (.lst (r.2.rest++(if r.2.nml then[nt]else[]))):=fK;generalize upd H3 p4 (.lst (r.2.rest++(if r.2.nml then[nt]else[])))=H4 at n4 h4;have ad:=n2.trans (n3.trans n4);have S4:=s1.trans ad;have aj:=(n3.trans n4) _ _ h2;have ao:=ad _ _ ht;have ba:=aq.same ad;have am:H p4=none:=(s1.trans (n2.trans n3)).free ac;have ai:H1 p4=none:=(n2.trans n3).free ac;have ar:p2≠p4:=λz=>by have:=n3 _ _ h2;rw[z,ac]at this;cases this
   walk_at "m"
   try dsimp only
   refine wU (λσ' H'=>∃u,σ'=[some (.ref p),some (.str (vB ((tl.map (·.2)).take i))),some (.ref r.1),some (.ref p2),some (.ref p4),some u]/\Same H H'/\H' p4=some (.lst r.2.rest)/\H' p2=some (.lst [V.str (gZ r.2.day),V.str (gZ r.2.num),V.str r.2.word,V.str r.2.ware])/\NT H' u r.2.lots) ?_ ?_
   rotate_left
   ·intro N hN
    walk_at "i";refine⟨_,jg ao,_,a0,rfl,?_⟩
    have an:r.2.nml=true->tyV K "list" (.ref p4) H4/\abU (.ref p4) [] H4 λx H'=>N [some (.ref p),some (.str (vB ((tl.map (·.2)).take i))),some (.ref r.1),some (.ref p2),some (.ref p4),some x] H':=λhm=>by
     rw[hm]at h4;refine⟨.inl ⟨rfl,_,fU h4⟩,p4,_,nt,rfl,rfl,h4,by simp,hN _ _ ⟨_,rfl,S4.upd am,?_,(fY ar).trans aj,?_⟩⟩
     ·rw[fK,zu rfl,zzK]
     ·exact aq.same (ad.upd ai)
    by_cases hs:r.2.word=Str.ofString "sell"
    ·rw[zu (congrArg V.str hs)]
     exact an ((Fy _).mp (.inl hs))
    rw[zo λz=>hs (V.str.inj z)];refine⟨_,jg ao,_,a0,rfl,?_⟩;by_cases hv:r.2.word=Str.ofString "give"
    ·rw[zu (congrArg V.str hv)]
     exact an ((Fy _).mp (.inr hv))
    rw[zo λz=>hv (V.str.inj z)];rcases Tp r.2 nt with⟨hm,_⟩|⟨hm,af,_⟩
    ·exact absurd ((Fy _).mpr hm) (λq=>q.elim hs hv)
    ·rw[hm,zo (by decide),yr]at h4
     exact hN _ _ ⟨_,rfl,S4,h4,aj,by rw[af];rfl⟩
   rintro σ' H5 ⟨u,rfl,S5,h5,au,az⟩;obtain⟨r1,r2⟩:=PQ hg.1;obtain⟨w1,w2⟩:=Xm hg;have bi:=(Wn hg).2;obtain⟨pp,be,aa⟩:=RB hg.1
   try dsimp only
   walk_at "m";refine⟨⟨_,fU h5⟩,?_⟩;refine jP.list (K:=K) (xs:=r.2.rest) (λσ=>∃a,σ=[a]) (λ_=>true) (λv=> .str (sV v)) (fU h5) ⟨_,rfl⟩ (by rw[zc];omega) ?_ ?_
   ·rintro x hx σ H6 R1 R2 ⟨_,rfl⟩ sm k1 k2
    walk_at "i";rcases r1 x hx with⟨j,rfl,hj⟩|⟨z,rfl,hz⟩
    ·exact .inl ⟨j,rfl,hj,k1 rfl _ _ ⟨_,rfl⟩ (same_refl _)⟩
    ·exact .inr ⟨z,rfl,k1 rfl _ _ ⟨_,rfl⟩ (same_refl _)⟩
   intro D6 H6 bg s6 h6;rw[Zc]at h6;refine⟨p2,D6,_,_,rfl,rfl,s6 _ _ au,h6,by rw[zc,zb,zb];simp;omega,λp7 ax=>?_⟩;obtain⟨W0,ag⟩:∃W0,W0=[V.str (gZ r.2.day),V.str (gZ r.2.num),V.str r.2.word,V.str r.2.ware]++(r.2.rest.map sV).map V.str:=⟨_,rfl⟩;have bc:W0.length<=7:=by rw[ag,zh,zb,zb];simp;omega
   rw[<-ag];have n7:=fM (o:=.lst W0) ax;have h7:(upd H6 p7 (.lst W0)) p7=some (.lst W0):=fK;generalize upd H6 p7 (.lst W0)=H7 at n7 h7;have S7:=S5.trans (s6.trans n7);have ae:=az.same (s6.trans n7)
   try dsimp only
   refine wU (λσ' H'=>∃pw,σ'=[some (.ref p),some (.str (vB ((tl.map (·.2)).take i))),some (.ref r.1),some (.ref pw),some (.ref p4),some u]/\Same H H'/\H' pw=some (.lst ((r.2.ws.map sV).map V.str))) ?_ ?_
   rotate_left
   ·intro N hN
    have ab:=XM r.2;rw[<-ag]at ab;walk_at "i"
    cases af:r.2.lots with
    |none=>
     rw[af]at ae ab;have hu:u=.non:=ae;subst hu;rw[zo (by simp)];exact hN _ _ ⟨p7,rfl,S7,by rw[ab,h7];exact congrArg (λz=>some (HO.lst z)) (yr _).symm⟩
    |some rs=>
     rw[af]at ae ab aa;obtain⟨l,rfl,al,hL⟩:=ae;have aa:Ce rs pp:=aa;rw[zu (by simp)];refine⟨l,rfl,⟨_,jg al⟩,?_⟩;refine jP.tupF (λσ=>∃a b,σ=[a,b]) (lwV H7) (jg al) ⟨_,_,rfl⟩ (by rw[Gf,zc];have:=aa.l;omega) ?_ ?_
     ·rintro x hx σ H8 R ⟨_,_,rfl⟩ sm kk
      obtain⟨q,hq,rfl⟩:=zO.mp hx;have ap:=hL q hq;obtain⟨b0,b1,b2,b3⟩:=aa.b q hq;have b4:=kJ (jy (i:=q.2.1) (by omega));have b5:=kJ (jy (i:=q.2.2) (by omega));have e1:(Str.ofString ":").length=1:=by decide+kernel
      rw[Wb ap]at kk;walk_at "i";exact⟨_,jg (sm _ _ ap),rfl,_,_,rfl,_,_,rfl,rfl,.inl ⟨_,rfl,jy (by omega),by rw[e1,zc];omega,.inl ⟨_,rfl,jy (by omega),by rw[str_len,e1,zc];omega,kk _ _ ⟨_,_,rfl⟩ (same_refl _)⟩⟩⟩
     ·intro D8 H8 bd s8 h8
      rw[Wa hL]at h8;refine⟨p7,D8,_,_,rfl,rfl,s8 _ _ h7,h8,by rw[zb,zb,zc];have:=aa.l;omega,λp9 ay=>hN _ _ ⟨p9,rfl,(S7.trans s8).trans (fM ay),?_⟩⟩;rw[fK,ab];rfl
   rintro σ' H8 ⟨pw,rfl,S8,h8⟩
   have aw:∀e∈(tl.map (·.2)).take i,e.good5:=λe he=>by
    obtain⟨q,hq,rfl⟩:=zO.mp (zS he);exact(hT q hq).2
   have l1:(vB ((tl.map (·.2)).take i)).length<=12013*60:=by
    unfold vB;rw[Cv];have q1:=text_len _ aw;have q2:((tl.map (·.2)).take i).length<=60:=by rw[zv,zb];omega
    have q3:(Str.ofString "").length=0:=by decide+kernel
    have q4:=zzT 12013 q2;omega
   have e1:(Str.ofString " ").length=1:=by decide+kernel
   have e2:(Str.ofString "\n").length=1:=by decide+kernel
   have l2:=Dt w1;have l3:=Rz w1;have l4:=l3;unfold Pk at l4;rw[str_len,e2]at l4;have av:(tl.map (·.2))[i]? =some r.2:=by rw[zB,ak];rfl
   try dsimp only
   walk_at "i";refine⟨rfl,_,h8,by rw[zb,e1];omega,by rw[zc];omega,by rw[str_len,e2,zc];omega,?_,S8⟩;rw[y4,av];exact((PB _ r.2).trans (kY _ _ _).symm).symm
  ·rintro σ H1 ⟨v2,v3,v4,v5,rfl,s1⟩
   rw[nO,<-zb (f:=λr:Addr×Ent=>r.2),zzB];walk_at "a";exact k H1 s1
noncomputable def FQ(K:Fg_):Sp:=λvs H Q _=>∃(v:V)(o:Option Rs),vs=[v]/\NL H v o/\∀v' H',Same H H'->NT H' v' o->Q v' H'
def xJ(T:Txt w K mg A D):jn P w K mg base CX0 1 A.pq D.pq ["named"] (FQ K):=by
 refine T.qY.F.okv Fw λ_ _ _ _ H vs Q E hr h=>?_
 ·obtain⟨v,o,rfl,hn,k⟩:=h
  refine⟨_,(fQ (gn (BV (fZ (Sv) (pvD 0) vQ (gA _)) vQ (iU (DR (K:=K)) (by rfl) T.rM (by decide+kernel) (pav 0 fO))))),?_⟩
  cases o with
  |none=>
   cases hn;walk_at "a";exact k _ H (same_refl H) rfl
  |some rs=>
   obtain⟨l,rfl,hl,hL⟩:=hn;walk_at "a";refine⟨_,.inl ⟨fU hl,λq z=>k _ _ (fM z) ⟨q,rfl,fK,hL.same (fM z)⟩⟩⟩
noncomputable def Fi(isK:Ent->Bool):Sp:=λvs H Q _=>∃(x:Addr)(e:Ent),isK e=true/\vs=[.ref x]/\Q (.str e.word) H
noncomputable def nG(A:Adr)(isK:Ent->Bool):Sp:=λvs H Q _=>∃(x:Addr)(e:Ent),isK e=true/\vs=[.ref x]/\IsE A H x e/\
 ∀t nt H',Same H H'->H t=none->H' t=some (.tup (.str e.word::e.args nt))->NT H' nt e.lots->Q (.ref t) H'
def Kv(T:Txt w K mg A D):jn P w K mg base CX0 1 A.pi D.pi ["self"] (Fi vV):=by
 refine T.qW.okv Ke λ_ _ _ _ H vs Q E z h=>?_
 ·obtain⟨x,e,q,rfl,k⟩:=h
  refine⟨_,(fQ (gn fW)),?_⟩;walk_at "a";cases e<;>first|exact k|cases q
def Hl(T:Txt w K mg A D):jn P w K mg base CX0 1 A.px D.px ["self"] (Fi mV):=by
 refine T.qZ.okv Hy λ_ _ _ _ H vs Q E z h=>?_
 ·obtain⟨x,e,q,rfl,k⟩:=h
  refine⟨_,(fQ (gn fW)),?_⟩;walk_at "a";cases e<;>first|exact k|cases q
def Ii(T:Txt w K mg A D):jn P w K mg base CX0 1 A.pz D.pz ["self"] (Fi nY):=by
 refine T.rb.okv Ia λ_ _ _ _ H vs Q E z h=>?_
 ·obtain⟨x,e,q,rfl,k⟩:=h
  refine⟨_,(fQ (gn fW)),?_⟩;walk_at "a";cases e<;>first|exact k|cases q
def Hs(T:Txt w K mg A D):jn P w K mg base CX0 1 A.pB D.pB ["self"] (Fi lX):=by
 refine T.rf.okv Ik λ_ _ _ _ H vs Q E z h=>?_
 ·obtain⟨x,e,q,rfl,k⟩:=h
  refine⟨_,(fQ (gn fW)),?_⟩;walk_at "a";cases e<;>first|exact k|cases q
def Gv(T:Txt w K mg A D):jn P w K mg base CX0 1 A.pD D.pD ["self"] (Fi lD):=by
 refine T.rh.okv Gz λ_ _ _ _ H vs Q E z h=>?_
 ·obtain⟨x,e,q,rfl,k⟩:=h
  refine⟨_,(fQ (gn fW)),?_⟩;walk_at "a";cases e<;>first|exact k|cases q
def Dq(T:Txt w K mg A D):jn P w K mg base CX0 1 A.pF D.pF ["self"] (Fi mY):=by
 refine T.rj.okv CT λ_ _ _ _ H vs Q E z h=>?_
 ·obtain⟨x,e,q,rfl,k⟩:=h
  refine⟨_,(fQ (gn fW)),?_⟩;walk_at "a";cases e<;>first|exact k|cases q
def JX(T:Txt w K mg A D):jn P w K mg base CX0 2 A.pj D.pj ["self"] (nG A vV):=by
 refine T.qX.okv Kq λ_ _ _ _ H vs Q E hr h=>?_
 ·obtain⟨x,e,z,rfl,⟨dx,nv,q,hn⟩,k⟩:=h
  refine⟨_,(fQ (gn (jJ (fH (lV (pv 0) (mc T.sX T.ui (Kv T) hr (Pz T) .nil) Jl) (fH (fv K 0) (fH (fv K 0) (fH (fv K 0) (fH (fv K 0) (fH (fv K 0) (fH (fv K 0) fO)))))))))),?_⟩
  cases e with
  |sell=>cases z
  |gift=>cases z
  |give=>cases z
  |split=>cases z
  |part=>cases z
  |buy d n w p r f=>
  walk_at "a";refine⟨_,dx,_,q,_,zi,by rfl,?_⟩;refine⟨x,.buy d n w p r f,rfl,rfl,?_⟩;refine rd q T.sX T.sY (by rfl) (?_);refine rd q T.sX T.sZ (by rfl) (?_);refine rd q T.sX T.ti (by rfl) (?_);refine rd q T.sX T.tj (by rfl) (?_);refine rd q T.sX T.tm (by rfl) (?_);refine rd q T.sX T.tq (by rfl) (?_);refine⟨sz,λt ht=>k t .non _ (fM ht) ht fK rfl⟩
def JG(T:Txt w K mg A D):jn P w K mg base CX0 2 A.py D.py ["self"] (nG A mV):=by
 refine T.ra.okv Ba λ_ _ _ _ H vs Q E hr h=>?_
 ·obtain⟨x,e,hk,rfl,⟨dx,nv,z,hn⟩,k⟩:=h
  refine ⟨_,(fJ (gm (i:=1) Ba.nd rfl orl (pcg (xJ T) hr T.qY (Be T) (fH (fv K 0) fO)))
   (fQ (gn (jJ (fH (lV (pv 0) (mc T.tz T.uj (Hl T) hr (Kz T) .nil) Jl) (fH (fv K 0) (fH (fv K 0) (fH (fv K 0) (fH (fv K 0) (fH (fv K 0) (fH (fv K 0) (pav 1 fO)))))))))))),?_⟩
  cases e with
  |buy=>cases hk
  |gift=>cases hk
  |give=>cases hk
  |split=>cases hk
  |part=>cases hk
  |sell d n w p r f o=>
  walk_at "a";refine rd z T.tz T.tJ (by rfl) (?_);refine⟨_,_,rfl,hn,λnt H1 q h1=>?_⟩;walk_at "a";refine⟨_,dx,_,(q _ _ z),_,zi,by rfl,?_⟩;refine⟨x,.sell d n w p r f o,rfl,rfl,?_⟩;refine rd (q _ _ z) T.tz T.tD (by rfl) (?_);refine rd (q _ _ z) T.tz T.tE (by rfl) (?_);refine rd (q _ _ z) T.tz T.tF (by rfl) (?_);refine rd (q _ _ z) T.tz T.tG (by rfl) (?_);refine rd (q _ _ z) T.tz T.tH (by rfl) (?_);refine rd (q _ _ z) T.tz T.tI (by rfl) (?_);refine⟨sz,λt ht=>k t nt _ (q.upd (q.free ht)) (q.free ht) fK (h1.same (fM ht))⟩
def Jd(T:Txt w K mg A D):jn P w K mg base CX0 2 A.pA D.pA ["self"] (nG A nY):=by
 refine T.re.okv Ju λ_ _ _ _ H vs Q E hr h=>?_
 ·obtain⟨x,e,z,rfl,⟨dx,nv,q,hn⟩,k⟩:=h
  refine⟨_,(fQ (gn (jJ (fH (lV (pv 0) (mc T.tL T.uk (Ii T) hr (JT T) .nil) Jl) (fH (fv K 0) (fH (fv K 0) (fH (fv K 0) (fH (fv K 0) (fH (fv K 0) (fH (fv K 0) fO)))))))))),?_⟩
  cases e with
  |buy=>cases z
  |sell=>cases z
  |give=>cases z
  |split=>cases z
  |part=>cases z
  |gift d n w p c s=>
  walk_at "a";refine⟨_,dx,_,q,_,zi,by rfl,?_⟩;refine⟨x,.gift d n w p c s,rfl,rfl,?_⟩;refine rd q T.tL T.tM (by rfl) (?_);refine rd q T.tL T.tN (by rfl) (?_);refine rd q T.tL T.tO (by rfl) (?_);refine rd q T.tL T.tP (by rfl) (?_);refine rd q T.tL T.tQ (by rfl) (?_);refine rd q T.tL T.tR (by rfl) (?_);refine⟨sz,λt ht=>k t .non _ (fM ht) ht fK rfl⟩
def JN(T:Txt w K mg A D):jn P w K mg base CX0 2 A.pC D.pC ["self"] (nG A lX):=by
 refine T.rg.okv JF λ_ _ _ _ H vs Q E hr h=>?_
 ·obtain⟨x,e,z,rfl,⟨dx,nv,q,hn⟩,k⟩:=h
  refine⟨_,(fQ (gn (jJ (fH (lV (pv 0) (mc T.tS T.ul (Hs T) hr (Kr T) .nil) Jl) (fH (fv K 0) (fH (fv K 0) (fH (fv K 0) (fH (fv K 0) (fH (pcg (xJ T) hr T.qY (Be T) (fH (fv K 0) fO)) fO))))))))),?_⟩
  cases e with
  |buy=>cases z
  |sell=>cases z
  |gift=>cases z
  |split=>cases z
  |part=>cases z
  |give d n w p o=>
  walk_at "a";refine⟨_,dx,_,q,_,zi,by rfl,?_⟩;refine⟨x,.give d n w p o,rfl,rfl,?_⟩;refine rd q T.tS T.tT (by rfl) (?_);refine rd q T.tS T.tU (by rfl) (?_);refine rd q T.tS T.tW (by rfl) (?_);refine rd q T.tS T.tX (by rfl) (?_);refine rd q T.tS T.tY (by rfl) (?_);refine⟨_,_,rfl,hn,λnt H1 s1 h1=>?_⟩;walk_at "a";refine⟨sz,λt ht=>k t nt _ (s1.upd (s1.free ht)) (s1.free ht) fK (h1.same (fM ht))⟩
def Gs(T:Txt w K mg A D):jn P w K mg base CX0 2 A.pE D.pE ["self"] (nG A lD):=by
 refine T.ri.okv Gd λ_ _ _ _ H vs Q E hr h=>?_
 ·obtain⟨x,e,z,rfl,⟨dx,nv,q,hn⟩,k⟩:=h
  refine⟨_,(fQ (gn (jJ (fH (lV (pv 0) (mc T.tZ T.um (Gv T) hr (Io T) .nil) Jl) (fH (fv K 0) (fH (fv K 0) (fH (fv K 0) (fH (fv K 0) (fH (fv K 0) fO))))))))),?_⟩
  cases e with
  |buy=>cases z
  |sell=>cases z
  |gift=>cases z
  |give=>cases z
  |part=>cases z
  |split d n w m f=>
  walk_at "a";refine⟨_,dx,_,q,_,zi,by rfl,?_⟩;refine⟨x,.split d n w m f,rfl,rfl,?_⟩;refine rd q T.tZ T.t5 (by rfl) (?_);refine rd q T.tZ T.t7 (by rfl) (?_);refine rd q T.tZ T.t9 (by rfl) (?_);refine rd q T.tZ T.ua (by rfl) (?_);refine rd q T.tZ T.ub (by rfl) (?_);refine⟨sz,λt ht=>k t .non _ (fM ht) ht fK rfl⟩
def Dw(T:Txt w K mg A D):jn P w K mg base CX0 2 A.pG D.pG ["self"] (nG A mY):=by
 refine T.rl.okv Cj λ_ _ _ _ H vs Q E hr h=>?_
 ·obtain⟨x,e,z,rfl,⟨dx,nv,q,hn⟩,k⟩:=h
  refine⟨_,(fQ (gn (jJ (fH (lV (pv 0) (mc T.sP T.uo (Dq T) hr (Eh T) .nil) Jl) (fH (fv K 0) (fH (fv K 0) (fH (fv K 0) (fH (fv K 0) (fH (fv K 0) (fH (fv K 0) fO)))))))))),?_⟩
  cases e with
  |buy=>cases z
  |sell=>cases z
  |gift=>cases z
  |give=>cases z
  |split=>cases z
  |part d n w u s t=>
  walk_at "a";refine⟨_,dx,_,q,_,zi,by rfl,?_⟩;refine⟨x,.part d n w u s t,rfl,rfl,?_⟩;refine rd q T.sP T.sQ (by rfl) (?_);refine rd q T.sP T.sR (by rfl) (?_);refine rd q T.sP T.sS (by rfl) (?_);refine rd q T.sP T.sT (by rfl) (?_);refine rd q T.sP T.sU (by rfl) (?_);refine rd q T.sP T.sW (by rfl) (?_);refine⟨sz,λt ht=>k t .non _ (fM ht) ht fK rfl⟩
noncomputable def pairD(r:Addr×Int×Int):DV:=.tup [.int r.2.1,.int r.2.2]
noncomputable def ntD:Option Rs->DV
 |none=> .non
 |some rs=> .tup (rs.map pairD)
noncomputable def Ent.argsD:Ent->List DV
 |.buy d n w p r f=>[.int d,.int n,.str w,.int p,.int r,.int f]
 |.sell d n w p r f o=>[.int d,.int n,.str w,.int p,.int r,.int f,ntD o]
 |.gift d n w p c s=>[.int d,.int n,.str w,.int p,.int c,.int s]
 |.give d n w p o=>[.int d,.int n,.str w,.int p,ntD o]
 |.split d n w m f=>[.int d,.int n,.str w,.int m,.int f]
 |.part d n w u s t=>[.int d,.int n,.str w,.str u,.int s,.int t]
noncomputable def Ent.dvT(e:Ent):DV:=.tup (.str e.word::e.argsD)
theorem Jz{H:Hp}:∀{rs:Rs},Mh H rs->lJ K H (refs rs) (rs.map pairD)
 |[],_=> .nil
 |r::rs,h=> .cons (.tup (jg (h r (.head _))) (.cons (.int _) (.cons (.int _) .nil))) (Jz λq z=>h q (.tail _ z))
def Wl{H:Hp}{q:V}{o:Option Rs}(h:NT H q o):Ac K H q (ntD o):=by
 cases o with
 |none=>cases h;exact .non
 |some rs=>obtain⟨l,rfl,h1,h2⟩:=h;exact .tup (jg h1) (Jz h2)
def Uz{H:Hp}{t:Addr}{e:Ent}(h:Hj H t e):Ac K H (.ref t) e.dvT:=by
 obtain⟨q,h1,h2⟩:=h;refine .tup (jg h1) (.cons (.str _) ?_)
 cases e with
 |buy=>exact .cons (.int _) (.cons (.int _) (.cons (.str _) (.cons (.int _) (.cons (.int _) (.cons (.int _) (.nil))))))
 |sell=>exact .cons (.int _) (.cons (.int _) (.cons (.str _) (.cons (.int _) (.cons (.int _) (.cons (.int _) (.cons (Wl h2) (.nil)))))))
 |gift=>exact .cons (.int _) (.cons (.int _) (.cons (.str _) (.cons (.int _) (.cons (.int _) (.cons (.int _) (.nil))))))
 |give=>exact .cons (.int _) (.cons (.int _) (.cons (.str _) (.cons (.int _) (.cons (Wl h2) (.nil)))))
 |split=>exact .cons (.int _) (.cons (.int _) (.cons (.str _) (.cons (.int _) (.cons (.int _) (.nil)))))
 |part=>exact .cons (.int _) (.cons (.int _) (.cons (.str _) (.cons (.str _) (.cons (.int _) (.cons (.int _) (.nil))))))
theorem Es:∀rs:Rs,kW (rs.map pairD)<=1
 |[]=>by decide
 |r::rs=>by
  rw[zg];unfold kW;exact Nat.max_le.mpr ⟨by simp[pairD,uI,kW],Es rs⟩
def Wo(o:Option Rs):uI (ntD o)<=2:=by
 cases o with
 |none=>decide
 |some rs=>show kW (rs.map pairD)+1<=2;have:=Es rs;omega
theorem CZ{H:Hp}:∀{tl:EL},(∀r∈tl,Hj H r.1 r.2)->lJ K H (jz tl) (tl.map λr=>r.2.dvT)
 |[],_=> .nil
 |r::tl,h=> .cons (Uz (h r (.head _))) (CZ λq z=>h q (.tail _ z))
theorem Jf:∀es:List Ent,kW (es.map Ent.dvT)<=4
 |[]=>by decide
 |e::es=>by
  rw[zg];unfold kW;refine Nat.max_le.mpr ⟨?_,Jf es⟩
  cases e with
  |sell d n w p r f o=>
   have:=Wo o;simp only[Ent.dvT,Ent.argsD,uI,kW];omega
  |give d n w p o=>
   have:=Wo o;simp only[Ent.dvT,Ent.argsD,uI,kW];omega
  |_=>simp only[Ent.dvT,Ent.argsD,uI,kW];decide
def Xw{H:Hp}{p q:Addr}{tl zl:EL}(h1:H p=some (.lst (jz tl)))(h2:H q=some (.lst (jz zl)))(ht:∀r∈tl,Hj H r.1 r.2)(z:∀r∈zl,Hj H r.1 r.2)(he:(tl.map (·.2)).map Ent.dvT=(zl.map (·.2)).map Ent.dvT):
  ∃d:DV,Ac K H (.ref p) d/\Ac K H (.ref q) d/\1<=uI d/\uI d<=20:=by
 have e1:(tl.map λr=>r.2.dvT)=(tl.map (·.2)).map Ent.dvT:=by rw[zU];rfl
 have e2:(zl.map λr=>r.2.dvT)=(tl.map (·.2)).map Ent.dvT:=by rw[he,zU];rfl
 refine⟨.lst ((tl.map (·.2)).map Ent.dvT),.lst (fU h1) (e1▸CZ ht),.lst (fU h2) (e2▸CZ z),?_,?_⟩
 ·show 1<=kW _+1;omega
 ·show kW _+1<=20
  have:=Jf (tl.map (·.2));omega
def Um{H:Hp}{Q:VK}{p q:Addr}{tl zl:EL}(h1:H p=some (.lst (jz tl)))(h2:H q=some (.lst (jz zl)))(ht:∀r∈tl,Hj H r.1 r.2)(hz:∀r∈zl,Hj H r.1 r.2)(he:(tl.map (·.2)).map Ent.dvT=(zl.map (·.2)).map Ent.dvT)(k:Q (.bl true) H):abx K (.ref p) (.ref q) H Q:=by
 obtain⟨d,r1,r2,d1,z⟩:=Xw (K:=K) h1 h2 ht hz he;exact⟨d,d,r1,r2,d1,z,by rw[CV];exact k⟩
def Ww{o o':Option Rs}(h:SmO o o'):ntD o'=ntD o:=by
 cases o with
 |none=>rw[Np h]
 |some rs=>cases o' with
  |none=>exact h.elim
  |some rs'=>exact congrArg DV.tup (Qw (f:=pairD) (λx=> .tup [.int x.1,.int x.2]) (λ_=>rfl) h)
noncomputable def dv:V->DV
 |.int i=> .int i
 |.str x=> .str x
 |.bl b=> .bl b
 |_=> .non
noncomputable def flt:V->Bool
 |.int _=>true
 |.str _=>true
 |.bl _=>true
 |.non=>true
 |_=>false
def aag{H:Hp}{v:V}(h:flt v=true):Ac K H v (dv v):=by
 cases v<;>first|exact .int _|exact .str _|exact .bl _|exact .non|cases h
theorem Ku{H:Hp}:∀(vs:List V),vs.all flt=true->lJ K H vs (vs.map dv)
 |[],_=> .nil
 |v::vs,h=>by
  rw[yE,zG]at h;exact .cons (aag h.1) (Ku vs h.2)
def ZC(v:V):uI (dv v)=0:=by cases v<;>rfl
theorem Qa:∀vs:List V,kW (vs.map dv)=0
 |[]=>rfl
 |v::vs=>by rw[zg];unfold kW;rw[ZC,Qa vs];rfl
def uR{H:Hp}{Q:VK}{p q:Addr}{vs:List V}(h1:H p=some (.lst vs))(h2:H q=some (.lst vs))(z:vs.all flt=true)(k:Q (.bl false) H):aaP K (.ref p) (.ref q) H Q:=
 ⟨.lst (vs.map dv),.lst (vs.map dv),.lst (fU h1) (Ku vs z),.lst (fU h2) (Ku vs z),by unfold uI;omega,by unfold uI;rw[Qa];decide,by rw[CV];exact k⟩
def Zn{a b:Option Rs}(h:wO a=wO b):a=b:=by
 cases a with
 |none=>cases b with
  |none=>rfl
  |some _=>cases h
 |some rs=>cases b with
  |none=>cases h
  |some rs'=>rw[Gn (zf h)]
def QC{ws:List Str}{e e':Ent}(h:iZ ws e)(h':iZ ws e'):e'.dvT=e.dvT:=by
 obtain⟨kd,hK,hi,⟨nl,ha⟩,hL,_⟩:=h;obtain⟨ae,aa,q,⟨ad,ac⟩,ab,_⟩:=h';have ek:=Dr aa hK;subst ek;obtain⟨o2,e1,z⟩:=Mg ab hL;rw[<-Zn e1]at z;have hk:=aa.1;have ea:e'.args .non=e.args .non:=(BZ (v:=.non) hk q ac).symm.trans (BZ (v:=.non) hk hi ha);simp only[kinds,zp,zw,or_false]at hk;rcases hk with rfl|rfl|rfl|rfl|rfl|rfl
 ·obtain⟨_,_,_,_,_,_,rfl⟩:=LC hi
  obtain⟨_,_,_,_,_,_,rfl⟩:=LC q;cases ea;rfl
 ·obtain⟨_,_,_,_,_,_,o,rfl⟩:=Dg hi
  obtain⟨_,_,_,_,_,_,o',rfl⟩:=Dg q;cases ea;show DV.tup (_::[_,_,_,_,_,_,ntD o'])=_;rw[Ww (o:=o) (o':=o') z];rfl
 ·obtain⟨_,_,_,_,_,_,rfl⟩:=Ak hi
  obtain⟨_,_,_,_,_,_,rfl⟩:=Ak q;cases ea;rfl
 ·obtain⟨_,_,_,_,o,rfl⟩:=Aw hi
  obtain⟨_,_,_,_,o',rfl⟩:=Aw q;cases ea;show DV.tup (_::[_,_,_,_,ntD o'])=_;rw[Ww (o:=o) (o':=o') z];rfl
 ·obtain⟨_,_,_,_,_,rfl⟩:=of_split hi
  obtain⟨_,_,_,_,_,rfl⟩:=of_split q;cases ea;rfl
 ·obtain⟨_,_,_,_,_,_,rfl⟩:=vm hi
  obtain⟨_,_,_,_,_,_,rfl⟩:=vm q;cases ea;rfl
theorem MT:∀{rows:List Str}{es es':List Ent},Hi rows es->Hi rows es'->es'.map Ent.dvT=es.map Ent.dvT
 |_,_,_,.nil,.nil=>rfl
 |_,_,_,.cons h t,.cons h' t'=>by rw[zg,zg,QC h h',MT t t']
theorem xj:∀{os:List Ent},(∀e∈os,e.good5)->Hi (os.map gQ) os
 |[],_=> .nil
 |e::os,h=> .cons (by have:=h e zi;show iZ (jT (gQ e)) e;rw[show jT (gQ e)=wsE e from(vD this).1.words];exact wK this.1) (xj λx q=>h x (zt _ q))
noncomputable def uO(rows:List Str):Str:=Txt.join (Str.ofString "") (rows.map λz=>z++Str.ofString "\n")
theorem Jt:∀q:List Str,(q.map λz=>z++Str.ofString "\n").foldr (λx t=>x++t) (Str.ofString "")=Str.join (Str.ofString "\n") (q++[Str.ofString ""])
 |[]=>rfl
 |[z]=>rfl
 |z::y::q=>by
  have ih:=Jt (y::q);rw[zg,zzO,ih];show z++Str.ofString "\n" ++Str.join (Str.ofString "\n") (y::(q++[Str.ofString ""]))=z++Str.ofString "\n" ++Str.join (Str.ofString "\n") (y::(q++[Str.ofString ""]));rfl
def Tc(q:List Str):uO q=Str.join (Str.ofString "\n") (q++[Str.ofString ""]):=by
 unfold uO;rw[Nj,Gy,wu,Jt]
def En{q:List Str}(h:∀z∈q,10∉z.cps.toList):Txt.split (uO q) (Str.ofString "\n")=q++[Str.ofString ""]:=by
 rw[Tc,wM,<-show Txt.join ⟨#[10]⟩ (q++[Str.ofString ""])=Str.join ⟨#[10]⟩ (q++[Str.ofString ""])from StrLaws.glued_eq_join _ _];refine L2.split_join (by simp) λp hp=>?_;rcases zx.mp hp with hp|hp
 ·exact h p hp
 ·rw[zC.mp hp,vz]
  simp
def BK:∀{q:List Str},(∀z∈q,z.length<=20000)->(uO q).length<=20001*q.length+1:=by
 intro q h;rw[Tc];have h2:=StrLaws.join_length_le (Str.ofString "\n") (q++[Str.ofString ""]);have e1:(Str.ofString "\n").length=1:=by decide+kernel
 have e0:(Str.ofString "").length=0:=by decide+kernel
 have hs:(q.map (·.length)).sum<=20000*q.length:=by
  clear h2
  induction q with
  |nil=>exact zV _
  |cons w ws ih=>
   have h1:=h w zi;have h2:=ih λx hx=>h x (zt _ hx);rw[zg,yP,zA];omega
 rw[zk,List.sum_append,zg,yg,yP,List.sum_nil,e0,e1,zh,zM]at h2;omega
noncomputable def abJ(A:Adr):List (Addr×Sp):=[(A.pM,nG A vV),(A.pN,nG A mV),(A.pO,nG A nY),(A.pP,nG A lX),(A.pQ,nG A lD),(A.pL,nG A mY)]
def abb(A:Adr)(e:Ent):∃q,q e=true/\(e.cls A,nG A q)∈abJ A:=by
 cases e with
 |buy=>exact⟨vV,rfl,.head _⟩
 |sell=>exact⟨mV,rfl,.tail _ (.head _)⟩
 |gift=>exact⟨nY,rfl,.tail _ (.tail _ (.head _))⟩
 |give=>exact⟨lX,rfl,.tail _ (.tail _ (.tail _ (.head _)))⟩
 |split=>exact⟨lD,rfl,.tail _ (.tail _ (.tail _ (.tail _ (.head _))))⟩
 |part=>exact⟨mY,rfl,.tail _ (.tail _ (.tail _ (.tail _ (.tail _ (.head _)))))⟩
def RQ(e:Ent)(q:V):(e.fs q).lookup (Str.ofString "told")=none:=by cases e<;>rfl
theorem Zt{F:Addr->Ent->Prop}:∀{acc:List V}{tl:EL},acc.length=tl.length->(∀(i:Nat) v,acc[i]? =some v->∃b r,tl[i]? =some r/\v=.ref b/\F b r.2)->
  ∃es:EL,acc=jz es/\es.map (·.2)=tl.map (·.2)/\∀r∈es,F r.1 r.2
 |[],tl,hl,_=>by
  cases tl with
  |nil=>exact⟨[],rfl,rfl,λg h=>(zw h).elim⟩
  |cons _ _=>simp at hl
 |v::acc,tl,hl,h=>by
  cases tl with
  |nil=>simp at hl
  |cons r tl=>
   obtain⟨b,r',e,rfl,hf⟩:=h 0 v rfl;cases e;obtain⟨es,e1,e2,e3⟩:=Zt (acc:=acc) (tl:=tl) (by simpa using hl) λi v z=>h (i+1) v z;refine⟨(b,r.2)::es,by rw[e1];rfl,by rw[zg,zg,e2],λg q=>?_⟩;rcases zp.mp q with rfl|q
   ·exact hf
   ·exact e3 g q
def Vu{H H':Hp}{t D:Addr}{e:Ent}{acc:List V}(h:Hj H t e)(q:H D=some (.lst acc))(hb:But D H H'):Hj H' t e:=by
 obtain⟨nt,ht,hn⟩:=h;refine⟨nt,hb _ _ (λz=>by rw[z,q]at ht;cases ht) ht,?_⟩;revert hn
 cases e.lots with
 |none=>exact λh=>h
 |some rs=>
  rintro⟨l,e0,hl,hL⟩;refine⟨l,e0,hb _ _ (λz=>by rw[z,q]at hl;cases hl) hl,λr hr=>hb _ _ (λz=>?_) (hL r hr)⟩;have:=hL r hr;rw[z,q]at this;cases this
def CK(L:List Str):uO L=(L.map λz=>z++Str.ofString "\n").foldr (λx t=>x++t) (Str.ofString ""):=by
 unfold uO;rw[Nj,Gy,wu]
def Mf:uO []=Str.ofString "" :=by rw[CK];rfl
def uP(z:Str)(L:List Str):uO (z::L)=z++Str.ofString "\n" ++uO L:=by
 rw[CK,CK,zg,zzO]
def Ln(x:Str):x++Str.ofString "" =x:=by
 refine L2.str_ext ?_;rw[yy,zY,vz];simp
theorem Ms:∀a b:List Str,uO (a++b)=uO a++uO b
 |[],b=>by rw[zzi,Mf,wu]
 |z::a,b=>by
  rw[yR,uP,uP,Ms a b];simp only[kY]
def MK(z:Str):uO [z]=z++Str.ofString "\n" :=by rw[uP,Mf,Ln]
def Cq(L:List Str)(z:Str):uO (L++[z])=uO L++z++Str.ofString "\n" :=by rw[Ms,MK,kY]
structure MF(z:Str):Prop where
 r:YF z
 f:10∉z.cps.toList
 s:z.length<=20000
def QQ{e:Ent}(h:e.good5):MF (gQ e):=let⟨W,_,_⟩:=vD h;⟨W.row,W.line,W.len⟩
def Dk.g{z:Str}(h:Dk z):MF z:=⟨h.r,h.f,h.s⟩
def Ko{L:List Str}{i:Nat}{es:List Ent}(hL:∀z∈L,MF z)(hl:L.length<=45)(h:Hi (L.take i) es)(hu:(es.map Ent.num).Nodup)(hb:Hw L (Str.ofString "") i (es.map Ent.num)):Ref (uO L) i:=
 ⟨L,Str.ofString "",es,by have:=BK λz q=>(hL z q).s;omega,En λz q=>(hL z q).f,by omega,λz q=>(hL z q).r,h,hu,hb⟩
section
variable{os:List Ent}{j:Nat}
def Jy(q:∀e∈os,e.good5)(j:Nat):Hi ((os.map gQ).take j) (os.take j):=by
 rw[<-zX];exact xj λe z=>q e (zS z)
def JM(q:(os.map Ent.num).Nodup)(j:Nat):((os.take j).map Ent.num).Nodup:=by
 rw[zX];exact(zzr _ _).nodup q
def HF(q:∀e∈os,e.good5):∀z∈os.map gQ,MF z:=λz hz=>by
 obtain⟨e,he,rfl⟩:=zO.mp hz;exact QQ (q e he)
def Vn(ab:∀e∈os,e.good5)(hu:(os.map Ent.num).Nodup)(hl:os.length<=41)(hj:j<os.length){z:Str}(hz:Dk z){ex:List Str}(ac:∀y∈ex,MF y)(ad:ex.length<=1):Ref (uO ((os.map gQ).take j++[z]++(os.map gQ).drop (j+1)++ex)) j:=by
 have hg:=HF ab;have aa:((os.map gQ).take j).length=j:=by rw[zv,zb];omega
 refine Ko (es:=os.take j) (λy q=>?_) ?_ ?_ (JM hu j) (.inl ⟨z,?_,.inl hz.t⟩)
 ·rcases zx.mp q with q|q
  ·rcases zx.mp q with q|q
   ·rcases zx.mp q with q|q
    ·exact hg y (zS q)
    ·rw[zC.mp q];exact hz.g
   ·exact hg y (yz q)
  ·exact ac y q
 ·rw[zh,zh,zh,aa,yf,zb,zM]
  omega
 ·rw[yK,yK,yyg aa]
  exact Jy ab j
 ·rw[yK,yK,zT (by omega),aa,zzY]
  rfl
def Mq(aa:∀e∈os,e.good5)(hu:(os.map Ent.num).Nodup)(hl:os.length<=41){z:Str}(hz:MF z)(hb:(∀e,¬iZ (jT z) e)\/∃e,iZ (jT z) e/\e.num∈os.map Ent.num):Ref (uO (os.map gQ++[z])) os.length:=by
 have q:(os.map gQ).length=os.length:=zb ..;refine Ko (es:=os) (λy hy=>?_) (by rw[zh,q,zM];omega) ?_ hu (.inl ⟨z,?_,hb⟩)
 ·rcases zx.mp hy with hy|hy
  ·exact HF aa y hy
  ·rw[zC.mp hy];exact hz
 ·rw[yyg q]
  exact xj aa
 ·rw[zT (by omega),q,zzY]
  rfl
def Sw(q:∀e∈os,e.good5)(hl:os.length<=41):Ref (uO (Str.ofString "" ::os.map gQ)) 0:=by
 have hn:=Cm (Str.ofString "") (by simp[Zr]);refine Ko (es:=[]) (λy z=>?_) (by rw[zA,zb];omega) .nil .nil (.inl ⟨_,rfl,.inl hn.t⟩);rcases zp.mp z with rfl|z
 ·exact hn.g
 ·exact HF q y z
def Ux(q:∀e∈os,e.good5)(hu:(os.map Ent.num).Nodup)(hl:os.length<=41){o:Ent}{us:List Ent}(e:os=us++[o]){z:Str}(hz:uO (os.map gQ)=z++Str.ofString "\n"):Ref z us.length:=by
 subst e;have ho:=q o (zL _ zi);have hg:=HF q
 have ez:z=Str.join (Str.ofString "\n") ((us++[o]).map gQ):=by
  have h1:Str.join (Str.ofString "\n") ((us++[o]).map gQ)++Str.ofString "\n" =z++Str.ofString "\n" :=by
   rw[<-hz,zk,zg,yg]
   have key:∀(L:List Str)(y:Str),Str.join (Str.ofString "\n") (L++[y])++Str.ofString "\n" =uO (L++[y]):=λL y=>by
    induction L with
    |nil=>exact(MK y).symm
    |cons a L ih=>
     rw[yR,uP,<-ih]
     cases L with
     |nil=>show a++Str.ofString "\n" ++y++Str.ofString "\n" =a++Str.ofString "\n" ++(y++Str.ofString "\n");rw[kY]
     |cons b L=>
      show a++Str.ofString "\n" ++Str.join (Str.ofString "\n") (b::(L++[y]))++Str.ofString "\n" =a++Str.ofString "\n" ++(Str.join (Str.ofString "\n") (b::(L++[y]))++Str.ofString "\n");rw[kY]
   exact key _ _
  have h2:=congrArg (λs:Str=>s.cps.toList) h1;simp only[yy,zY]at h2;exact(L2.str_ext (zzg h2)).symm
 have aa:=BK λy hy=>(hg y hy).s;rw[hz,str_len,zb]at aa;have ab:(us++[o]).length=us.length+1:=by rw[zh];rfl
 refine⟨us.map gQ,gQ o,us,by omega,?_,by rw[zb];omega,λy hy=>(hg y (by rw[zk];exact yx _ hy)).r,?_,?_,.inr ⟨by rw[zb],λz=>?_⟩⟩
 ·rw[ez,wM,<-show Txt.join ⟨#[10]⟩ ((us++[o]).map gQ)=Str.join ⟨#[10]⟩ ((us++[o]).map gQ)from StrLaws.glued_eq_join _ _,L2.split_join (by simp) λp hp=>(hg p hp).f,zk]
  rfl
 ·rw[ya (by rw[zb];exact zj _)]
  exact xj λx hx=>q x (yx _ hx)
 ·rw[zk]at hu
  exact(y6.mp hu).1
 ·have h1:=(vD ho).1.words
  have h5:=(vD ho).2.1;rw[<-h1]at h5;have h6:jT (gQ o)=[Str.ofString ""]:=by rw[z];decide+kernel
  rw[show ju (wsE o)=gQ o from rfl,h6]at h5;exact absurd h5 (by decide)
end
noncomputable def Ka(T:Txt w K mg A D)(z:Value)(A':Around)(outer:List Env)(s0:Shared)(H:Hp)(E:XK)(q:mH 10 (A'.deeper (envOfC "law" (fP Kp) s0.heap.objs.size A.law z))):
  {t:TS//PSs (uD CX0 P w K mg base ["_law_script", "_law_told", "_law_rows", "_law_at", "_law_k", "_law_way", "_law_bad", "_law_text_here", "_law_good"] "law" (fP Kp) A.law z A' outer s0 H E).nox (iC Kp) t}:=
 ⟨_,(fJ (gm (i:=1) uT.nd rfl orl (fX jR (ig (fH (jJ (fH fW (fH fL (fH (fX vo fL fL) (fH fW (fH fL (fH fL (fH fL fO)))))))) fO)) (pcg (Lh T) q T.qU (Pu T) (pav 0 (fH fL fO)))))
   (fJ (gm (i:=2) uT.nd rfl orl (gM (gR (K:=K)) (jD (K:=K) zH yU yV Ca (pcg (Ib T) q T.rm (KZ T) (pav 1 fO)) (fH fW fO)) iB (ir (UW Mr fL))))
   (fJ (gm (i:=3) uT.nd rfl orl (fX gO (pcg (iJ T) q T.qO (iW T) (pav 0 (fH fL fO))) (gG (jf (K:=K)) (by rfl) T.rq (by decide+kernel) (pav 2 fO))))
   (fJ (Bd yZ rfl (Dh (by rfl) T.rL (fH fL fO)) (gJ (i:=4) uT.nd rfl orl)
    (fJ (gm (i:=5) uT.nd rfl orl (fX gO (pcg (iJ T) q T.qO (iW T) (pav 0 (fH (fX iy fL (pvD 4)) fO))) fL))
    (fJ (gm (i:=6) uT.nd rfl orl (fX jR (fX jR (gM (gR (K:=K)) (pvD 2) iB (ir (pvD 3))) (ig (fH (pcg (JL T) q T.rn (Km T) (fH (gF (fV (K:=K)) (pvD 2) (pvD 3) (λ_ _=>rfl)) (pav 5 fO))) fO))) (gM (gR (K:=K)) (pvD 2) (ir (fX iy (pvD 3) fL)) iB)))
    (fJ (iM (fZ (lH) (pvD 4) fL (gA _)) (fQ (gm (i:=6) uT.nd rfl orl (fX jR (pvD 6) (ig (fH fW fO))))) gw)
    (fJ (gm (i:=7) uT.nd rfl orl (jD (K:=K) zH z5 z6 ou fW (fH (jO (cap:=[none]) (N':=["_law_row"]) rfl (by walk_at "c") (lG (K:=K) (pv 6)) (λ_ _ _ _=>(gJ (i:=0) nd1 rfl orl orr)) (λ_ _ _ _=>jZ) (λ_ _ _ _=>(fX gY (pvD 0) fW))) fO)))
    (fQ (iM (fZ (Di (K:=K) q) (pcg (jq T) q T.qV (jx T) (pav 7 fO)) (ig (fH (fX iy (pvD 3) fL) (fH nq (fH nq (fH nq fO))))) (gA _)) (fQ (gn nq)) gw)))))))
   (fJ (gm (i:=7) uT.nd rfl orl (jD (K:=K) zH z5 z6 ou fW (fH (jO (cap:=[none]) (N':=["_law_row"]) rfl (by walk_at "c") (lG (K:=K) (pv 2)) (λ_ _ _ _=>(gJ (i:=0) nd1 rfl orl orr)) (λ_ _ _ _=>jZ) (λ_ _ _ _=>(fX gY (pvD 0) fW))) fO)))
   (fJ (iM (fZ (Di (K:=K) q) (pcg (jq T) q T.qV (jx T) (fH (fX gY (fX gY (pvD 7) (gF (fV (K:=K)) (pvD 2) (pvD 3) (λ_ _=>rfl))) fW) fO)) (ig (fH (fX iy (gG (jf (K:=K)) (by rfl) T.rq (by decide+kernel) (pav 2 fO)) fL) (fH nq (fH nq (fH nq fO))))) (gA _)) (fQ (gn nq)) gw)
   (fJ (iM (PW.pt (Cg (fZ (Di (K:=K) q) (pcg (jq T) q T.qV (jx T) (fH (gM Xg (pvD 7) iB (ir (UW Mr fL))) fO)) (ig (fH (gG (jf (K:=K)) (by rfl) T.rq (by decide+kernel) (pav 2 fO)) (fH nq (fH nq (fH nq fO))))) (gA _)) (wI (fZ (Di (K:=K) q) (gM (gR (K:=K)) (pcg (jq T) q T.qV (jx T) (fH (fX gY fW (pvD 7)) fO)) iB (ir fL)) (ig (fH fL fO)) (gA _))))) (fQ (gn nq)) gw)
   (fJ (iM (fZ (Di (K:=K) q) (pcg (jq T) q T.qV (jx T) (fH (fX gY (pvD 7) fW) fO)) (ig (fH (fX iy (gG (jf (K:=K)) (by rfl) T.rq (by decide+kernel) (pav 2 fO)) fL) (fH nq (fH nq (fH nq fO))))) (gA _)) (fQ (gn nq)) gw)
   (fJ (gm (i:=8) uT.nd rfl orl (iu (uZ (K:=K) T) (q.mono (by decide)) (by rfl) T.qM.m T.qM.k (vR T) .nil abt (fH (jD (K:=K) zH z5 z6 ou fW (fH (jO (cap:=[none]) (N':=["_law_row"]) rfl (by walk_at "c") (vC (K:=K) (gM (gR (K:=K)) (pvD 2) iB (ir (pvD 3)))) (λ_ _ _ _=>(gJ (i:=0) nd1 rfl orl orr)) (λ_ _ _ _=>jZ) (λ_ _ _ _=>(fX gY (pvD 0) fW))) fO)) fO)))
   (fQ (gn (Af (Xb (K:=K) q) (jO (cap:=[none]) (N':=["_law_entry_here"]) rfl (by walk_at "c") (lG (K:=K) (pv 8)) (λ_ _ _ _=>(gJ (i:=0) nd1 rfl orl orr)) (λ_ _ _ _=>jZ) (λ_ _ _ _=>(lV (pv 0) (mc T.sX T.up (JX T) q (Pn T) (mc T.tz T.uq (JG T) q (KN T) (mc T.tL T.ur (Jd T) q (Ky T) (mc T.tS T.ut (JN T) q (KR T) (mc T.tZ T.uu (Gs T) q (Jw T) (mc T.sP T.uv (Dw T) q (Eg T) .nil)))))) Jl))) (gM (gR (K:=K)) (pvD 1) iB (ir (pvD 3))) (gA _)))))))))))))⟩
noncomputable def Ni(K:Fg_):Sp:=λvs H Q _=>∃(a:Addr)(ns:List Int),vs=[.ref a]/\SqL K H a (ns.map V.int)/\ns.length<=63/\∀H',Q (.bl true) H'
noncomputable def e0:Ent:=.buy 3 1000000 (Str.ofString "cup") 1 2 0
def WL:e0.good5:=by
 refine⟨⟨⟨by decide,by decide,by decide,by decide,by unfold Nm;decide+kernel⟩,⟨by decide,by decide⟩,⟨by decide,by decide⟩,by decide,by decide⟩,λrs h=>by cases h⟩
def CW{H:Hp}{q:Addr}{L:List Str}{Q:VK}{σ:L2.St}(hq:H q=some (.lst (L.map V.str)))(hl:L.length<=100)(hz:∀z∈L,MF z)
  (k:∀D H',Same H H'->H' D=some (.lst ((L.map λz=>z++Str.ofString "\n").map V.str))->Q (.ref D) H'):jP [none] (Itl K q) (KC 0) Df (tOp (λx y H Q=>∃i,x=V.str i/\∃x,y=V.str x/\i.length+x.length<=sizeLine/\Q (V.str (i++x)) H) (tV 0) (tC (V.str (Str.ofString "\n")))) σ H Q:=by
 refine jP.list (K:=K) (xs:=L.map V.str) (λσ=>∃a,σ=[a]) (λ_=>true) (λv=> .str (sV v++Str.ofString "\n")) (fU hq) ⟨_,rfl⟩ (by rw[zc,zb];omega) ?_ ?_
 ·rintro x hx σ H6 R1 R2 ⟨_,rfl⟩ sm k1 k2
  obtain⟨z,aa,rfl⟩:=zO.mp hx;have h1:=(hz z aa).s;have h2:=vG;walk_at "i";exact⟨by rw[zc];omega,k1 rfl _ _ ⟨_,rfl⟩ (same_refl _)⟩
 ·intro D6 H6 ab s6 h6
  refine k D6 H6 s6 ?_;rw[h6,nU,zU,zU];rfl
def GZ{L:List Str}(hl:L.length<=45)(q:∀z∈L,MF z):((L.map λz=>z++Str.ofString "\n").map (·.length)).sum+(L.map λz=>z++Str.ofString "\n").length*(Str.ofString "").length<=1000000:=by
 have e0:(Str.ofString "").length=0:=by decide+kernel
 have key:((L.map λz=>z++Str.ofString "\n").map (·.length)).sum<=20001*L.length:=by
  clear hl
  induction L with
  |nil=>exact zV _
  |cons w ws ih=>
   have h1:=(q w zi).s;have h2:=ih λx hx=>q x (zt _ hx);have h3:=vG;rw[zg,zg,yP,zA,str_len];omega
 rw[e0];omega
def aaR:MF (Str.ofString "x"):=by
 have W:Wds [Str.ofString "x"]:=⟨by simp,λw q=>by rw[zC.mp q];unfold jQ;decide+kernel,by decide,λw q=>by rw[zC.mp q];decide+kernel⟩;have e:ju [Str.ofString "x"]=Str.ofString "x" :=rfl;rw[<-e];exact⟨W.row,W.line,W.len⟩
def Ol(w:Str):Txt.slice (w++Str.ofString "\n") none (some (-1))=w:=by
 have h:(w++Str.ofString "\n").length=w.length+1:=by rw[str_len,vG]
 show PySem.StrLaws.sliceText (w++Str.ofString "\n") none (some (-1))=_;rw[PySem.StrLaws.sliceText_to_neg (by decide) (by rw[h];omega),h];refine L2.str_ext ?_;have q:((-1:Int)+((w.length+1:Nat):Int) - 0).toNat=w.length:=by omega
 rw[q];show List.take w.length (List.drop 0 (w.cps++(Str.ofString "\n").cps).toList)=w.cps.toList;rw[zzt,zY];exact yyg z7
def Qk{H:Hp}{q:Addr}{es:EL}{Q:VK}{σ:L2.St}(hq:H q=some (.lst (jz es)))(hE:∀r∈es,IsE A H r.1 r.2)(hl:es.length<=100)
  (k:∀D ts H',H D=none->Same H H'->H' D=some (.lst (jz ts))->(∀r∈ts,Hj H' r.1 r.2)->ts.map (·.2)=es.map (·.2)->Q (.ref D) H'):jP [none] (Itl K q) (KC 0) Df (tMV (abJ A) (Str.ofString "told") E0 0 Ro) σ H Q:=by
 refine jP.listE (K:=K) (λσ=>∃a,σ=[a]) (λi v H'=>∃b r,es[i]? =some r/\v=.ref b/\Hj H' b r.2) (fU hq) ⟨_,rfl⟩ (by rw[nO,zc];omega) ?_ ?_
 ·rintro Da i x hx σ H5 R ⟨_,rfl⟩ sm hD ⟨acc,hA⟩ kk
  obtain⟨r,ab,rfl⟩:=Ho hx;have aa:=(hE r (za ab)).same sm;obtain⟨dx,nv,ad,ae⟩:=id aa;obtain⟨af,hk,hm⟩:=abb A r.2;walk_at "i";exact md ad hm (RQ r.2 nv) ⟨r.1,r.2,hk,rfl,aa,λt nt H6 s6 ht h6 ac=>kk (.ref t) _ H6 ⟨_,rfl⟩ s6 λH' hb=>⟨t,r,ab,rfl,Vu ⟨nt,h6,ac⟩ (s6 _ _ hA) hb⟩⟩
 ·intro Da H' acc hD sm hA z hF
  rw[nO]at z;obtain⟨ts,e1,e2,e3⟩:=Zt (F:=Hj H') z hF;rw[e1]at hA;exact k Da ts H' hD sm hA e3 e2
def ZD(T:Txt w K mg A D):jn P w K mg base CX0 11 A.law D.law ["_law_script"] (Ni K):=by
 refine T.ro.F.ok uT (by walk_at "v") (λcj A' outer s0 H vs Q E hr h=>?_)
 ·obtain⟨a,ns,rfl,hS,hl,k⟩:=h
  refine⟨(Ka (base:=base) T cj A' outer s0 H E hr).1,(Ka (base:=base) T cj A' outer s0 H E hr).2,?_⟩;unfold Ka;simp only[start_eq];walk_at "n";refine⟨⟨by decide,by decide,by decide⟩,sz,λt0 da=>⟨sz,λp1 ca=>?_⟩⟩;have s1:=(fM (o:=.tup [V.str (Str.ofString "buy"),V.int 3,V.int (10^Int.toNat 6),V.str (Str.ofString "cup"),V.int 1,V.int 2,V.int 0]) da).trans (fM (o:=.lst [V.ref t0]) ca);refine⟨a,ns,40,rfl,s1.seq hS,hl,by decide,λp2 tl H2 s2 dl bf bp bd b3 ax=>?_⟩;have ht0':=s2 _ _ (fM (o:=.lst [V.ref t0]) ca _ _ (fK (H:=H) (a:=t0) (o:=.tup [V.str (Str.ofString "buy"),V.int 3,V.int (10^Int.toNat 6),V.str (Str.ofString "cup"),V.int 1,V.int 2,V.int 0])));have hp1':=s2 _ _ (fK (H:=upd H t0 (.tup [V.str (Str.ofString "buy"),V.int 3,V.int (10^Int.toNat 6),V.str (Str.ofString "cup"),V.int 1,V.int 2,V.int 0])) (a:=p1) (o:=.lst [V.ref t0]));have S2:=s1.trans s2;clear s1 s2
  try dsimp only
  refine⟨p1,p2,_,_,rfl,rfl,hp1',bf,by rw[zc,nO];simp;omega,λp3 cp=>?_⟩;obtain⟨ts,ai⟩:∃ts:EL,ts=(t0,e0)::tl:=⟨_,rfl⟩;rw[show[V.ref t0]++jz tl=jz ts by rw[ai];rfl];have s3:=fM (o:=.lst (jz ts)) cp;have hp3':upd H2 p3 (.lst (jz ts)) p3=some (.lst (jz ts)):=fK
  have ag:ToldN (upd H2 p3 (.lst (jz ts))) ts:=by
   intro r hr;rw[ai]at hr;rcases zp.mp hr with rfl|hr
   ·exact⟨⟨.non,s3 _ _ ht0',rfl⟩,WL⟩
   ·exact(bp.same s3) r hr
  have S3:=S2.trans s3;generalize upd H2 p3 (.lst (jz ts))=H3 at S3 hp3' ag;obtain⟨os,ae⟩:∃os,os=ts.map (·.2):=⟨_,rfl⟩;have dj:os.length=ts.length:=by rw[ae,zb]
  have ab:1<=os.length/\os.length<=41:=by rw[dj,ai,zA];omega
  have hu':(os.map Ent.num).Nodup:=by
   rw[ae,ai,zU,zg,yI];refine⟨λz=>?_,b3⟩;obtain⟨r,hr,e⟩:=zO.mp z;have:=ax r hr;have e:r.2.num=1000000:=e;omega
  have hg:∀e∈os,e.good5:=λe he=>by
   rw[ae]at he;obtain⟨r,hr,rfl⟩:=zO.mp he;exact(ag r hr).2
  clear hp1' bf ht0' bp b3 ax S2;walk_at "n";refine⟨p3,ts,rfl,hp3',ag,by omega,λH4 s4=>?_⟩;rw[<-ae]
  have bd:(vB os).length<=1000000:=by
   unfold vB;rw[Cv];have q1:=text_len _ hg;have q3:(Str.ofString "").length=0:=by decide+kernel
   have:=zzT 12013 ab.2;omega
  walk_at "i";refine⟨rfl,vG,bd,λp4 cl=>?_⟩;have s5:=fM (o:=.lst ((Txt.split (vB os) (Str.ofString "\n")).map V.str)) cl;refine⟨_,fU fK,λp5 ay=>?_⟩;rw[Em (λe he=>(hg e he).1),zk,Mu,zg,yg,zzK];rw[Em (λe he=>(hg e he).1),zk,zg,yg]at ay s5;obtain⟨B,hB⟩:∃B,B=os.map gQ:=⟨_,rfl⟩;have aq:B.length=os.length:=by rw[hB,zb]
  rw[<-hB]at ay s5⊢;have s6:=fM (o:=.lst (B.map V.str)) ay;have aa:upd (upd H4 p4 (.lst (B.map V.str++[V.str (Str.ofString "")]))) p5 (.lst (B.map V.str)) p5=some (.lst (B.map V.str)):=fK;have S5:=(S3.trans s4).trans (s5.trans s6);have bo:=(s4.trans (s5.trans s6)) _ _ hp3';have c8:=ag.same (s4.trans (s5.trans s6));generalize c7:upd (upd H4 p4 _) p5 _=H5 at*;clear c7 s3 s4 s5 s6 hp3' ag S3 bd;walk_at "n";refine⟨a,ns,3,rfl,S5.seq hS,_,.inl (fU aa),_,rfl,by rw[zb];omega,?_⟩
  obtain ⟨j,aw,cu⟩:∃j:Nat,j<os.length/\ns.getD 3 0%((B.map V.str).length:Int)=j:=by
   rw[zb];have h0:=zI (ns.getD 3 0) (show(B.length:Int)≠0 by omega);have h1:=zy (ns.getD 3 0) (show 0<(B.length:Int) by omega);exact⟨(ns.getD 3 0%(B.length:Int)).toNat,by omega,by omega⟩
  rw[cu];obtain⟨e,he,b2⟩:∃e,os[j]? =some e/\B[j]? =some (gQ e):=⟨os[j],zJ aw,by rw[hB,zB,zJ aw];rfl⟩;have ac:∀y∈B,MF y:=by rw[hB];exact HF hg
  (try dsimp only)
  refine Gb λu hu=>?_;rw[ap_seq];refine Ul λtb c9=>?_;rw[ap_for];walk_at "i";refine⟨by decide,by decide,?_⟩;refine Kc.rangeN (lo:=0) (n:=3) (λi σ Hx=>(∃v4 v5 v6 v7,σ=[some (.ref a),some (.ref p3),some (.ref p5),some (.int j),v4,v5,v6,v7,none])/\Same H5 Hx) ⟨⟨_,_,_,_,rfl⟩,same_refl _⟩ ?_ ?_
  ·rintro i σ Hx hi ⟨⟨v4,v5,v6,v7,rfl⟩,sx⟩ N hN
   subst c9;rw[Int.zero_add,ap_name];walk_at "n";refine⟨a,ns,4+i,rfl,(S5.trans sx).seq hS,_,rfl,by decide,?_⟩;obtain⟨wy,hw⟩:∃x,x=ns.getD (4+i) 0%18:=⟨_,rfl⟩;have bt:0<=wy/\wy<18:=by omega
   rw[<-hw];walk_at "n";have bz:=sx _ _ aa;refine⟨_,fU bz,λq1 cy=>?_⟩;rw[jo,<-zX];have n1:=fM (o:=.lst ((B.take j).map V.str)) cy;have g1:upd Hx q1 (.lst ((B.take j).map V.str)) q1=some (.lst ((B.take j).map V.str)):=fK;have av:=n1 _ _ bz;generalize upd Hx q1 (.lst ((B.take j).map V.str))=H6 at n1 g1 av⊢;refine⟨_,fU av,.str (gQ e),jw (by rw[zB,b2];rfl),e,wy,rfl,hg e (za he),bt.1,bt.2,λz H7 s7 bg=>?_⟩;refine⟨sz,λq2 cz=>?_⟩;have n2:=fM (o:=.lst [V.str z]) cz;have g2:upd H7 q2 (.lst [V.str z]) q2=some (.lst [V.str z]):=fK;have g1':=n2 _ _ (s7 _ _ g1);have ch:=n2 _ _ (s7 _ _ av);generalize upd H7 q2 (.lst [V.str z])=H8 at n2 g1' g2 ch⊢;have ax:(B.take j).length<=45:=by rw[zv];omega
   have d5:(B.drop (j+1)).length<=45:=by rw[yf];omega
   refine⟨_,g1',_,g2,by rw[zc,zb,zM];omega,λq3 de=>?_⟩;have n3:=fM (o:=.lst ((B.take j).map V.str++[V.str z])) de;have g3:upd H8 q3 (.lst ((B.take j).map V.str++[V.str z])) q3=some (.lst ((B.take j).map V.str++[V.str z])):=fK;have bh:=n3 _ _ ch;generalize upd H8 q3 (.lst ((B.take j).map V.str++[V.str z]))=H9 at n3 g3 bh⊢;refine⟨_,fU bh,λq4 c1=>?_⟩;rw[show((j:Int)+1)=((j+1:Nat):Int)from rfl,BP,<-yyc];have n4:=fM (o:=.lst ((B.drop (j+1)).map V.str)) c1;have g4:upd H9 q4 (.lst ((B.drop (j+1)).map V.str)) q4=some (.lst ((B.drop (j+1)).map V.str)):=fK;have g3':=n4 _ _ g3;generalize upd H9 q4 (.lst ((B.drop (j+1)).map V.str))=cb at n4 g3' g4⊢;refine⟨_,g3',_,g4,by rw[zc,zh,zb,zb,zM];omega,λq5 db=>?_⟩;obtain⟨M,hM⟩:∃M,M=B.take j++[z]++B.drop (j+1):=⟨_,rfl⟩;have d7:M.length<=42:=by rw[hM,zh,zh,zv,yf,zM];omega
   rw[show(B.take j).map V.str++[V.str z]++(B.drop (j+1)).map V.str=M.map V.str by rw[hM,zk,zk];rfl];have n5:=fM (o:=.lst (M.map V.str)) db;have g5:upd cb q5 (.lst (M.map V.str)) q5=some (.lst (M.map V.str)):=fK;generalize upd cb q5 (.lst (M.map V.str))=co at n5 g5⊢;have bs:Same H5 co:=sx.trans (n1.trans (s7.trans (n2.trans (n3.trans (n4.trans n5)))))
   have df:∀y∈M,MF y:=λy hy=>by
    rw[hM]at hy;rcases zx.mp hy with hy|hy
    ·rcases zx.mp hy with hy|hy
     ·exact ac y (zS hy)
     ·rw[zC.mp hy];exact bg.g
    ·exact ac y (yz hy)
   try dsimp only
   refine wU (λσ' H'=>∃q ex,σ'=[some (.ref a),some (.ref p3),some (.ref p5),some (.int j),some (.int i),some (.int wy),some (.ref q),v7,none]/\Same H5 H'/\H' q=some (.lst ((M++ex).map V.str))/\(∀y∈ex,MF y)/\ex.length<=1) ?_ ?_
   rotate_left
   ·intro N' b7
    walk_at "i";by_cases h2:(i:Int)=2
    ·rw[zu h2]
     refine⟨sz,λq6 cx=>?_⟩;have n6:=fM (o:=.lst [V.str (Str.ofString "x")]) cx;refine⟨_,n6 _ _ g5,_,fK,by rw[zc,zb,zM];omega,λq7 cn=>?_⟩;exact b7 _ _ ⟨q7,[Str.ofString "x"],rfl,bs.trans (n6.trans (fM cn)),by rw[fK,zk];rfl,λy hy=>by rw[zC.mp hy];exact aaR,zj _⟩
    ·rw[zo h2]
     exact b7 _ _ ⟨q5,[],rfl,bs,by rw[yr];exact g5,λy hy=>(zw hy).elim,zV _⟩
   rintro σ' ec ⟨q,ex,rfl,cs,ce,b4,b0⟩;have br:∀y∈M++ex,MF y:=λy hy=>(zx.mp hy).elim (df y) (b4 y);have dp:(M++ex).length<=43:=by rw[zh];omega
   walk_at "n";refine⟨rfl,⟨_,fU ce⟩,CW ce (by omega) br λD cw be bc=>?_⟩;refine⟨_,D,_,rfl,rfl,bc,GZ (by omega) br,?_⟩;rw[show Txt.join (Str.ofString "") ((M++ex).map λz=>z++Str.ofString "\n")=uO (M++ex)from rfl];have aj:=cs.trans be;walk_at "i"
   have hR:Ref (uO (M++ex)) j:=by
    rw[hM,hB];exact Vn hg hu' ab.2 aw bg b4 b0
   refine⟨uO (M++ex),j,rfl,hR,λpr Hr sr di az=>⟨sz,λpd ad=>uR (vs:=rfL j) (fM ad _ _ az) fK rfl ⟨false,rfl,?_⟩⟩⟩;rw[zo (λz=>nomatch z)];exact hN _ _ ⟨⟨_,_,_,_,rfl⟩,aj.trans (sr.trans (fM ad))⟩
  ·rintro σ Hx ⟨⟨v4,v5,v6,v7,rfl⟩,sx⟩
   subst hu;walk_at "n";refine⟨rfl,⟨_,fU (sx _ _ aa)⟩,CW (sx _ _ aa) (by omega) ac λD cw be bc=>?_⟩;refine⟨_,D,_,rfl,rfl,bc,GZ (by omega) ac,?_⟩;rw[show Txt.join (Str.ofString "") (B.map λz=>z++Str.ofString "\n")=uO B from rfl];have aj:=sx.trans be;walk_at "n";have am:=aj _ _ aa
   have d0:(uO B).length<=900000:=by
    have:=BK λz hz=>(ac z hz).s;omega
   have d9:(gQ e).length<=20000:=(QQ (hg e (za he))).s;have dy:=vG
   have c3:Ref (uO B++gQ e++Str.ofString "\n") os.length:=by
    rw[<-Cq,hB];have ar:=hg e (za he);exact Mq hg hu' ab.2 (QQ ar) (.inr ⟨e,by rw[show jT (gQ e)=wsE e from(vD ar).1.words];exact wK ar.1,zzf (za he)⟩)
   refine⟨_,fU am,.str (gQ e),jw (by rw[zB,b2];rfl),gQ e,rfl,by rw[zc];omega,by rw[zc,str_len];omega,?_⟩;refine⟨uO B++gQ e++Str.ofString "\n",os.length,rfl,c3,λpr Hr sr di az=>⟨_,.inl (fU (sr _ _ am)),sz,λpd ad=>uR (vs:=rfL os.length) (fM ad _ _ az) (by rw[fK,zb,aq];rfl) rfl ⟨false,rfl,?_⟩⟩⟩;rw[zo (λz=>nomatch z)];have as:=aj.trans (sr.trans (fM (o:=.lst [V.int (((B.map V.str).length:Int)+1),V.bl true,V.bl true,V.bl false]) ad));generalize upd Hr pd _=dw at as⊢;have bk:=as _ _ aa;walk_at "n"
   obtain ⟨us,o,ba⟩:∃us o,os=us++[o]:=by
    have cm:os≠[]:=λz=>by rw[z]at ab;exact absurd ab.1 (by decide)
    exact⟨_,_,(zzN cm).symm⟩
   obtain⟨y,hy⟩:∃y,uO (os.map gQ)=y++Str.ofString "\n" :=⟨_,by rw[ba,zk];exact Cq _ _⟩;refine⟨uO B,rfl,by rw[zc];omega,?_⟩;rw[show Txt.slice (uO B) none (some (-1))=y by rw[hB,hy,Ol]];refine⟨y,us.length,rfl,Ux hg hu' ab.2 ba hy,λd4 c2 b9 dm bx=>⟨_,.inl (fU (b9 _ _ bk)),sz,λc6 ap=>uR (vs:=rfL us.length) (fM ap _ _ bx) (by rw[fK,zb,aq,ba,zh];rfl) rfl ⟨false,rfl,?_⟩⟩⟩;rw[zo (λz=>nomatch z)];have b8:=as.trans (b9.trans (fM (o:=.lst [V.int ((B.map V.str).length:Int),V.bl true,V.bl true,V.bl false]) ap));generalize upd c2 c6 _=dz at b8⊢
   have dg:Ref (Str.ofString "\n" ++uO B) 0:=by
    have:=Sw hg ab.2;rw[uP,wu]at this;rw[hB];exact this
   refine⟨by rw[zc];omega,Str.ofString "\n" ++uO B,0,rfl,dg,λdh cg c5 dk cf=>⟨dh,rfl,_,fU cf,λp6 ct=>⟨sz,λp7 bu=>?_⟩⟩⟩
   have h6:upd cg p6 (.lst (uN (rfL 0) none (some 1))) p6=some (.lst [V.int 1]):=by
    rw[fK,show(1:Int)=((1:Nat):Int)from rfl,jo];rfl
   refine uR (vs:=[V.int 1]) (fM bu _ _ h6) fK rfl ⟨false,rfl,?_⟩;rw[zo (λz=>nomatch z)];have bb:=b8.trans (c5.trans ((fM (o:=.lst (uN (rfL 0) none (some 1))) ct).trans (fM (o:=.lst [V.int 1]) bu)));generalize upd (upd cg p6 _) p7 _=dq at bb⊢;walk_at "n"
   have dd:Ref (uO B++Str.ofString "\n") os.length:=by
    have hn:=Cm (Str.ofString "") (by simp[Zr]);have:=Mq hg hu' ab.2 hn.g (.inl hn.t);rw[Cq,Ln]at this;rw[hB];exact this
   refine⟨by rw[zc];omega,uO B++Str.ofString "\n",os.length,rfl,dd,λdt ck bi dn bl=>⟨_,.inl (fU ((bb.trans bi) _ _ aa)),sz,λcv an=>uR (vs:=rfL os.length) (fM an _ _ bl) (by rw[fK,zb,aq];rfl) rfl ⟨false,rfl,?_⟩⟩⟩;rw[zo (λz=>nomatch z)];have ah:=bb.trans (bi.trans (fM (o:=.lst [V.int (((B.map V.str).length:Int)+1),V.bl true,V.bl true,V.bl false]) an));generalize upd ck cv _=bn at ah⊢;have b1:=ah _ _ aa;have bw:=ah _ _ bo;have bq:=c8.same ah;walk_at "n";refine⟨rfl,_,fU b1,λp8 cq=>?_⟩;rw[jo,<-zX];have n8:=fM (o:=.lst ((B.take j).map V.str)) cq;have g8:upd bn p8 (.lst ((B.take j).map V.str)) p8=some (.lst ((B.take j).map V.str)):=fK;have c0:=ah.trans n8;have ak:=n8 _ _ bw;have al:=bq.same n8;generalize upd bn p8 (.lst ((B.take j).map V.str))=ed at c0 g8 ak al⊢;have af:∀y∈B.take j,MF y:=λy hy=>ac y (zS hy);have d6:(B.take j).length<=41:=by rw[zv];omega
   refine⟨⟨_,fU g8⟩,CW g8 (by omega) af λD9 du bv cr=>?_⟩;refine⟨_,D9,_,rfl,rfl,cr,GZ (by omega) af,?_⟩;rw[show Txt.join (Str.ofString "") ((B.take j).map λz=>z++Str.ofString "\n")=uO (B.take j)from rfl];have ao:Hi (B.take j) (os.take j):=by rw[hB];exact Jy hg j
   refine⟨uO (B.take j),B.take j,Str.ofString "",rfl,by have:=BK λz hz=>(af z hz).s;omega,En λz hz=>(af z hz).f,by omega,λr hr=>(af r hr).r,λpe es d2 bj d8 b6 hk ht hn _=>?_,λi es d H' _ _ _ h d1 hb=>(MP ao (JM hu' j) rfl h hb).elim⟩;walk_at "i";have ci:=(bv.trans bj) _ _ ak;have bm:=al.same (bv.trans bj)
   have d3:es.length<=41:=by
    have:=zzF ht;rw[zb]at this;omega
   refine⟨⟨_,fU b6⟩,Qk b6 (λr hr=>(hk r hr).isE) (by omega) λD ks dr hD b5 c4 hK dc=>?_⟩;refine⟨_,fU (b5 _ _ ci),λeb cc=>?_⟩;have au:=fM (o:=.lst (jz (ts.take j))) cc;rw[show uN (jz ts) none (some (j:Int))=jz (ts.take j) by rw[jo];unfold jz;rw[zX]];refine Um (tl:=ks) (zl:=ts.take j) (au _ _ c4) fK (λr hr=>(hK r hr).same au) (λr hr=>((bm.same (b5.trans au)) r (zS hr)).1) ?_ (k _);rw[dc,zX,<-ae];exact MT ao ht
end
end My
namespace My
open PySem L2 PyProof.Rows
open PySem.W (codeIn findCls findIn fnOf hasDictIn isFn keepIn kitOne makesIn mg_none_of mg_of nsIn plainGet plainOver readsIn specialIn)
abbrev Dm_(K:Fg_)(c:Addr)(x q:Str)(st:Stmt)(f:Addr)(oc:Value)(od:Option Addr)(kV dc pm:Value)(an:Option Addr)(cd ct:Value)(sl:Array (Option Value)):Prop:=findIn K (.ref c) x=some (some (.ref f))/\K.lookup f=some ⟨oc,od,.func (fnOf x q (jB st) (iC st) (fP st) .none kV dc pm an cd ct),sl⟩/\codeIn K cd q=true/\keepIn K (.ref f)=true
abbrev Df_(K:Fg_)(x:Str)(st:Stmt)(f:Addr)(oc:Value)(od:Option Addr)(kV dc pm:Value)(an:Option Addr)(cd ct:Value)(sl:Array (Option Value)):Prop:=nsIn K mainGlobals x=some (some (.ref f))/\K.lookup f=some ⟨oc,od,.func (fnOf x x (jB st) (iC st) (fP st) .none kV dc pm an cd ct),sl⟩/\codeIn K cd x=true/\keepIn K (.ref f)=true
inductive Ef_(K:Fg_)(x:Str)(st:Stmt)(f:Addr)(fd:FuncData):Prop
  |mk {oc:Value} {od:Option Addr} {kV dc pm:Value} {an:Option Addr} {cd ct:Value} {sl:Array (Option Value)} (e:fd=fnOf x x (jB st) (iC st) (fP st) .none kV dc pm an cd ct) (h:Df_ K x st f oc od kV dc pm an cd ct sl):Ef_ K x st f fd
inductive Em_(K:Fg_)(c:Addr)(x q:Str)(st:Stmt)(f:Addr)(fd:FuncData):Prop
  |mk {oc:Value} {od:Option Addr} {kV dc pm:Value} {an:Option Addr} {cd ct:Value} {sl:Array (Option Value)} (e:fd=fnOf x q (jB st) (iC st) (fP st) .none kV dc pm an cd ct) (h:Dm_ K c x q st f oc od kV dc pm an cd ct sl):Em_ K c x q st f fd
def Ef_.n{K:Fg_}{x:Str}{st:Stmt}{f:Addr}{fd:FuncData}(a:Ef_ K x st f fd):nsIn K mainGlobals x=some (some (.ref f)):=by cases a with|mk e h=>exact h.1
def Ef_.k{K:Fg_}{x:Str}{st:Stmt}{f:Addr}{fd:FuncData}(a:Ef_ K x st f fd):keepIn K (.ref f)=true:=by cases a with|mk e h=>exact h.2.2.2
def Ef_.F{K:Fg_}{x:Str}{st:Stmt}{f:Addr}{fd:FuncData}(a:Ef_ K x st f fd):Fun K x x st f fd:=by cases a with|mk e h=>exact e▸Rq h.2.1 h.2.2.1 h.2.2.2
def Ef_.g{K:Fg_}{x:Str}{st:Stmt}{f:Addr}{fd:FuncData}{h:Heap}{mg:Str->Option Value}(a:Ef_ K x st f fd)(X:K.In h)(G:h.Ns mainGlobals mg):FG K mg x st f fd:=⟨mg_of X G a.n,a.k,a.F⟩
def Em_.n{K:Fg_}{c:Addr}{x q:Str}{st:Stmt}{f:Addr}{fd:FuncData}(a:Em_ K c x q st f fd):findIn K (.ref c) x=some (some (.ref f)):=by cases a with|mk e h=>exact h.1
def Em_.k{K:Fg_}{c:Addr}{x q:Str}{st:Stmt}{f:Addr}{fd:FuncData}(a:Em_ K c x q st f fd):keepIn K (.ref f)=true:=by cases a with|mk e h=>exact h.2.2.2
def Em_.F{K:Fg_}{c:Addr}{x q:Str}{st:Stmt}{f:Addr}{fd:FuncData}(a:Em_ K c x q st f fd):Fun K x q st f fd:=by cases a with|mk e h=>exact e▸Rq h.2.1 h.2.2.1 h.2.2.2
def all_mk{l:PySem.W.OpenLaw}{w:World}{K:Fg_}{h:Heap}{mg:Str->Option Value}{fa:Addr}(X:K.In h)(G:h.Ns mainGlobals mg)(hy:mg "law" =some (.ref fa))
  {f0 f1 f2 f3 f4 f5 f6 f7 f9 gg d0 dp gh gv ff gl gc eu cl gr ha fo ey gd fy gu g7 ei ew g3 dd bn e5 ck b5 bl br b0 bp bd ct b1 b4 gi g2 iv:Addr}
  {iQ lE:Option Addr}
  {io:Array (Option Value)}
  {iY lI k6 nM j9 fR:Value}
  {c0 c1 c2 z q c5 c6 c7 c8 c9 da dn bs as dl b2 b3 dk:Addr}
  {cf dG cE cW cD cL dH bh cQ ce:Tok}
  (cG:nsIn K mainGlobals "NoEntry" =some (some (.ref c0)))
  (ed:nsIn K mainGlobals "Entry" =some (some (.ref c1)))
  (cV:nsIn K mainGlobals "Parting" =some (some (.ref c2)))
  (eU:nsIn K mainGlobals "Buy" =some (some (.ref z)))
  (eC:nsIn K mainGlobals "Sell" =some (some (.ref q)))
  (el:nsIn K mainGlobals "Gift" =some (some (.ref c5)))
  (en:nsIn K mainGlobals "Give" =some (some (.ref c6)))
  (d3:nsIn K mainGlobals "Split" =some (some (.ref c7)))
  (cB:nsIn K mainGlobals "LotError" =some (some (.ref c8)))
  (cZ:nsIn K mainGlobals "NoText" =some (some (.ref c9)))
  (et:nsIn K mainGlobals "Late" =some (some (.ref da)))
  (dI:nsIn K mainGlobals "NoLot" =some (some (.ref dn)))
  (cu:nsIn K mainGlobals "NoNumber" =some (some (.ref bs)))
  (cq:nsIn K mainGlobals "NoPieces" =some (some (.ref as)))
  (cP:nsIn K mainGlobals "NotHeld" =some (some (.ref dl)))
  (dZ:nsIn K mainGlobals "NoWay" =some (some (.ref b2)))
  (bU:nsIn K mainGlobals "NoWeights" =some (some (.ref b3)))
  (dM:nsIn K mainGlobals "Twice" =some (some (.ref dk)))
  {hg hj il ik ia it h8 ii hr h9 gx go ft g4 e4 eq gz g5 ga fl g9 ep gt fr ez gf g0 ej ec fi gy ek fp ev d2 em g8 eb eh e3 g6 er d1 e1 ge:FuncData}
  (a0:Ef_ K "kind_of_words" mG f0 hg)
  (a1:Ef_ K "is_whole_number" jU f1 hj)
  (a2:Ef_ K "check_number" mW f2 il)
  (a3:Ef_ K "is_name" Cy f3 ik)
  (a4:Ef_ K "check_name" vA f4 ia)
  (a5:Em_ K c1 "__init__" "Entry.__init__" lg f5 it)
  (a6:Em_ K c2 "__init__" "Parting.__init__" jL f6 h8)
  (a7:Ef_ K "check_trade" uH f7 ii)
  {f8:Addr} {ip hd:Option Addr} {im:Array (Option Value)} {hb hz hc h3 fx hn:Value}
  (a8:findIn K (.ref z) "__init__" =some (some (.ref f8)))
  {gp:Addr} {jK:Option Addr} {iV:Value} {fT:Array (Option Value)} {h5:Nat} {fq:Tok}
  (l8:K.lookup f8=some ⟨hb,ip,.func (fnOf "__init__" "Buy.__init__" (jB jk) (iC jk) (fP jk) (.ref gp) hz hc h3 hd fx hn),im⟩)
  (d8:codeIn K fx "Buy.__init__" =true)
  (k8:keepIn K (.ref f8)=true)
  (h0:K.lookup gp=some ⟨iV,jK,.seq #[.int 0 fq] h5,fT⟩)
  (a9:Ef_ K "check_named" ux f9 hr)
  (a10:Ef_ K "named_copy" vf gg h9)
  {an:Addr} {iz ma:Option Addr} {ko:Array (Option Value)} {lh nz kr nB fw nZ:Value}
  (a11:findIn K (.ref q) "__init__" =some (some (.ref an)))
  {fz:Addr} {fE:Option Addr} {fG:Value} {fD:Array (Option Value)} {i8:Nat} {e7:Tok}
  (ic:K.lookup an=some ⟨lh,iz,.func (fnOf "__init__" "Sell.__init__" (jB je) (iC je) (fP je) (.ref fz) nz kr nB ma fw nZ),ko⟩)
  (ho:codeIn K fw "Sell.__init__" =true)
  (h7:keepIn K (.ref an)=true)
  (fj:K.lookup fz=some ⟨fG,fE,.seq #[.int 0 e7,.none] i8,fD⟩)
  (a12:Em_ K c5 "__init__" "Gift.__init__" lW d0 gx)
  {al:Addr} {mf mT:Option Addr} {kb:Array (Option Value)} {lO oj le og fA iO:Value}
  (a13:findIn K (.ref c6) "__init__" =some (some (.ref al)))
  {fu:Addr} {fF:Option Addr} {fC:Value} {fB:Array (Option Value)} {mD:Nat}
  (ie:K.lookup al=some ⟨lO,mf,.func (fnOf "__init__" "Give.__init__" (jB jh) (iC jh) (fP jh) (.ref fu) oj le og mT fA iO),kb⟩)
  (hv:codeIn K fA "Give.__init__" =true)
  (hu:keepIn K (.ref al)=true)
  (fm:K.lookup fu=some ⟨fC,fF,.seq #[.none] mD,fB⟩)
  (a14:Em_ K c7 "__init__" "Split.__init__" lz dp go)
  (ix:Ef_ K "entry_that_tells" jE gh ft)
  (hw:Ef_ K "is_written_number" jC gv g4)
  (h6:Ef_ K "value_of_word" lU ff e4)
  (ij:Ef_ K "lot_of_word" uz gl eq)
  (he:Ef_ K "named_of_words" lA gc gz)
  (ih:Ef_ K "entry_of_words" lu eu g5)
  (g1:Em_ K c9 "__init__" "NoText.__init__" jW cl ga)
  (hl:Ef_ K "entry_in_row" mQ gr fl)
  (hq:Ef_ K "read_entries" mZ ha g9)
  (iq:Ef_ K "_law_digits" uF fo ep)
  (hf:Ef_ K "_law_cell_at" ni ey gt)
  (h4:Ef_ K "_law_wares" vp gd fr)
  (hh:Ef_ K "_law_entry" vy fy ez)
  (hs:Ef_ K "_law_mixed" vg gu gf)
  (hm:Ef_ K "_law_cells" vq g7 g0)
  (ht:Ef_ K "_law_with_named" jX ei ej)
  (hp:Ef_ K "_law_any" lN ew ec)
  (hk:Ef_ K "_law_refused" mR g3 fi)
  (bk:Em_ K z "word" "Buy.word" Aj dd gy)
  (dr:Em_ K z "told" "Buy.told" xX bn ek)
  (ib:Ef_ K "named_told" uQ e5 fp)
  (dt:Em_ K q "word" "Sell.word" wz ck ev)
  (cc:Em_ K q "told" "Sell.told" wG b5 d2)
  (bm:Em_ K c5 "word" "Gift.word" wA bl em)
  (cs:Em_ K c5 "told" "Gift.told" vW br g8)
  (cp:Em_ K c6 "word" "Give.word" wg b0 eb)
  (bf:Em_ K c6 "told" "Give.told" vX bp eh)
  (ch:Em_ K c7 "word" "Split.word" uV bd e3)
  (co:Em_ K c7 "told" "Split.told" uU ct g6)
  (dc:Em_ K c2 "word" "Parting.word" nj b1 er)
  (ca:Em_ K c2 "told" "Parting.told" mU b4 d1)
  (is:Ef_ K "_law_text" wC gi e1)
  (hx:Ef_ K "_law_bent" kj g2 ge)
  (ab:Df_ K "law" Kp iv iY iQ lI k6 nM lE j9 fR io)
  (eM:nsIn K mainGlobals "len" =some none)
  (bq:nsIn K mainGlobals "isinstance" =some none)
  (eL:nsIn K mainGlobals "int" =some none)
  (eo:nsIn K mainGlobals "bool" =some none)
  (eS:nsIn K mainGlobals "all" =some none)
  (eJ:nsIn K mainGlobals "str" =some none)
  (eD:nsIn K mainGlobals "list" =some none)
  (eK:nsIn K mainGlobals "sum" =some none)
  (bT:nsIn K mainGlobals "enumerate" =some none)
  (eO:nsIn K mainGlobals "min" =some none)
  (eR:nsIn K mainGlobals "max" =some none)
  (d7:nsIn K mainGlobals "range" =some none)
  (dO:nsIn K mainGlobals "tuple" =some none)
  (bu:nsIn K mainGlobals "ValueError" =some none)
  (aF:nsIn K mainGlobals "MOST_LETTERS" =some (some (.int 8 cf)))
  (cv:nsIn K mainGlobals "MOST_DAY" =some (some (.int 1000000 dG)))
  (aW:nsIn K mainGlobals "MOST_NUMBER" =some (some (.int 1000000 cE)))
  (bC:nsIn K mainGlobals "MOST_WHOLE" =some (some (.int 1000000 cW)))
  (aM:nsIn K mainGlobals "MOST_PIECES" =some (some (.int 1000000000 cD)))
  (be:nsIn K mainGlobals "MOST_PRICE" =some (some (.int 1000000000 cL)))
  (cj:nsIn K mainGlobals "MOST_FEE" =some (some (.int 1000000000 dH)))
  (aj:nsIn K mainGlobals "MOST_GIFT_COST" =some (some (.int 1000000000000000000 bh)))
  (bb:nsIn K mainGlobals "MOST_SPLIT" =some (some (.int 1000 cQ)))
  (aG:nsIn K mainGlobals "MOST_FIGURES" =some (some (.int 19 ce)))
  {ad:Addr} {bo:Option Addr} {bE:Nat} {bw:Array (Option Value)} {bc:Tok} {bg:Tok}
  (aa:nsIn K mainGlobals "KINDS_THAT_NAME_LOTS" =some (some (.ref ad)))
  (ac:K.lookup ad=some ⟨.type "tuple",bo,.seq #[.str "sell" bc,.str "give" bg] bE,bw⟩)
  {ah:Addr} {dY:Nat} {bG:Int} {dE bJ:Tok} {bH:Int} {dA bM:Tok} {bQ:Int} {dB bN:Tok} {bL:Int} {dD bK:Tok} {bI:Int} {dC bO:Tok} {bF:Int} {dF bP:Tok}
  (aA:nsIn K mainGlobals "PLAIN_WORDS" =some (some (.ref ah)))
  (aH:K.lookup ah=some ⟨.type "dict",none,.dict (List.toArray [⟨bG,.str "buy" dE,.int 7 bJ⟩,⟨bH,.str "sell" dA,.int 7 bM⟩,⟨bQ,.str "gift" dB,.int 7 bN⟩,⟨bL,.str "give" dD,.int 5 bK⟩,⟨bI,.str "split" dC,.int 6 bO⟩,⟨bF,.str "part" dF,.int 7 bP⟩]) dY, #[]⟩)
  (aC:(ah==sysModules)=false)
  (az:bG=Wq w (Sum.inr "buy"))
  (ap:bH=Wq w (Sum.inr "sell"))
  (ay:bQ=Wq w (Sum.inr "gift"))
  (au:bL=Wq w (Sum.inr "give"))
  (aq:bI=Wq w (Sum.inr "split"))
  (av:bF=Wq w (Sum.inr "part"))
  (cM:PySem.W.excIn K c0 [.type "ValueError",.type "Exception",.type "BaseException",.type "object"] "ValueError.__new__" =true)
  {fb eX:Str} {fk:Addr} {eV ef:List Value} {eZ:List Str} {eF:List Value} {fh:Bool} {eG:Option Bool} {e8:Option Addr} {eY fe fc fg eW:Option Value}
  (cI:K.lookup c9=some (excClassObj fb eX c9 fk eV ef true eZ eF fh eG e8 eY fe fc fg eW "ValueError.__new__"))
  (cT:PySem.W.tailIn K [.type "ValueError",.type "Exception",.type "BaseException",.type "object"] ef=true)
  (cO:isFn K (.ref cl)=true)
  (cS:findIn K (.ref c9) "__setattr__" =some (some (.builtin "object.__setattr__")))
  (cX:keepIn K (.ref c9)=true)
  (cF:findIn K (.ref c9) "__class__" =some (some (.builtin "object.__class__")))
  (cR:findIn K (.ref c9) "__getattribute__" =some (some (.builtin "BaseException.__getattribute__")))
  (cY:findIn K (.ref c9) "__getattr__" =some none)
  (ba:findIn K (.ref c9) "row" =some none)
  (bZ:specialIn K (.ref c8) "__getattribute__" =some (some (.builtin "type.__getattribute__")))
  (bX:readsIn K c8 (.type "type")=true)
  (b9:findCls K (.ref c8) (.type "type") "__init__" =some (.val (.builtin "ValueError.__init__")))
  (cC:plainGet K c2 Str.empty=true)
  (cr:hasDictIn K c2=true)
  (cA:plainOver K c2=true)
  (cn:findIn K (.ref c2) "__setattr__" =some (some (.builtin "object.__setattr__")))
  (aN:findIn K (.ref c2) "day" =some none)
  (ai:findIn K (.ref c2) "number" =some none)
  (aD:findIn K (.ref c2) "ware" =some none)
  (aw:findIn K (.ref c2) "other" =some none)
  (ao:findIn K (.ref c2) "share" =some none)
  (ax:findIn K (.ref c2) "whole" =some none)
  (eE:plainGet K z Str.empty=true)
  (eg:hasDictIn K z=true)
  (eA:plainOver K z=true)
  (eB:findIn K (.ref z) "__setattr__" =some (some (.builtin "object.__setattr__")))
  (cN:findIn K (.ref z) "day" =some none)
  (bx:findIn K (.ref z) "number" =some none)
  (cg:findIn K (.ref z) "ware" =some none)
  (bv:findIn K (.ref z) "pieces" =some none)
  (bY:findIn K (.ref z) "price" =some none)
  (cK:findIn K (.ref z) "fee" =some none)
  (cz:findIn K (.ref z) "cost" =some none)
  (d5:plainGet K q Str.empty=true)
  (dQ:hasDictIn K q=true)
  (dJ:plainOver K q=true)
  (dU:findIn K (.ref q) "__setattr__" =some (some (.builtin "object.__setattr__")))
  (cm:findIn K (.ref q) "day" =some none)
  (aJ:findIn K (.ref q) "number" =some none)
  (cb:findIn K (.ref q) "ware" =some none)
  (aQ:findIn K (.ref q) "pieces" =some none)
  (bz:findIn K (.ref q) "price" =some none)
  (ci:findIn K (.ref q) "fee" =some none)
  (bD:findIn K (.ref q) "named" =some none)
  (ar:findIn K (.ref q) "proceeds" =some none)
  (dS:plainGet K c5 Str.empty=true)
  (dP:hasDictIn K c5=true)
  (d6:plainOver K c5=true)
  (ee:findIn K (.ref c5) "__setattr__" =some (some (.builtin "object.__setattr__")))
  (cx:findIn K (.ref c5) "day" =some none)
  (aR:findIn K (.ref c5) "number" =some none)
  (b7:findIn K (.ref c5) "ware" =some none)
  (aU:findIn K (.ref c5) "pieces" =some none)
  (b8:findIn K (.ref c5) "cost" =some none)
  (aY:findIn K (.ref c5) "since" =some none)
  (d9:plainGet K c6 Str.empty=true)
  (dR:hasDictIn K c6=true)
  (dW:plainOver K c6=true)
  (d4:findIn K (.ref c6) "__setattr__" =some (some (.builtin "object.__setattr__")))
  (cw:findIn K (.ref c6) "day" =some none)
  (aS:findIn K (.ref c6) "number" =some none)
  (bS:findIn K (.ref c6) "ware" =some none)
  (aK:findIn K (.ref c6) "pieces" =some none)
  (aZ:findIn K (.ref c6) "named" =some none)
  (di:plainGet K c7 Str.empty=true)
  (df:hasDictIn K c7=true)
  (dh:plainOver K c7=true)
  (dy:findIn K (.ref c7) "__setattr__" =some (some (.builtin "object.__setattr__")))
  (bV:findIn K (.ref c7) "day" =some none)
  (aE:findIn K (.ref c7) "number" =some none)
  (bj:findIn K (.ref c7) "ware" =some none)
  (bt:findIn K (.ref c7) "many" =some none)
  (cy:findIn K (.ref c7) "of" =some none)
  (bR:makesIn K c2=true)
  (bW:isFn K (.ref f6)=true)
  (b6:keepIn K (.ref c2)=true)
  (dX:makesIn K z=true)
  (dL:isFn K (.ref f8)=true)
  (dN:keepIn K (.ref z)=true)
  (du:makesIn K q=true)
  (dw:isFn K (.ref an)=true)
  (dq:keepIn K (.ref q)=true)
  (dz:makesIn K c5=true)
  (db:isFn K (.ref d0)=true)
  (dj:keepIn K (.ref c5)=true)
  (de:makesIn K c6=true)
  (dm:isFn K (.ref al)=true)
  (dg:keepIn K (.ref c6)=true)
  (cU:makesIn K c7=true)
  (cH:isFn K (.ref dp)=true)
  (cJ:keepIn K (.ref c7)=true)
  (bi:isFn K (.ref dd)=true)
  (aP:isFn K (.ref ck)=true)
  (aV:isFn K (.ref bl)=true)
  (aT:isFn K (.ref b0)=true)
  (aI:isFn K (.ref bd)=true)
  (am:isFn K (.ref b1)=true)
  (bA:isFn K (.ref bn)=true)
  (aL:isFn K (.ref b5)=true)
  (aO:isFn K (.ref br)=true)
  (aX:isFn K (.ref bp)=true)
  (aB:isFn K (.ref ct)=true)
  (ak:isFn K (.ref b4)=true)
  (ae:specialIn K (.ref c1) "__getattribute__" =some (some (.builtin "type.__getattribute__")))
  (ag:readsIn K c1 (.type "type")=true)
  (af:findCls K (.ref c1) (.type "type") "__init__" =some (.val (.ref f5)))
  (eQ:kitOne K (.ref c9) (.ref c8)=some true)
  (eP:kitOne K (.ref c9) (.type "ValueError")=some true)
  (eT:PySem.W.kitAny K (.ref c9) [.ref da,.ref c0,.ref dn,.ref bs,.ref as,.ref dl,.ref b2,.ref b3,.ref dk]=some false)
  :∃fd:FuncData,(∀(s:Shared)(v:Value),BindsTo s fd ⟨[v],[]⟩ [("_law_script",v)])/\∀base:Heap,K.In base->base.Ns mainGlobals mg->jn l.prog w K mg base CX0 11 fa fd ["_law_script"] (Ni K):=by
 have e:=hy.symm.trans (mg_of X G ab.1);cases e;have T:Txt w K mg ⟨f0,f1,f2,f3,f4,f5,f6,f7,f8,f9,gg,an,d0,al,dp,gh,gv,ff,gl,gc,eu,cl,gr,ha,fo,ey,gd,fy,gu,g7,ei,ew,g3,dd,bn,e5,ck,b5,bl,br,b0,bp,bd,ct,b1,b4,gi,g2,fa,c0,c1,c2,z,q,c5,c6,c7,c8,c9,da,dn,bs,as,dl,b2,b3,dk,cf,dG,cE,cW,cD,cL,dH,bh,cQ,ce,ad,ah⟩ ⟨_,_,_,_,_,_,_,_,_,_,_,_,_,_,_,_,_,_,_,_,_,_,_,_,_,_,_,_,_,_,_,_,_,_,_,_,_,_,_,_,_,_,_,_,_,_,_,_,_⟩:=⟨a0.g X G,a1.g X G,a2.g X G,a3.g X G,a4.g X G,a5.F,a6.F,a7.g X G,Lj (st:=jk) (its:=[.int 0 fq]) l8 d8 k8 h0 rfl (.cons ⟨_,rfl⟩ .nil),a9.g X G,a10.g X G,Lj (st:=je) (its:=[.int 0 e7,.none]) ic ho h7 fj rfl (.cons ⟨_,rfl⟩ (.cons rfl .nil)),a12.F,Lj (st:=jh) (its:=[.none]) ie hv hu fm rfl (.cons rfl .nil),a14.F,ix.g X G,hw.g X G,h6.g X G,ij.g X G,he.g X G,ih.g X G,g1.F,hl.g X G,hq.g X G,iq.g X G,hf.g X G,h4.g X G,hh.g X G,hs.g X G,hm.g X G,ht.g X G,hp.g X G,hk.g X G,bk.F,dr.F,ib.g X G,dt.F,cc.F,bm.F,cs.F,cp.F,bf.F,ch.F,co.F,dc.F,ca.F,is.g X G,hx.g X G,⟨mg_of X G ab.1,ab.2.2.2,Rq (st:=Kp) ab.2.1 ab.2.2.1 ab.2.2.2⟩,mg_none_of X G eM,mg_none_of X G bq,mg_none_of X G eL,mg_none_of X G eo,mg_none_of X G eS,mg_none_of X G eJ,mg_none_of X G eD,mg_none_of X G eK,mg_none_of X G bT,mg_none_of X G eO,mg_none_of X G eR,mg_none_of X G d7,mg_none_of X G dO,mg_none_of X G bu,mg_of X G cG,mg_of X G ed,mg_of X G cV,mg_of X G eU,mg_of X G eC,mg_of X G el,mg_of X G en,mg_of X G d3,mg_of X G cB,mg_of X G cZ,mg_of X G et,mg_of X G dI,mg_of X G cu,mg_of X G cq,mg_of X G cP,mg_of X G dZ,mg_of X G bU,mg_of X G dM,mg_of X G aF,mg_of X G cv,mg_of X G aW,mg_of X G bC,mg_of X G aM,mg_of X G be,mg_of X G cj,mg_of X G aj,mg_of X G bb,mg_of X G aG,mg_of X G aa,λ_=> .inr ⟨_,_,_,ac,rfl,rfl,(by rw[zc];show 2<=16777216;decide),(.cons ⟨_,rfl⟩ (.cons ⟨_,rfl⟩ .nil))⟩,mg_of X G aA,⟨aC,_,_,[(Sum.inr "buy",.int 7 bJ),(Sum.inr "sell",.int 7 bM),(Sum.inr "gift",.int 7 bN),(Sum.inr "give",.int 5 bK),(Sum.inr "split",.int 6 bO),(Sum.inr "part",.int 7 bP)],aH,(.cons ⟨rfl,_,rfl⟩ (.cons ⟨rfl,_,rfl⟩ (.cons ⟨rfl,_,rfl⟩ (.cons ⟨rfl,_,rfl⟩ (.cons ⟨rfl,_,rfl⟩ (.cons ⟨rfl,_,rfl⟩ .nil)))))),λ_=>(.cons (jA _ _ _ _) rfl (.cons (jA _ _ _ _) rfl (.cons (jA _ _ _ _) rfl (.cons (jA _ _ _ _) rfl (.cons (jA _ _ _ _) rfl (.cons (jA _ _ _ _) rfl .nil)))))),yA.mpr ⟨⟨Sum.inr "buy",mq _ _,az⟩,yA.mpr ⟨⟨Sum.inr "sell",mq _ _,ap⟩,yA.mpr ⟨⟨Sum.inr "gift",mq _ _,ay⟩,yA.mpr ⟨⟨Sum.inr "give",mq _ _,au⟩,yA.mpr ⟨⟨Sum.inr "split",mq _ _,aq⟩,yA.mpr ⟨⟨Sum.inr "part",mq _ _,av⟩,λ_ h=>nomatch h⟩⟩⟩⟩⟩⟩,show([Sum.inr "buy",Sum.inr "sell",Sum.inr "gift",Sum.inr "give",Sum.inr "split",Sum.inr "part"]:List Key).Nodup from by decide+kernel⟩,⟨cM⟩,⟨⟨_,_,_,_,_,_,_,_,_,_,_,_,_,_,_,cI,cT⟩,g1.n,cO,cS,cX⟩,⟨cF,cR,cY⟩,ba,⟨bZ,bX,b9⟩,⟨cC,cr,cA,cn⟩,aN,ai,aD,aw,ao,ax,⟨eE,eg,eA,eB⟩,cN,bx,cg,bv,bY,cK,cz,⟨d5,dQ,dJ,dU⟩,cm,aJ,cb,aQ,bz,ci,bD,ar,⟨dS,dP,d6,ee⟩,cx,aR,b7,aU,b8,aY,⟨d9,dR,dW,d4⟩,cw,aS,bS,aK,aZ,⟨di,df,dh,dy⟩,bV,aE,bj,bt,cy,⟨bR,a6.n,bW,b6⟩,⟨dX,a8,dL,dN⟩,⟨du,a11,dw,dq⟩,⟨dz,a12.n,db,dj⟩,⟨de,a13,dm,dg⟩,⟨cU,a14.n,cH,cJ⟩,⟨bk.n,bi,bk.k⟩,⟨dt.n,aP,dt.k⟩,⟨bm.n,aV,bm.k⟩,⟨cp.n,aT,cp.k⟩,⟨ch.n,aI,ch.k⟩,⟨dc.n,am,dc.k⟩,⟨dr.n,bA,dr.k⟩,⟨cc.n,aL,cc.k⟩,⟨cs.n,aO,cs.k⟩,⟨bf.n,aX,bf.k⟩,⟨co.n,aB,co.k⟩,⟨ca.n,ak,ca.k⟩,⟨ae,ag,af⟩,eQ,eP,eT⟩
 exact⟨_,λs v=> .of_eq rfl,λbase _ _=>ZD T⟩
def walk{l:PySem.W.OpenLaw}{q:Program}{aa:List Str}{XP:(Str->Option Value)->Heap->Prop}{YP:World->Heap->Prop}{d:DefRec}{K:Params->Fg_}(hn:l.most=some 63)(ab:d.params.defaults=[])
  (hY:∀(w:World)(h:Heap),YP w h->(K w.params).In h)
  (F:∀(w:World)(mg:Str->Option Value)(fa:Addr)(h:Heap),(K w.params).In h->h.Ns mainGlobals mg->mg d.name=some (.ref fa)->
   ∃fd:FuncData,(∀(s:Shared)(u:Value),BindsTo s fd ⟨[u],[]⟩ [("_law_script",u)])/\∀base:Heap,(K w.params).In base->base.Ns mainGlobals mg->jn l.prog w (K w.params) mg base CX0 11 fa fd ["_law_script"] (Ni (K w.params))):
  PySem.W.WalkO q aa XP YP l.row.toRowW d [] (λf vs=>PySem.call f vs):=
 L2.walk_of (n:=63) (k:=11) (x:= "_law_script") (CX:=λ_=>CX0) (sp:=λw=>Ni (K w.params)) hn (by decide) ab ⟨rfl,by decide,by decide⟩ hY F (λ_ _ a ns hl _ hS=>⟨a,ns,rfl,hS,hl,λ_=>rfl⟩) λ_ _ _ _ _ z=>z
end My
structure PySem.W.Fast:Prop where(tw14021434580869729181 tw12527969809589149253 tw13034899973374952288 tw8411781993452604881 tw17258648278006499966 tw12999090037905714224 tw15843275543143756835 tw16163945020710617601 tw11654382124646427207 tw1679193335415836661 tw2659007220349633366 tw11686867554779843460 tw7529176454212989915 tw15413071439624911094 tw1284584350837649428 tw12810630127935402768 tw18345788870415243100 tw7454322162699946157 tw15699239303122411918 tw8307890287230994836 tw249153345176230047 tw8635787620951766709 tw5553115454883274231 tw1997238365695905773 tw15648435094482575200 tw11493086062409917956 tw1966218896919131480 tw2094581336228296072 tw16259046455424033012 tw17589924740963055760 tw8270450534761038935 tw3248438118583239563 tw7397275301193233412 tw17810421328538672112 tw17215676149223966793 tw7062838335418499453 tw11215681708008305135 tw7695151650948959985 tw265751290108448880 tw18210484302260544829 tw7583677782726265134 tw3994400597488489991 tw2450341076074267860 tw11969197936989712196 tw7518370503165031855 tw675184035705199286 tw13543917211013814539 tw7230544013985964528 tw12936583215580735067 tw13090341040277639922 tw9758695263989637360 tw5898227182475805418 tw4357483234752071171 tw3717182751215326555 tw7692376510056256401 tw8233175588766269871 tw14511286374714925094 tw3181167933647536762 tw13265893039471523032 tw14316771384981964729 tw15683386698615448485 tw16727041359096606914 tw15198822926117295 tw7741155646842438543 tw14817584519427714574 tw7717188253110308775 tw4819013653132975858 tw1066168479169665797 tw14317463977724574379 tw8393450548462433730 tw7776798387931341565 tw6465040335887358757 tw10824326605412382233 tw8857642582465471176 tw20341729872730448 tw17334131796588363005 tw5034982107991713971 tw766195698375913159 tw6399735313905994312 tw2742160953557084725 tw14200017331955649431 tw2890364306094276107 tw6423597918957601779 tw18333029630890239865 tw969019454567584014 tw4344018526946579516 tw9860671559335583030 tw10110989555325867545 tw15771152146228432621 tw7592746206998019991 tw16044718085332215977 tw16960080450344221612 tw2791655754382109626 tw10225980926769019271 tw11095695994241904493 tw9205590410511851932 tw10985951421022591905 tw7430881125437794355 tw12185869192252664286 tw9323232545699233140 tw7649664661187312833 tw14979313421869165739 tw6129439634535847370 tw5617942867930547998 tw7316855168403968395 tw7562997830711328231 tw18157259587590188542 tw4910841460583108973 tw15211162621653202231 tw1292442433302850618 tw930719100262632715 tw13287224805389804133 tw695986243491701510 tw10400963687148856292 tw14504872144413621307 tw11195976962781957842 tw17906760397554307770 tw11864402575097659263 tw9267156766014772588 tw16190118013400159269 tw17596551323674112476 tw8036156502394314970 tw7458741797475449510 tw61110885111041515 tw8480083542950595401 tw11289025763206478501 tw2402241711967926441 tw13816732203192359769 tw17968207676008862934 tw12384286931662427558 tw7437198866008974120 tw12691697747746839642 tw15663749459175314934 tw16397553932748975174 tw6069087139143434889 tw15935767143645657418 tw4495213921988692172 tw7766386463341535902 tw2271789604826483068 tw12776157897672881657 tw3048433461930578806 tw18273965487390887373 tw9079427626713709148 tw4642012918108624602 tw18027550314897699368 tw1371918029232864426 tw11411715197488511494 tw12340896203587826377 tw16120061600234334359 tw12389084983248254203 tw9665479532057567582 tw5943120786516386632 tw11785033770536448017 tw7134653585004841848 tw12476332578312000688 tw323302202050788649 tw3888442328839636684 tw6893566112194147931 tw8572516437651576115 tw10700130106542543566 tw10652306453306774143 tw17404053814190224149 tw17311731107627015115 tw14994734105818121721 tw8801994364886446197 tw17644495619272083823 tw18049164936355157498 tw17236868441026309131 tw16276367628652943506 tw6974122312901050316 tw15018700921596592123 tw2346879896746335499 tw6507800977305408894 tw17394146412209768591 tw6152040283971878805 tw2980387647594362251 tw2903247658305855839 tw14001310124926620292 tw1939065068573648133 tw11306894196148347199 tw16830417978720272083 tw204180753818076685 tw11458062733423037763 tw3962616602709295066 tw3673510373205892116 tw7080372384801060009 tw7736364993975153802 tw16827060927605718000 tw12597735690481195093 tw8363895125481899226 tw9129046158187107196 tw7955039565193507670 tw12807064578173699792 tw7665952683622925339 tw16814669816009507588 tw13978691769347482496 tw567731908969268020 tw6668037740094734457 tw5047683578781640458 tw17091233674090844484 tw4307106005487744088 tw15396404034066406182 tw7138558445624933254 tw133913798162630041 tw11954104650749502116 tw10126758129661420645 tw16656019352391124553 tw13876096103550344728 tw5190219911342451155 tw14590396540509647077 tw10806235387829792516 tw12735297084365936577 tw9321344301323998339 tw13342889108974946960 tw862854906316420525 tw4403108919500756911 tw9149845908931378253 tw9382353990696947111 tw4055817444331429210 tw13034520921998024900 tw18380308299360599242 tw5955995058470137228 tw11578995805956624808 tw7551355922469464422 tw2583294899445097747 tw2978899116860979101 tw7017041793756559243 tw12579938974784207642 tw5389175334741396784 tw12054516306111365704 tw5078120744619960394 tw6785952523205917408 tw11731735487512177631 tw15983542936011341662 tw637713275702293678 tw10177224015377382896 tw17282032743932242065 tw16672006522700141485 tw9263169433141913056 tw5738217075786888855 tw17997845549523367300 tw14617233052195061018 tw6898945959376839455 tw17542598753330170514 tw3849154548594049494 tw15331399992432146758 tw4431999844147534673 tw642595417424357042 tw10278462714882452561 tw9344477167668634539 tw16369362604451540277 tw14407457841478069305 tw3641405486927641525 tw5346557177049418793 tw5402605226174437092 tw6725042330959219508 tw8311146643938188645 tw18165828054903091411 tw16403126925684752299 tw13554057493867827207 tw1619998152447794252 tw11857896897601674209 tw4646672826736872516 tw9593404842183387635 tw10496499415225046903 tw12913066489753227952 tw5931605284823326832 tw15886084441931833580 tw16965327204878136476 tw17214032104505589442 tw11014885911587615674 tw10978165491755147356 tw1071927687212514483 tw17293217418617308483 tw2536107178257892779 tw1629494537834883633 tw14017287952864393370 tw18307892623007281013 tw13628925260371309679 tw15828065203085252484 tw2098954013669935886 tw3185722901921417291 tw376856958140784779 tw5001221844396299632 tw6700171679497134871 tw7647971378085634749 tw7834507078299093080 tw10572228867433201997 tw2987594975518351543 tw8991489232349735677 tw14340761318641393686 tw13870708973348700539 tw12191494038728213681 tw12908837123040743732 tw15369435533644979312 tw3156057356020885646 tw16527943161676995868 tw6596111418644835188 tw8480730616681791496 tw10905264204424839781 tw6738574192629224052 tw3814054145401134806 tw17759789068090942178 tw8851494434933164149 tw6145283113045203102 tw4999059200606647329 tw14916418884672028245 tw14014252981208129544 tw1455406155502352038 tw524294158129439305 tw8379528046154299562 tw11673741879348405990 tw10801831725186352814 tw2398113901043656865 tw17519329649717398630 tw8483757119376717090 tw15742163810718652636 tw2167289121306680937 tw11581669640047679227 tw12074467472899466814 tw11594707694238464891 tw5070043810060502055 tw11664010343235778478 tw4116388055429048801 tw3556571852260897784 tw8405993247604805421 tw3625147985804732815 tw6080361851120914803 tw11319352033772310690 tw17236772996133384106 tw11244365729062845136 tw7380383560952242995 tw5232783908789995809 tw4375049013751872457 tw11845404746651897985 tw18104429708243697526 tw11880912455927679875 tw8586079016662079684 tw12342172971344665256 tw1089433238838499948 tw9424709190878322035 tw4066641072686517537 tw13334449099618292110 tw9713372434503904372 tw10718594869780993470 tw5568660142533302570 tw6977406107759447941 tw5481387767780301830 tw16919314034911119946 tw11068790444504390514 tw13832761041566153289 tw11812317404835767810 tw3547489097983639904 tw3921929533151433998 tw18341988355529717107 tw15313149016350010086 tw11629087176494474255 tw2752282465540200869 tw17159363882936933193 tw7771158102592975813 tw4029342842643488978 tw15836992840495909548 tw13263087749177236735 tw5967870612421184714 tw12830849857095844214 tw8911382246206190021 tw4241569979254623705 tw3711027211538313875 tw8839023163213717356 tw15631807638844775076 tw15989840376600080887 tw14400341605952657060 tw3060775940465317008 tw10383173899152435225 tw18221570108895167702 tw5590029571659448150 tw14214423718732270091 tw10625637891292699017 tw1370211899561843080 tw6036377671622270668 tw12152937237373583331 tw6331217206083958213 tw12963531795206823411 tw16473805600816850186 tw11830348252180551183 tw14662936564373327405 tw11549911863557489209 tw16612722153756677705 tw9246345299925874041 tw2535796049915199964 tw14850152600986388577 tw12306248676642602009 tw12320352042480388108 tw14211962953691477551 tw12506744721366596341 tw6424397682223513158 tw16402850947881365669 tw11319827891843667416 tw4624869623074293033 tw18272431831230422037:True)
open PySem PySem.W PyProof.Rows
set_option maxRecDepth 100000 in
set_option maxHeartbeats 0 in
theorem PySem.Challenge.cw_lotledger_k82_no_text_holds : PySem.Challenge.rw_lotledger_k82_no_text.Holds := by
 w_on;o_law;k_head;(case hw=>w_witness2)
 k_fill
 refine My.walk (l:=PySem.Challenge.rw_lotledger_k82_no_text) rfl rfl (λw h Y=>PySem.W.kIn_of Y) ?F
 case F=>
  intro w mg fa h KX G hmg;refine' My.all_mk KX G hmg ?cG ?ed ?cV ?eU ?eC ?el ?en ?d3 ?cB ?cZ ?et ?dI ?cu ?cq ?cP ?dZ ?bU ?dM ?a0 ?a1 ?a2 ?a3 ?a4 ?a5 ?a6 ?a7 ?a8 ?l8 ?d8 ?k8 ?lt8 ?a9 ?a10 ?a11 ?l11 ?d11 ?k11 ?fj ?a12 ?a13 ?l13 ?d13 ?k13 ?fm ?a14 ?a15 ?a16 ?a17 ?a18 ?a19 ?a20 ?a21 ?a22 ?a23 ?a24 ?a25 ?a26 ?a27 ?a28 ?a29 ?a30 ?a31 ?a32 ?a33 ?a34 ?a35 ?a36 ?a37 ?a38 ?a39 ?a40 ?a41 ?a42 ?a43 ?a44 ?a45 ?a46 ?a47 ?a48 ?eM ?bq ?eL ?eo ?eS ?eJ ?eD ?eK ?bT ?eO ?eR ?d7 ?dO ?bu ?aF ?cv ?aW ?bC ?aM ?be ?cj ?aj ?bb ?aG ?aa ?ac ?aA ?aH ?aC ?az ?ap ?ay ?au ?aq ?av ?cM ?cI ?cT ?cO ?cS ?cX ?cF ?cR ?cY ?ba ?bZ ?bX ?b9 ?cC ?cr ?cA ?cn ?aN ?ai ?aD ?aw ?ao ?ax ?eE ?eg ?eA ?eB ?cN ?bx ?cg ?bv ?bY ?cK ?cz ?d5 ?dQ ?dJ ?dU ?cm ?aJ ?cb ?aQ ?bz ?ci ?bD ?ar ?dS ?dP ?d6 ?ee ?cx ?aR ?b7 ?aU ?b8 ?aY ?d9 ?dR ?dW ?d4 ?cw ?aS ?bS ?aK ?aZ ?di ?df ?dh ?dy ?bV ?aE ?bj ?bt ?cy ?bR ?bW ?b6 ?dX ?dL ?dN ?du ?dw ?dq ?dz ?db ?dj ?de ?dm ?dg ?cU ?cH ?cJ ?bi ?aP ?aV ?aT ?aI ?am ?bA ?aL ?aO ?aX ?aB ?ak ?ae ?ag ?af ?eQ ?eP ?eT
  (case cG|ed|cV|eU|eC|el|en|d3|cB|cZ|et|dI|cu|cq|cP|dZ|bU|dM=>k_is)
  (case a0|a1|a2|a3|a4|a5|a6|a7=>constructor;rfl;refine⟨?_,?_,?_,?_⟩<;>k_is)
  (case a8|l8|d8|k8|lt8=>k_is)
  (case a9|a10=>constructor;rfl;refine⟨?_,?_,?_,?_⟩<;>k_is)
  (case a11|l11|d11|k11|fj=>k_is)
  (case a12=>constructor;rfl;refine⟨?_,?_,?_,?_⟩<;>k_is)
  (case a13|l13|d13|k13|fm=>k_is)
  (case a14|a15|a16|a17|a18|a19|a20|a21|a22|a23|a24|a25|a26|a27|a28|a29|a30|a31|a32|a33|a34|a35|a36|a37|a38|a39|a40|a41|a42|a43|a44|a45|a46|a47=>constructor;rfl;refine⟨?_,?_,?_,?_⟩<;>k_is)
  (case a48=>refine⟨?_,?_,?_,?_⟩<;>k_is)
  (case eM|bq|eL|eo|eS|eJ|eD|eK|bT|eO|eR|d7|dO|bu|aF|cv|aW|bC|aM|be|cj|aj|bb|aG|aa|ac|aA|aH=>k_is)
  (case aC=>kernel_rfl)
  (case az|ap|ay|au|aq|av=>rfl)
  (case cM=>k_exc)
  (case cI=>k_is)
  (case cT=>kernel_rfl)
  (case cO|cS|cX|cF|cR|cY|ba|bZ|bX|b9|cC|cr|cA|cn|aN|ai|aD|aw|ao|ax|eE|eg|eA|eB|cN|bx|cg|bv|bY|cK|cz|d5|dQ|dJ|dU|cm|aJ|cb|aQ|bz|ci|bD|ar|dS|dP|d6|ee|cx|aR|b7|aU|b8|aY|d9|dR|dW|d4|cw|aS|bS|aK|aZ|di|df|dh|dy|bV|aE|bj|bt|cy|bR|bW|b6|dX|dL|dN|du|dw|dq|dz|db|dj|de|dm|dg|cU|cH|cJ|bi|aP|aV|aT|aI|am|bA|aL|aO|aX|aB|ak|ae|ag|af=>k_is)
  (case eQ|eP|eT=>kit_is)
