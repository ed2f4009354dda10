import PyProof.Rows.All
import Wide.FinOn
import OpenK.KSplit
import KE.KSortTup
import KE.KDictOf
import KE.RegKIsAll
import KE.KEqDict
import KE.KRevIter
import KE.KIntText
import PySem.Challenge.RW_lotledger_k83_texts_read_or_refused
set_option Elab.async false
set_option linter.all false
set_option compiler.extract_closed false
set_option maxRecDepth 100000
set_option maxHeartbeats 4000000
local macro_rules | `(tactic| walk_at "o") => `(tactic| first | exact Or.inl rfl | exact Or.inr (Or.inl rfl) | exact Or.inr (Or.inr rfl))
local macro_rules | `(tactic| walk_at "p") => `(tactic| first | exact .inl rfl | exact .inr rfl | assumption)
noncomputable section
abbrev Fg_:=PySem.W.Frag
def za:= @List.length_map
def zb:= @List.mem_of_getElem?
def zc:= @PySem.sizeLine_eq
def zd:= @PySem.Heap.get?_push_of_some
def ze:= @Nat.le_refl
def zf:= @PySem.wpAny_bind
def zg:= @List.not_mem_nil
def zh:= @List.mem_cons
def zi:= @List.mem_cons_self
def zj:= @List.map_cons
def zk:= @if_neg
def zm:= @List.length_append
def zn:= @List.size_toArray
def zo:= @List.map_append
def zp:= @if_pos
def zq:= @PySem.wpAny_pure
def zr:= @List.mem_cons_of_mem
def zt:= @Option.some.inj
def zu:= @PySem.Heap.lt_size
def zv:= @List.getElem?_eq_some_iff
def zw:= @Bool.false_ne_true
def zx:= @List.length_take
def zy:= @List.length_cons
def zA:= @Int.emod_lt_of_pos
def zB:= @decide_eq_false
def zC:= @List.mem_map
def zD:= @List.getElem?_eq_getElem
def zE:= @List.getElem?_map
def zF:= @Nat.le_trans
def zG:= @List.mem_append
def zH:= @Array.length_toList
def zI:= @Int.emod_nonneg
def zJ:= @List.mem_singleton
def zK:= @Nat.ne_of_lt
def zL:= @Nat.lt_of_lt_of_le
def zM:= @List.mem_append_right
def zN:= @PySem.Heap.get?_push_size
def zO:= @PySem.wpAny_loadPart_at
def zP:= @List.map_map
def zQ:= @Nat.zero_le
def zR:= @PySem.wpAny_mono
def zS:= @decide_eq_true
def zT:= @PySem.F.plainAttrs_str
def zU:= @Bool.and_eq_true
def zV:= @Nat.le_of_ble_eq_true
def zW:= @Nat.lt_of_le_of_lt
def zX:= @List.take_of_length_le
def zY:= @PySem.F.plainAttrs_list
def zZ:= @List.getElem?_append_left
def z0:= @List.append_nil
def z5:= @List.mem_of_mem_take
def z6:= @List.length_drop
def z7:= @List.eq_nil_of_length_eq_zero
def z8:= @List.map_take
def z9:= @PySem.F.slot_list_append
def ya:= @PySem.F.type_list_append
def yb:= @List.length_singleton
def yc:= @List.mem_filterMap
def yd:= @PySem.wpAny_FormattedValue_plain
def ye:= @PySem.W.kia_one
def yf:= @List.length_nil
def yg:= @PySem.Heap.get?_update_self
def yh:= @Nat.lt_irrefl
def yi:= @PySem.wpAny_Call_Name_kw
def yj:= @PySem.W.looks_findIn
def yk:= @Int.eq_ofNat_of_zero_le
def ym:= @PySem.wpAny_holding
def yn:= @List.getElem?_append_right
def yo:= @List.map_nil
def yq:= @List.take_add_one
def yr:= @PySem.F.excBase_ValueError
def yt:= @PySem.wpAny_truthy_bool
def yu:= @List.replicate_succ
def yv:= @Array.toList_append
def yw:= @PySem.PassesOwn.never
def yx:= @Bool.false_eq_true
def yy:= @List.cons_append
def yz:= @List.all_cons
def yA:= @PySem.wpAny_standAt
def yB:= @List.mem_append_left
def yC:= @List.forall_mem_cons
def yD:= @List.getElem_of_mem
def yE:= @PySem.Heap.get?_update_other
def yF:= @PySem.F.slot_str_split
def yG:= @PySem.F.type_str_split
def yH:= @Bool.and_true
def yI:= @PySem.W.callWith_K
def yJ:= @Bool.and_false
def yK:= @Nat.pos_of_ne_zero
def yL:= @List.getElem?_eq_none
def yM:= @PySem.F.slot_str_join
def yN:= @PySem.F.type_str_join
def yO:= @List.append_eq_append_iff
def yP:= @Bool.eq_iff_iff
def yQ:= @List.nodup_cons
def yR:= @List.nil_append
def yS:= @List.cons.injEq
def yT:= @PySem.Heap.get?_none_of_le
def yU:= @Int.toNat_natCast
def yV:= @List.mem_of_mem_drop
def yW:= @PySem.wpAny_pyIter_list
def yX:= @Option.isSome_iff_exists
def yY:= @List.sum_cons
def yZ:= @List.map_drop
def y0:= @PySem.mem_of_lookup
def y3:= @List.mem_map_of_mem
def y4:= @PySem.wpAny_isSubtype_exc
def y6:= @List.all_eq_true
def y8:= @PySem.Heap.get?_update_of_ne
def y9:= @List.contains_cons
def zza:= @Int.le_trans
def zzb:= @List.mem_filter
def zzc:= @List.foldl_cons
def zzd:= @List.find?_cons
def zze:= @List.length_replicate
def zzf:= @PySem.W.KIN.signs_num
def zzg:= @PySem.wpAny_formatField_int
def zzh:= @List.nodup_append
def zzi:= @PySem.wpAny_newObj_type
def zzj:= @PySem.W.hideAll_none
def zzk:= @PySem.Str.cps_append
def zzl:= @Nat.length_toDigits_le_iff
def zzm:= @PySem.wpAny_field
def zzn:= @List.take_length
def zzo:= @List.filterMap_cons
def zzp:= @List.length_reverse
def zzq:= @List.map_congr_left
def zzr:= @PySem.Paired.length
def zzs:= @List.getElem?_take_of_lt
def zzt:= @PySem.wpAny_passesOwn
def zzu:= @Array.append_assoc
def zzv:= @PySem.call_meets
def zzw:= @Nat.le_succ
def zzx:= @List.getElem?_set_self
def zzy:= @PySem.Heap.size_push
def zzz:= @PySem.W.cellsFrom_some
def zzA:= @List.flatten_cons
def zzB:= @List.mem_range
def zzC:= @PySem.W.funFrames_hide
def zzD:= @List.drop_of_length_le
def zzE:= @of_decide_eq_true
def zzF:= @PySem.wpAny_pyIter_enum
def zzG:= @PySem.F.slot_dict_get
def zzH:= @PySem.W.methodCall_KW
def zzI:= @List.take_append_drop
def zzJ:= @List.cons_ne_nil
def zzK:= @Bool.not_eq_true
def zzL:= @PySem.wpAny_execs_cons
def zzM:= @List.any_cons
def zzN:= @List.getElem?_set_ne
def zzO:= @List.map_id
def zzP:= @List.drop_eq_nil_iff
def zzQ:= @List.of_mem_zip
def zzR:= @Option.map_some
def zzS:= @List.dropLast_concat_getLast
def zzT:= @PySem.wpAny_execs_nil
def zzU:= @PySem.W.plainGet_of
def zzV:= @List.take_succ_cons
def zzW:= @List.getElem?_range
def zzX:= @Nat.le_of_lt
def zzY:= @Nat.ne_of_gt
def zzZ:= @Nat.isDigit_of_mem_toDigits
def zz0:= @PySem.StrLaws.partition_sum
def zz1:= @PySem.W.of_hideAll
def zz2:= @Array.empty_append
def zz3:= @Array.getElem?_eq_some_iff
def zz4:= @List.getD_eq_getElem?_getD
def zz5:= @PySem.F.slot_str_partition
def zz6:= @PySem.F.type_str_partition
def zz7:= @PySem.wpAny_call
def zz8:= @PySem.wpAny_newFunctionEnv_cells
def zz9:= @PySem.wpAny_letOwnedTupleGo_enum
def yya:= @PySem.wpAny_excMatches_sub_self
def yyb:= @Option.isSome_map
def yyc:= @PySem.Heap.get?_push_at
def yyd:= @Array.size_append
def yye:= @Int.le_refl
def yyf:= @List.cons.inj
def yyg:= @Nat.le_add_right
def yyh:= @Nat.le_of_eq
def yyi:= @Bool.or_true
def yyj:= @Nat.min_eq_left
def yyk:= @PySem.wpAny_JoinedStr
def yyl:= @Sum.inl.inj
def yym:= @PySem.Paired.snoc
namespace L2
open PySem PySem.Spec PyProof.Rows
abbrev Key:=Sum Int Str
noncomputable def Od:Key->Value->Bool
 |.inl k,v=>Value.isInt k v
 |.inr x,v=>Value.isStrOf x v
noncomputable def Yv(w:World):Key->Int
 |.inl k=>hashInt k
 |.inr x=>hashStr w x
def jo:∀{k:Key}{v:Value},Od k v=true->(∃i t,k=Sum.inl i/\v=Value.int i t)\/(∃x t,k=Sum.inr x/\v=Value.str x t)
 |.inl i,v,h=>by
  obtain⟨t,e⟩:=Value.isInt_shape (k:=i) (v:=v) h;exact .inl ⟨i,t,rfl,e⟩
 |.inr x,v,h=>by
  obtain⟨t,e⟩:=Value.isStrOf_shape (x:=x) (v:=v) h;exact .inr ⟨x,t,rfl,e⟩
def TY(i:Int)(t:Tok):Od (.inl i) (.int i t)=true:=by simp[Od,Value.isInt]
def nA(x:Str)(t:Tok):Od (.inr x) (.str x t)=true:=by simp[Od,Value.isStrOf]
def abV(a b:Int):decide ((Sum.inl a:Key)=Sum.inl b)=(a==b):=by
 by_cases e:a=b
 ·subst e;simp
 ·have h:¬(Sum.inl a:Key)=Sum.inl b:=λq=>e (yyl q)
  rw[zB h];exact(beq_eq_false_iff_ne.mpr e).symm
def acI(a b:Str):decide ((Sum.inr a:Key)=Sum.inr b)=decide (a=b):=by
 by_cases e:a=b
 ·subst e;simp
 ·have h:¬(Sum.inr a:Key)=Sum.inr b:=λq=>e (Sum.inr.inj q)
  rw[zB h,zB e]
def acB(a:Int)(b:Str):decide ((Sum.inl a:Key)=Sum.inr b)=false:=zB (λq=>nomatch q)
def acf(a:Str)(b:Int):decide ((Sum.inr a:Key)=Sum.inl b)=false:=zB (λq=>nomatch q)
noncomputable def jm(prog:Program)(w:World):PySem.KeyKind prog w Key where
 is:=Od
 hash:=Yv w
 inj:=λv a b ha hb=>by
  rcases jo ha with⟨i,t,rfl,rfl⟩|⟨x,t,rfl,rfl⟩
  ·rcases jo hb with⟨j,u,rfl,e⟩|⟨y,u,rfl,e⟩
   ·injection e with e1 _;rw[e1]
   ·exact nomatch e
  ·rcases jo hb with⟨j,u,rfl,e⟩|⟨y,u,rfl,e⟩
   ·exact nomatch e
   ·injection e with e1 _;rw[e1]
 byValue:=λk v h=>by
  rcases jo h with⟨i,t,rfl,rfl⟩|⟨x,t,rfl,rfl⟩<;>rfl
 pyHash:=λhv h=>by
  rcases jo hv with⟨i,t,rfl,rfl⟩|⟨x,t,rfl,rfl⟩
  ·exact wpAny_pyHash_int h
  ·exact wpAny_pyHash_str h
 eqBool:=λhu hv h=>by
  rcases jo hu with⟨i,t,rfl,rfl⟩|⟨x,t,rfl,rfl⟩
  ·rcases jo hv with⟨j,u,rfl,rfl⟩|⟨y,u,rfl,rfl⟩
   ·rw[abV]at h;exact wpAny_eqBool_int h
   ·rw[acB]at h;exact SeqAt.EqAt.int_str i t y u _ _ _ _ h
  ·rcases jo hv with⟨j,u,rfl,rfl⟩|⟨y,u,rfl,rfl⟩
   ·rw[acf]at h;exact SeqAt.EqAt.str_int x t j u _ _ _ _ h
   ·rw[acI]at h;exact wpAny_eqBool_str h
 «strs»:=λk x t v h=>by
  rcases jo h with⟨i,u,rfl,e⟩|⟨y,u,rfl,e⟩
  ·exact nomatch e
  ·injection e with e1 _
   subst e1;cases v<;>rfl
def NP(prog:Program)(w:World)(i:Int)(t:Tok):(jm prog w).is (.inl i) (.int i t)=true:=TY i t
def jQ(prog:Program)(w:World)(x:Str)(t:Tok):(jm prog w).is (.inr x) (.str x t)=true:=nA x t
end L2
namespace L2
open PySem PySem.Spec PyProof.Rows
inductive V where
 |non|bl (b:Bool)|int (i:Int)|str (x:Str)|byt (b:Array UInt8)|flt (b:UInt64)|ref (a:Addr)|ty (n:String)
 deriving DecidableEq
noncomputable def RelV:V->Value->Prop
 |.non,u=>u=Value.none
 |.bl b,u=>u=Value.bool b
 |.int i,u=>∃t,u=Value.int i t
 |.str x,u=>∃t,u=Value.str x t
 |.byt b,u=>∃t,u=Value.bytes b t
 |.flt b,u=>∃t,u=Value.float b t
 |.ref a,u=>u=Value.ref a
 |.ty n,u=>u=Value.type n
abbrev Vals:List V->List Value->Prop:=Paired RelV
theorem Vals.length{xs:List V}{us:List Value}(r:Vals xs us):xs.length=us.length:=zzr r
theorem Vals.get:∀{xs:List V}{us:List Value}{i:Nat}{x:V},Vals xs us->xs[i]? =some x->∃u,us[i]? =some u/\RelV x u
 |_,_,_,_,.nil,e=>by simp at e
 |_,_,0,_,.cons r _,e=>by simp at e;subst e;exact⟨_,rfl,r⟩
 |_,_,i+1,x,.cons _ t,e=>by
  obtain⟨u,h1,h2⟩:=Vals.get (i:=i) (x:=x) t (by simpa using e);exact⟨u,by simpa using h1,h2⟩
theorem Vals.set{x:V}{u:Value}(r:RelV x u):∀{xs:List V}{us:List Value}(i:Nat),Vals xs us->Vals (xs.set i x) (us.set i u)
 |_,_,_,.nil=> .nil
 |_,_,0,.cons _ t=> .cons r t
 |_,_,i+1,.cons q t=> .cons q (Vals.set r i t)
theorem Vals.append:∀{xs ys:List V}{us ws:List Value},Vals xs us->Vals ys ws->Vals (xs++ys) (us++ws)
 |_,_,_,_,.nil,s=>s
 |_,_,_,_,.cons r t,s=> .cons r (Vals.append t s)
theorem Vals.take:∀{xs:List V}{us:List Value}(n:Nat),Vals xs us->Vals (xs.take n) (us.take n)
 |_,_,0,_=> .nil
 |_,_,_+1,.nil=> .nil
 |_,_,n+1,.cons r t=> .cons r (Vals.take n t)
theorem Vals.drop:∀{xs:List V}{us:List Value}(n:Nat),Vals xs us->Vals (xs.drop n) (us.drop n)
 |_,_,0,r=>r
 |_,_,_+1,.nil=> .nil
 |_,_,n+1,.cons _ t=>Vals.drop n t
noncomputable def HY:Option V->Option Value->Prop
 |some v,some u=>RelV v u
 |none,none=>True
 |_,_=>False
noncomputable def KV{κ:Type}:List (κ×V)->List (κ×Value)->Prop:=Paired fun(p:κ×V)(q:κ×Value)=>p.1=q.1/\RelV p.2 q.2
noncomputable def kV:Key->V
 |.inl i=> .int i
 |.inr x=> .str x
inductive HO where
 |lst (xs:List V)
 |tup (xs:List V)
 |dK (kvs:List (Key×V))|dT (kvs:List (List Key×V))
 |set (S:Int->Bool) (n:Nat)
 |ins (C dx:Addr) (fs:List (Str×V))
 |own (x:Addr)
 |xd (fs:List (Str×V))
 |met (f x:Addr)
 |rng (lo hi:Int)
 |frz (o:Obj) (u:HO)
 |tbl (ps:Array Value)
 |ext (φ:Heap->Prop)
abbrev Hp:=Addr->Option HO
noncomputable def upd(H:Hp)(a:Addr)(o:HO):Hp:=λb=>if b=a then some o else H b
def fL{H:Hp}{a:Addr}{o:HO}:upd H a o a=some o:=by unfold upd;rw[zp rfl]
def fX{H:Hp}{a b:Addr}{o:HO}(h:b≠a):upd H a o b=H b:=by unfold upd;rw[zk h]
def aae{H:Hp}{a:Addr}{o u:HO}:upd (upd H a o) a u=upd H a u:=by
 funext b;unfold upd;split<;>rfl
def adC{H:Hp}{a b:Addr}{o u:HO}(h:H a=some o)(h':H b=some u)(d:o≠u):a≠b:=by
 intro e;subst e;rw[h]at h';exact d (zt h')
def gP{H:Hp}{a b:Addr}{o:HO}(h:H a=some o)(h':H b=none):a≠b:=by
 intro e;subst e;rw[h]at h';cases h'
section
variable(P:Program)(w:World)
noncomputable def iZ(H:Hp)(h:Heap)(a:Addr):HO->Prop
 |.lst xs=>xs.length<=sizeLine/\∃(its:List Value)(n:Nat),Vals xs its/\h.get? a=some {cls:=.type "list",data:=.seq its.toArray n}
 |.tup xs=>xs.length<=sizeLine/\∃its:List Value,Vals xs its/\IsTup h a its.toArray
 |.dK kvs=>kvs.length<=sizeLine/\(a==sysModules)=false/\∃vs,KV kvs vs/\h.DictOf (jm P w) a vs
 | .dT kvs=>kvs.length<=sizeLine/\(a==sysModules)=false/\∃xs:List (List Key×Addr×Value),
   Paired (fun(p:List Key×V)(q:List Key×Addr×Value)=>p.1=q.1/\H q.2.1=some (.tup (p.1.map kV))/\RelV p.2 q.2.2) kvs xs/\
   ∃o es ep,h.get? a=some o/\o.ExactDict/\o.data=.dict es ep/\es.toList=xs.map (entryOfKey (tupleKind (jm P w)))/\(xs.map (·.1)).Nodup
 |.set S n=>h.SetOf (intKind P w) a S n
 | .ins C dx fs=>H dx=some (.own a)/\fs.length<=1000/\dx≠a/\h.get? a=some (PySem.W.instObj C dx)/\
   ∃mA,h.Ns1 dx mA/\(∀f,HY (fs.lookup f) (mA f))/\PySem.Within mA (fs.map (·.1))
 |.own _=>∃o,h.get? a=some o
 |.xd fs=>∃mA,h.Ns1 a mA/\∀f,HY (fs.lookup f) (mA f)
 |.rng lo hi=>∃t u v,h.get? a=some {cls:=.type "range",data:=.fields #[.int lo t,.int hi u,.int 1 v]}
 |.frz o u=>h.get? a=some o/\iZ H h a u
 |.tbl ps=>h.get? a=some {cls:=.none,data:=.fields ps}
 |.met f x=>h.get? a=some (PySem.W.methodObj (.ref f) (.ref x))
 |.ext φ=>φ h/\(∃o,h.get? a=some o)/\∀h1 h2:Heap,φ h1->(∀o,h1.get? a=some o->h2.get? a=some o)->φ h2
noncomputable def HOk(H:Hp)(h:Heap):Prop:=∀a o,H a=some o->iZ P w H h a o
end
section
variable{P:Program}{w:World}{H H':Hp}{h h':Heap}{a:Addr}{o:HO}
theorem iZ.lt(x:iZ P w H h a o):a<h.objs.size:=by
 cases o with
 |lst xs=>obtain⟨_,_,_,_,e⟩:=x;exact zu e
 |tup xs=>obtain⟨_,_,_,p⟩:=x;exact p.lt
 |dK kvs=>obtain⟨_,_,_,_,o,_,_,e,_⟩:=x;exact zu e
 |dT kvs=>obtain⟨_,_,_,_,o,_,_,e,_⟩:=x;exact zu e
 |set S n=>obtain⟨o,_,_,_,e,_⟩:=x;exact zu e
 |ins C dx fs=>obtain⟨_,_,_,e,_⟩:=x;exact zu e
 |own y=>obtain⟨_,e⟩:=x;exact zu e
 |xd fs=>obtain⟨_,⟨_,_,_,e,_⟩,_⟩:=x;exact zu e
 |rng lo hi=>obtain⟨_,_,_,e⟩:=x;exact zu e
 |frz ob u=>obtain⟨e,_⟩:=x;exact zu e
 |tbl ps=>exact zu (show h.get? a=some _ from x)
 |met f y=>exact zu (show h.get? a=some _ from x)
 |ext φ=>obtain⟨_,⟨_,e⟩,_⟩:=x;exact zu e
theorem Paired.mapP{α β:Type}{F G:α->β->Prop}:∀{l₁:List α}{l₂:List β},Paired F l₁ l₂->(∀a b,F a b->G a b)->Paired G l₁ l₂
 |_,_,.nil,_=> .nil
 |_,_,.cons r t,f=> .cons (f _ _ r) (Paired.mapP t f)
def iZ.stay(x:iZ P w H h a o)(k:∀b u,(b=a\/H b=some (.own a))->h.get? b=some u->h'.get? b=some u)
  (ho:∀b,H b=some (.own a)->H' b=some (.own a)) (ht:∀b xs,H b=some (.tup xs)->H' b=some (.tup xs)):iZ P w H' h' a o:=by
 induction o with
 |lst xs=>obtain⟨z,its,n,r,e⟩:=x;exact⟨z,its,n,r,k _ _ (.inl rfl) e⟩
 |tup xs=>obtain⟨z,its,r,ob,e,c⟩:=x;exact⟨z,its,r,ob,k _ _ (.inl rfl) e,c⟩
 |dK kvs=>obtain⟨z,y,vs,r,ob,es,ep,e,c⟩:=x;exact⟨z,y,vs,r,ob,es,ep,k _ _ (.inl rfl) e,c⟩
 |dT kvs=>
  obtain⟨z,y,xs,r,ob,es,ep,e,c⟩:=x;exact⟨z,y,xs,Paired.mapP r λp q z=>⟨z.1,ht _ _ z.2.1,z.2.2⟩,ob,es,ep,k _ _ (.inl rfl) e,c⟩
 |set S n=>obtain⟨ob,es,ep,t,e,c⟩:=x;exact⟨ob,es,ep,t,k _ _ (.inl rfl) e,c⟩
 |ins C dx fs=>
  obtain⟨d,z,ne,e,mA,⟨od,es,ep,e2,c⟩,r⟩:=x;exact⟨ho _ d,z,ne,k _ _ (.inl rfl) e,mA,⟨od,es,ep,k _ _ (.inr d) e2,c⟩,r⟩
 |own y=>obtain⟨ob,e⟩:=x;exact⟨ob,k _ _ (.inl rfl) e⟩
 |xd fs=>obtain⟨mA,⟨od,es,ep,e,c⟩,r⟩:=x;exact⟨mA,⟨od,es,ep,k _ _ (.inl rfl) e,c⟩,r⟩
 |rng lo hi=>obtain⟨t,u,v,e⟩:=x;exact⟨t,u,v,k _ _ (.inl rfl) e⟩
 |frz ob u ih=>obtain⟨e,q⟩:=x;exact⟨k _ _ (.inl rfl) e,ih q⟩
 |tbl ps=>
  have e:h.get? a=some {cls:=.none,data:=.fields ps}:=x;show h'.get? a=some {cls:=.none,data:=.fields ps};exact k a _ (.inl rfl) e
 |met f y=>
  have e:h.get? a=some (PySem.W.methodObj (.ref f) (.ref y)):=x;show h'.get? a=some (PySem.W.methodObj (.ref f) (.ref y));exact k a _ (.inl rfl) e
 |ext φ=>obtain⟨p,⟨o,e⟩,st⟩:=x;exact⟨st _ _ p λo q=>k _ _ (.inl rfl) q,⟨o,k _ _ (.inl rfl) e⟩,st⟩
theorem HOk.lt(x:HOk P w H h)(e:H a=some o):a<h.objs.size:=(x a o e).lt
def HOk.fresh(x:HOk P w H h)(e:h.objs.size<=a):H a=none:=by
 cases q:H a with
 |none=>rfl
 |some u=>exact absurd (zL (x.lt q) e) (yh _)
def HOk.kept(x:HOk P w H h)(k:∀b u,h.get? b=some u->h'.get? b=some u):HOk P w H h':=λa o e=>
 (x a o e).stay (λb u _ q=>k b u q) (λ_ q=>q) λ_ _ q=>q
def HOk.laid(x:HOk P w H h)(k:∀b u,h.get? b=some u->h'.get? b=some u)(hp:h.objs.size<=a)(z:iZ P w (upd H a o) h' a o):HOk P w (upd H a o) h':=λb u e=>by
 have hn:=x.fresh hp;by_cases hb:b=a
 ·subst hb;rw[fL]at e;cases e;exact z
 ·rw[fX hb]at e
  exact(x b u e).stay (λc v _ q=>k c v q) (λc q=>by rw[fX (gP q hn)];exact q) λc xs q=>by rw[fX (gP q hn)];exact q
end
noncomputable def Rd(H:Hp)(a:Addr)(u:HO):Prop:=H a=some u\/∃o,H a=some (.frz o u)
def Rd.of{H:Hp}{a:Addr}{u:HO}(h:H a=some u):Rd H a u:=.inl h
def Rd.ok{P:Program}{w:World}{H:Hp}{h:Heap}{a:Addr}{u:HO}(r:Rd H a u)(x:HOk P w H h):iZ P w H h a u:=by
 rcases r with r|⟨o,r⟩
 ·exact x a u r
 ·obtain⟨_,q⟩:=x a _ r
  exact q
noncomputable def Mut:Option HO->Prop
 |some (.lst _)=>True
 |some (.dK _)=>True
 |some (.dT _)=>True
 |some (.set _ _)=>True
 |some (.ins _ _ _)=>True
 |some (.ext _)=>True
 |_=>False
section
variable{P:Program}{w:World}{H:Hp}{h h':Heap}{x e:Addr}{o':HO}
def HOk.write(ok:HOk P w H h)(mu:Mut (H x))(he:e=x\/H e=some (.own x))(k:∀b u,b≠e->h.get? b=some u->h'.get? b=some u)(ad:∃u,h'.get? e=some u)
  (ae:iZ P w (upd H x o') h' x o'):HOk P w (upd H x o') h':=λb u q=>by
 have ab:∀c y,H c=some (.own y)->c≠x:=λc y r z=>by subst z;rw[r]at mu;exact mu
 have ac:∀c xs,H c=some (.tup xs)->c≠x:=λc xs r z=>by subst z;rw[r]at mu;exact mu
 by_cases hb:b=x
 ·subst hb;rw[fL]at q;cases q;exact ae
 ·rw[fX hb]at q
  by_cases aa:b=e
  ·have q':H b=some (.own x):=by
    rcases he with z|z
    ·exact absurd (aa.trans z) hb
    ·rw[aa];exact z
   rw[q]at q';cases q';obtain⟨v,hv⟩:=ad;exact⟨v,by rw[aa];exact hv⟩
  ·refine(ok b u q).stay (λc v hc r=>k c v ?_ r) (λc r=>by rw[fX (ab c b r)];exact r) λc xs r=>by rw[fX (ac c xs r)];exact r
   rcases hc with rfl|hc
   ·exact aa
   ·rintro rfl
    rcases he with z|z
    ·exact ab c b hc z
    ·rw[hc]at z;cases z;exact hb rfl
end
structure Un(fs ex:List Addr)(H H':Hp)(h h':Heap):Prop where
 keep:∀b o,h.get? b=some o->H b=none->b∉fs->b∉ex->h'.get? b=some o
 slot:∀b o,h.get? b=some o->H b=none->b∈fs->b∉ex->∃sl,h'.get? b=some {o with slots:=sl}
 free:∀b o,h.get? b=some o->H b=none->b∉ex->H' b=none
 there:∀b o,h.get? b=some o->b∉ex->∃o',h'.get? b=some o'
 tups:∀b xs,H b=some (.tup xs)->H' b=some (.tup xs)
 frzs:∀b o u,H b=some (.frz o u)->H' b=some (.frz o u)
 tbls:∀b ps,H b=some (.tbl ps)->∃more,H' b=some (.tbl (ps++more))
section
variable{fs fs' ex ex':List Addr}{H H1 H2:Hp}{h h1 h2 h':Heap}{a x e:Addr}{o:HO}
def Un.any(u:Un fs ex H H1 h h1){b:Addr}{z:Obj}(q:h.get? b=some z)(n:H b=none)(hx:b∉ex):∃sl,h1.get? b=some {z with slots:=sl}:=by
 by_cases hb:b∈fs
 ·exact u.slot b z q n hb hx
 ·exact⟨z.slots,u.keep b z q n hb hx⟩
def Un.trans(a:Un fs ex H H1 h h1)(b:Un fs ex H1 H2 h1 h2):Un fs ex H H2 h h2 where
 keep:=λc z q n hc hx=>b.keep c z (a.keep c z q n hc hx) (a.free c z q n hx) hc hx
 slot:=λc z q n hc hx=>by
  obtain⟨sl,e1⟩:=a.slot c z q n hc hx;obtain⟨aa,e2⟩:=b.slot c _ e1 (a.free c z q n hx) hc hx;exact⟨aa,e2⟩
 free:=λc z q n hx=>by
  obtain⟨o',e1⟩:=a.there c z q hx;exact b.free c o' e1 (a.free c z q n hx) hx
 there:=λc z q hx=>by
  obtain⟨o',e1⟩:=a.there c z q hx;exact b.there c o' e1 hx
 tups:=λc xs q=>b.tups c xs (a.tups c xs q)
 frzs:=λc z xs q=>b.frzs c z xs (a.frzs c z xs q)
 tbls:=λc ps q=>by
  obtain⟨m1,e1⟩:=a.tbls c ps q;obtain⟨m2,e2⟩:=b.tbls c _ e1;exact⟨m1++m2,by rw[e2,zzu]⟩
def Un.kept(k:∀b u,h.get? b=some u->h'.get? b=some u):Un fs ex H H h h':=
 ⟨λb z q _ _ _=>k b z q,λb z q _ _ _=>⟨z.slots,k b z q⟩,λ_ _ _ n _=>n,λb z q _=>⟨z,k b z q⟩,λ_ _ q=>q,λ_ _ _ q=>q,λ_ ps q=>⟨#[],by rw[q];simp⟩⟩
def Un.refl:Un fs ex H H h h:=Un.kept λ_ _ q=>q
def Un.laid(k:∀b u,h.get? b=some u->h'.get? b=some u)(hp:h.objs.size<=a)(hn:H a=none):Un fs ex H (upd H a o) h h' where
 keep:=λb u q _ _ _=>k b u q
 slot:=λb u q _ _ _=>⟨u.slots,k b u q⟩
 free:=λb u q n _=>by rw[fX (zK (zL (zu q) hp))];exact n
 there:=λb u q _=>⟨u,k b u q⟩
 tups:=λb xs q=>by rw[fX (gP q hn)];exact q
 frzs:=λb u xs q=>by rw[fX (gP q hn)];exact q
 tbls:=λb ps q=>⟨#[],by rw[fX (gP q hn),q];simp⟩
def Un.write(mu:Mut (H x))(he:e=x\/H e=some (.own x))(k:∀b u,b≠e->h.get? b=some u->h'.get? b=some u)(ab:∃u,h'.get? e=some u):Un fs ex H (upd H x o) h h':=by
 have hx:∀b,H b=none->b≠x:=λb n z=>by subst z;rw[n]at mu;exact mu
 have hb:∀b,H b=none->b≠e:=λb n z=>by
  subst z;rcases he with r|r
  ·exact hx b n r
  ·rw[n]at r;cases r
 have hm:∀b u,H b=some u->¬Mut (some u)->b≠x:=λb u q nm z=>by subst z;rw[q]at mu;exact nm mu
 refine ⟨λb u q n _ _=>k b u (hb b n) q,λb u q n _ _=>⟨u.slots,k b u (hb b n) q⟩,λb u q n _=>by rw[fX (hx b n)];exact n,λb u q _=>?_,
  λb xs q=>by rw[fX (hm b _ q λz=>z)];exact q,λb u xs q=>by rw[fX (hm b _ q λz=>z)];exact q,λb ps q=>⟨#[],by rw[fX (hm b _ q λz=>z),q];simp⟩⟩
 by_cases aa:b=e
 ·subst aa;exact ab
 ·exact⟨u,k b u aa q⟩
end
noncomputable def trk(h:Heap)(H:Hp):List Addr:=(List.range h.objs.size).filter λa=>(H a).isSome
noncomputable def Xl(h:Heap)(H:Hp):Heap:=PySem.W.hideAll h (trk h H)
def Ut(h:Heap)(H:Hp):(Xl h H).objs.size=h.objs.size:=PySem.W.hideAll_size _ _
def Yl{h:Heap}{H:Hp}{b:Addr}{o:Obj}(e:h.get? b=some o)(n:H b=none):(Xl h H).get? b=some o:=
 PySem.W.hideAll_get _ e λhm=>by
  have q:(H b).isSome=true:=(zzb.mp hm).2;rw[n]at q;simp at q
def aai{h:Heap}{H:Hp}{b:Addr}{o:Obj}(e:(Xl h H).get? b=some o):h.get? b=some o/\H b=none:=by
 have e':h.get? b=some o:=zz1 (trk h H) e;refine⟨e',?_⟩
 cases q:H b with
 |none=>rfl
 |some x=>
  have hm:b∈trk h H:=zzb.mpr ⟨zzB.mpr (zu e'),by simp[q]⟩;have z:(Xl h H).get? b=none:=zzj (trk h H) hm;rw[z]at e;cases e
noncomputable def aaI(g h:Heap)(L:Addr):List (Addr×Obj):=(List.range h.objs.size).filterMap λa=>if a=L\/(g.get? a).isSome=true then none else(h.get? a).map λo=>(a,o)
noncomputable def rest(g h:Heap)(L d:Addr):List (Addr×Obj):=(aaI g h L).filter λp=>decide (p.1≠d)
def Wc{g h:Heap}{L d:Addr}:∀p∈rest g h L d,p.1≠d:=λp hp=>zzE (zzb.mp hp).2
end L2
namespace L2
open PySem PySem.Spec PyProof.Rows
structure Mod(K:Fg_)(mg:Str->Option Value)(base:Heap):Prop where
 kin:K.In base
 glob:base.Ns mainGlobals mg
 blt:∃mb,base.Ns builtinsNs mb/\∀x:Str,x≠ "__name__" ->mb x=bootBuiltins x
 nolimit:base.NoLimit
structure Cx where
 prog:Program
 w:World
 K:Fg_
 mg:Str->Option Value
 base:Heap
 A:Around
 N:List Str
 s₀:Shared
 H₀:Hp
 env:Env
 outer:List Env
 stack:List Env
 ex:List Addr
 fn:Str->Bool
 calm:Bool
 pn:List (Addr×Obj)
 xe:Value->Shared->Prop
noncomputable def frs(l:List Env):List Addr:=l.filterMap (·.frame)
abbrev Cx.fs(X:Cx):List Addr:=frs X.outer
noncomputable def Vis(sc:Scope)(x:Str):Prop:=sc.names.lookup x=some .local\/sc.names.lookup x=some .cell\/sc.names.lookup x=some .free
noncomputable def Loc(sc:Scope)(x:Str):Prop:=sc.names.lookup x=some .local\/sc.names.lookup x=some .cell
noncomputable def Look(env:Env)(h:Heap)(m:Str->Option Value)(x:Str)(u:Value):Prop:=
 (env.kindOf x=some .local/\m x=some u)\/((env.kindOf x=some .cell\/env.kindOf x=some .free)/\∃c,env.cells.lookup x=some c/\h.IsCell c (some u))
structure Cx.Ok(X:Cx):Prop where
 mod:Mod X.K X.mg X.base
 kind:X.env.scope.kind=.function
 glob:X.env.globals=mainGlobals
 blt:X.env.builtins=builtinsNs
 above:X.s₀.heap.objs.size<=X.env.locals
 inj:∀x y c,X.env.cells.lookup x=some c->X.env.cells.lookup y=some c->x=y
 has:∀x,(X.env.kindOf x=some .cell\/X.env.kindOf x=some .free)->∃c,X.env.cells.lookup x=some c
 cab:∀x c,X.fn x=true->X.env.cells.lookup x=some c->X.s₀.heap.objs.size<=c
 hd:X.calm=true->X.A.handled=none
 frames:X.A.frames=some X.stack
 stk:X.stack=X.outer\/(X.stack=X.env::X.outer/\X.env.frame=some X.env.locals)
 exf:∀b∈X.ex,b≠X.env.locals/\∀x c,X.env.cells.lookup x=some c->c≠b
 bs:∀b o,X.base.get? b=some o->X.s₀.heap.get? b=some o/\X.H₀ b=none
 bsz:X.base.objs.size<=X.s₀.heap.objs.size
 noex:∀b o,X.base.get? b=some o->b∉X.ex
 exfs:∀b∈X.ex,b∉X.fs
 funs:X.s₀.heap.FunFrames X.base X.outer
 frf:∀b∈X.fs,X.H₀ b=none
structure Inv(X:Cx)(pins:List (Addr×Obj))(σ:List (Option V))(H:Hp)(s:Shared):Prop where
 ok:X.Ok
 os:s.os=X.s₀.os
 bare:AllBare s.gens
 base:Un X.fs X.ex X.H₀ H X.s₀.heap s.heap
 loc:∃m,s.heap.Ns X.env.locals m/\∀(i:Nat)(x:Str)(v:V),X.N[i]? =some x->σ[i]? =some (some v)->Vis X.env.scope x->∃u,RelV v u/\Look X.env s.heap m x u
 cell:∀x c,X.env.cells.lookup x=some c->∃v,s.heap.IsCell c v
 free:H X.env.locals=none
 freeC:∀x c,X.env.cells.lookup x=some c->H c=none
 pin:∀p∈X.pn++pins,s.heap.get? p.1=some p.2/\H p.1=none/\p.1≠X.env.locals/\p.1∉X.fs/\∀v,p.2.data≠.cell v
 hok:HOk X.prog X.w H s.heap
 len:σ.length=X.N.length
section
variable{X:Cx}{pins:List (Addr×Obj)}{σ:List (Option V)}{H H':Hp}{s:Shared}{h':Heap}
def Cx.Ok.nofr(ok:X.Ok){b:Addr}{o:Obj}(e:X.base.get? b=some o):b∉X.fs:=λhb=>by
 have:=(ok.funs.mem hb).1;rw[e]at this;cases this
theorem Inv.bs(I:Inv X pins σ H s):∀b o,X.base.get? b=some o->s.heap.get? b=some o/\H b=none:=λb o e=>
 ⟨I.base.keep b o (I.ok.bs b o e).1 (I.ok.bs b o e).2 (I.ok.nofr e) (I.ok.noex b o e),I.base.free b o (I.ok.bs b o e).1 (I.ok.bs b o e).2 (I.ok.noex b o e)⟩
def Inv.bk(I:Inv X pins σ H s):∀b o,X.base.get? b=some o->s.heap.get? b=some o:=λb o e=>(I.bs b o e).1
theorem Inv.mod(I:Inv X pins σ H s):Mod X.K X.mg X.base:=I.ok.mod
def Inv.kIn(I:Inv X pins σ H s):X.K.In s.heap:=I.ok.mod.kin.keeps I.bk
def Inv.fr(I:Inv X pins σ H s):∃m,Fr X.base X.env.locals s.heap m:=
 let⟨m,hn,_⟩:=I.loc
 ⟨m,hn,I.bk,zF I.ok.bsz I.ok.above⟩
theorem Inv.lt(I:Inv X pins σ H s):X.env.locals<s.heap.objs.size:=let⟨_,hn,_⟩:=I.loc;hn.lt
def Inv.sz(I:Inv X pins σ H s):X.s₀.heap.objs.size<=s.heap.objs.size:=zF I.ok.above (zzX I.lt)
def Inv.nofs(I:Inv X pins σ H s){a:Addr}(h:s.heap.objs.size<=a):a∉X.fs:=λhb=>by
 obtain⟨_,o,q,_⟩:=I.ok.funs.mem hb;exact absurd (zL (zu q) (zF I.sz h)) (yh _)
def Inv.cne(I:Inv X pins σ H s):∀x c,X.env.cells.lookup x=some c->c≠X.env.locals:=λx c e z=>by
 obtain⟨v,o,ho,hd⟩:=I.cell x c e;obtain⟨m,⟨o',es,ep,aa,q,_⟩,_⟩:=I.loc;rw[z,aa]at ho;cases ho;rw[q]at hd;cases hd
theorem Inv.funs(I:Inv X pins σ H s):s.heap.FunFrames X.base X.outer:=by
 have aa:∀(l:List Env),(∀b∈frs l,b∈X.fs)->X.s₀.heap.FunFrames X.base l->s.heap.FunFrames X.base l:=by
  intro l
  induction l with
  |nil=>intro _ _;trivial
  |cons env r ih=>
   intro hs hl;obtain⟨hk,⟨L,o,hf,hn,ho,hd⟩,hr⟩:=hl;have q:L∈X.fs:=hs L (by unfold frs;rw[zzo,hf];exact zi);obtain⟨sl,e⟩:=I.base.slot L o ho (I.ok.frf L q) q λz=>I.ok.exfs L z q;exact⟨hk,⟨L,_,hf,hn,e,hd⟩,ih (λb hb=>hs b (by unfold frs;rw[zzo,hf];exact zr _ hb)) hr⟩
 exact aa X.outer (λ_ hb=>hb) I.ok.funs
theorem Inv.stack(I:Inv X pins σ H s):s.heap.FunFrames X.base X.stack:=by
 rcases I.ok.stk with e|⟨e,q⟩
 ·rw[e];exact I.funs
 ·rw[e]
  obtain⟨m,hn,_⟩:=I.loc;refine .cons (by rw[I.ok.kind];decide) q hn ?_ I.funs;exact yT (zF I.ok.bsz I.ok.above)
def Inv.stkSub(I:Inv X pins σ H s):∀b∈frs X.stack,b∈X.env.locals::X.fs:=λb hb=>by
 rcases I.ok.stk with e|⟨e,q⟩
 ·rw[e]at hb;exact zr _ hb
 ·rw[e]at hb
  unfold frs at hb;rw[zzo,q]at hb;exact hb
def Inv.stkFree(I:Inv X pins σ H s):∀b∈frs X.stack,H b=none:=λb hb=>by
 rcases zh.mp (I.stkSub b hb)with e|hb
 ·rw[e];exact I.free
 ·obtain⟨_,o,q,_⟩:=I.ok.funs.mem hb
  exact I.base.free b o q (I.ok.frf b hb) λz=>I.ok.exfs b z hb
def Inv.step{g':Array GenState}{t':Nat}{d':Drawn}{ch:List Addr}(I:Inv X pins σ H s)
  (ac:∀b∈ch,(b∈X.ex\/X.s₀.heap.objs.size<=b)/\b≠X.env.locals/\(∀x c,X.env.cells.lookup x=some c->c≠b)/\∀p∈X.pn++pins,p.1≠b)
  (keep:∀b o,b≠X.env.locals->b∉X.fs->b∉ch->s.heap.get? b=some o->H b=none->h'.get? b=some o)
  (slot:∀b o,b≠X.env.locals->b∈X.fs->b∉ch->s.heap.get? b=some o->H b=none->∃sl,h'.get? b=some {o with slots:=sl}) (free:∀b o,b∉ch->s.heap.get? b=some o->H b=none->H' b=none)
  (there:∀b o,b∉ch->s.heap.get? b=some o->∃o',h'.get? b=some o')
  (tups:∀b xs,H b=some (.tup xs)->H' b=some (.tup xs)) (frzs:∀b o u,H b=some (.frz o u)->H' b=some (.frz o u)) (tbls:∀b ps,H b=some (.tbl ps)->∃ae,H' b=some (.tbl (ps++ae)))
  (ns:∀m,s.heap.Ns X.env.locals m->h'.Ns X.env.locals m) (hok:HOk X.prog X.w H' h') (hg:AllBare g'):
  Inv X pins σ H' {s with heap:=h',gens:=g',drawn:=d',toks:=t'}:=by
 have af:∀b o,X.s₀.heap.get? b=some o->b≠X.env.locals:=λb o e=>zK (zL (zu e) I.ok.above)
 have ad:∀b o,X.s₀.heap.get? b=some o->b∉X.ex->b∉ch:=λb o e hx hb=>by
  rcases(ac b hb).1 with z|z
  ·exact hx z
  ·exact absurd (zL (zu e) z) (yh _)
 have ab:∀x c,X.env.cells.lookup x=some c->∀v,s.heap.IsCell c v->h'.IsCell c v:=λx c e v ⟨o,ho,hd⟩=>by
  have aa:c∉ch:=λz=>(ac c z).2.2.1 x c e rfl;by_cases hc:c∈X.fs
  ·obtain⟨sl,q⟩:=slot c o (I.cne x c e) hc aa ho (I.freeC x c e)
   exact⟨_,q,hd⟩
  ·exact⟨o,keep c o (I.cne x c e) hc aa ho (I.freeC x c e),hd⟩
 refine⟨I.ok,I.os,hg,⟨λb o e n hb hx=>?_,λb o e n hb hx=>?_,λb o e n hx=>?_,λb o e hx=>?_,λb xs e=>tups b xs (I.base.tups b xs e),λb o xs e=>frzs b o xs (I.base.frzs b o xs e),λb ps e=>?_⟩,?_,λx c e=>?_,?_,λx c e=>?_,λp hp=>?_,hok,I.len⟩
 ·exact keep b o (af b o e) hb (ad b o e hx) (I.base.keep b o e n hb hx) (I.base.free b o e n hx)
 ·obtain⟨sl,e1⟩:=I.base.slot b o e n hb hx
  obtain⟨ag,e2⟩:=slot b _ (af b o e) hb (ad b o e hx) e1 (I.base.free b o e n hx);exact⟨ag,e2⟩
 ·obtain⟨o',e1⟩:=I.base.there b o e hx
  exact free b o' (ad b o e hx) e1 (I.base.free b o e n hx)
 ·obtain⟨o',e1⟩:=I.base.there b o e hx
  exact there b o' (ad b o e hx) e1
 ·obtain⟨m1,e1⟩:=I.base.tbls b ps e
  obtain⟨m2,e2⟩:=tbls b _ e1;exact⟨m1++m2,by rw[e2,zzu]⟩
 ·obtain⟨m,hn,hl⟩:=I.loc
  refine⟨m,ns m hn,λi x v e1 e2 e3=>?_⟩;obtain⟨u,r,l⟩:=hl i x v e1 e2 e3;refine⟨u,r,?_⟩;rcases l with l|⟨k,c,e,z⟩
  ·exact .inl l
  ·exact .inr ⟨k,c,e,ab x c e _ z⟩
 ·obtain⟨v,z⟩:=I.cell x c e
  exact⟨v,ab x c e v z⟩
 ·obtain⟨m,⟨o,_,_,ho,_⟩,_⟩:=I.loc
  exact free _ o (λz=>(ac _ z).2.1 rfl) ho I.free
 ·obtain⟨v,o,ho,hd⟩:=I.cell x c e
  exact free c o (λz=>(ac c z).2.2.1 x c e rfl) ho (I.freeC x c e)
 ·obtain⟨e,n,ne,nf,d⟩:=I.pin p hp
  have aa:p.1∉ch:=λz=>(ac p.1 z).2.2.2 p hp rfl;exact⟨keep p.1 p.2 ne nf aa e n,free p.1 p.2 aa e n,ne,nf,d⟩
def Inv.un{t':Nat}(I:Inv X pins σ H s)(u:Un X.fs [] H H' s.heap h')(hok:HOk X.prog X.w H' h'):Inv X pins σ H' {s with heap:=h',toks:=t'}:=by
 obtain⟨m,⟨o,es,ep,ho,r⟩,_⟩:=id I.loc;obtain⟨sl,hL⟩:=u.any ho I.free (by simp)
 exact I.step (g':=s.gens) (d':=s.drawn) (ch:=[]) (λ_ z=>nomatch z) (λb o _ hb _ e n=>u.keep b o e n hb (by simp)) (λb o _ hb _ e n=>u.slot b o e n hb (by simp)) (λb o _ e n=>u.free b o e n (by simp)) (λb o _ e=>u.there b o e (by simp)) u.tups u.frzs u.tbls (λm' hm=>by
  obtain⟨o',aa,ab,q,r'⟩:=hm;rw[ho]at q;cases q;exact⟨_,aa,ab,hL,r'⟩) hok I.bare
def Inv.call{g':Array GenState}{t':Nat}{d':Drawn}{ch:List Addr}(I:Inv X pins σ H s)(u:Un (frs X.stack) ch H H' s.heap h')(hok:HOk X.prog X.w H' h')(hg:AllBare g')
  (ab:∀b∈ch,(b∈X.ex\/X.s₀.heap.objs.size<=b)/\b≠X.env.locals/\(∀x c,X.env.cells.lookup x=some c->c≠b)/\∀p∈X.pn++pins,p.1≠b):
  Inv X pins σ H' {s with heap:=h',gens:=g',drawn:=d',toks:=t'}:=by
 obtain⟨m,⟨o,es,ep,ho,r⟩,_⟩:=id I.loc;obtain⟨sl,hL⟩:=u.any ho I.free λz=>(ab _ z).2.1 rfl
 exact I.step (ch:=ch) ab (λb o hL hb q e n=>u.keep b o e n (λz=>(zh.mp (I.stkSub b z)).elim hL hb) q) (λb o _ _ q e n=>u.any e n q) (λb o q e n=>u.free b o e n q) (λb o q e=>u.there b o e q) u.tups u.frzs u.tbls (λm' hm=>by
  obtain⟨o',ac,ad,aa,r'⟩:=hm;rw[ho]at aa;cases aa;exact⟨_,ac,ad,hL,r'⟩) hok hg
def Inv.turned{t':Nat}{it:Addr}(I:Inv X pins σ H s)(k:∀b o,b≠it->s.heap.get? b=some o->h'.get? b=some o)(hn:H it=none)(hL:it≠X.env.locals)
  (h1:it∈X.ex\/X.s₀.heap.objs.size<=it) (h2:∀x c,X.env.cells.lookup x=some c->c≠it) (h3:∀p∈X.pn++pins,p.1≠it):Inv X pins σ H {s with heap:=h',toks:=t'}:=by
 have aa:∀b u,H b=some u->b≠it:=λb u e z=>by rw[z,hn]at e;cases e
 refine I.step (g':=s.gens) (d':=s.drawn) (ch:=[it]) (λb hb=>?_) (λb o _ _ hc e _=>k b o (λz=>hc (by simp[z])) e) (λb o _ _ hc e _=>⟨o.slots,k b o (λz=>hc (by simp[z])) e⟩) (λ_ _ _ _ n=>n)
  (λb o hc e=>⟨o,k b o (λz=>hc (by simp[z])) e⟩) (λ_ _ e=>e) (λ_ _ _ e=>e) (λb ps e=>⟨#[],by rw[e];simp⟩) (λm hm=>?_) (λb u e=>?_) I.bare
 ·have e:b=it:=by simpa using hb
  subst e;exact⟨h1,hL,h2,h3⟩
 ·obtain⟨o,es,ep,ho,r⟩:=hm
  exact⟨o,es,ep,k _ o (Ne.symm hL) ho,r⟩
 ·refine(I.hok b u e).stay (λc v hc q=>k c v ?_ q) (λ_ q=>q) λ_ _ q=>q
  rcases hc with z|z
  ·rw[z];exact aa b u e
  ·exact aa c _ z
def Inv.tok(I:Inv X pins σ H s)(t:Nat):Inv X pins σ H {s with toks:=t}:=I.un (h':=s.heap) (t':=t) Un.refl I.hok
theorem Inv.kept{t':Nat}(I:Inv X pins σ H s)(k:∀b u,s.heap.get? b=some u->h'.get? b=some u):Inv X pins σ H {s with heap:=h',toks:=t'}:=I.un (Un.kept k) (I.hok.kept k)
theorem Inv.laid{a:Addr}{o:HO}{t':Nat}(I:Inv X pins σ H s)(k:∀b u,s.heap.get? b=some u->h'.get? b=some u)(hp:s.heap.objs.size<=a)(q:iZ X.prog X.w (upd H a o) h' a o):
  Inv X pins σ (upd H a o) {s with heap:=h',toks:=t'}:=I.un (Un.laid k hp (I.hok.fresh hp)) (I.hok.laid k hp q)
theorem Inv.write{x e:Addr}{o:HO}{t':Nat}(I:Inv X pins σ H s)(mu:Mut (H x))(he:e=x\/H e=some (.own x))(k:∀b u,b≠e->s.heap.get? b=some u->h'.get? b=some u)(q:∃u,h'.get? e=some u)
  (z:iZ X.prog X.w (upd H x o) h' x o):Inv X pins σ (upd H x o) {s with heap:=h',toks:=t'}:=I.un (Un.write mu he k q) (I.hok.write mu he k q z)
def Inv.weak{q:List (Option V)}(I:Inv X pins σ H s)(hl:q.length=σ.length)(w:∀(i:Nat) v,q[i]? =some (some v)->σ[i]? =some (some v)):Inv X pins q H s:=
 ⟨I.ok,I.os,I.bare,I.base,let⟨m,hn,hl'⟩:=I.loc;⟨m,hn,λi x v e1 z e3=>hl' i x v e1 (w i v z) e3⟩,I.cell,I.free,I.freeC,I.pin,I.hok,hl.trans I.len⟩
def Inv.pins_of{q:List (Addr×Obj)}(I:Inv X pins σ H s)(h:∀p∈q,s.heap.get? p.1=some p.2/\H p.1=none/\p.1≠X.env.locals/\p.1∉X.fs/\∀v,p.2.data≠.cell v):Inv X q σ H s:=
 ⟨I.ok,I.os,I.bare,I.base,I.loc,I.cell,I.free,I.freeC,λp hp=>(zG.mp hp).elim (λz=>I.pin p (yB _ z)) (h p),I.hok,I.len⟩
def Il{N:List Str}(z:N.Nodup){i j:Nat}{x:Str}(a:N[i]? =some x)(b:N[j]? =some x):i=j:=by
 obtain⟨h1,e1⟩:=zv.mp a;obtain⟨h2,q⟩:=zv.mp b;exact(List.getElem_inj z).mp (e1.trans q.symm)
def Lg{M:Model}{A:Around}{E:Value->Shared->Prop}{i:Nat}{x:Str}{v:V}{u:Value}{Q:Unit->Shared->Prop}(I:Inv X pins σ H s)(hN:X.N.Nodup)(hi:X.N[i]? =some x)(hx:Loc X.env.scope x)(r:RelV v u)
  (h:∀s',Inv X pins (σ.set i (some v)) H s'->(∃a,Heap.SameBut a s.heap s'.heap/\(a=X.env.locals\/X.env.cells.lookup x=some a))->Q () s') (hf:X.fn x=true\/X.env.scope.names.lookup x=some .local:=by walk_at "p"):wpAny M A (storeName X.env x u) Q E s:=by
 obtain⟨m,hn,hl⟩:=id I.loc;have af:(X.env.scope.kind==.class||(X.env.scope.kind==.module && X.env.locals !=X.env.globals))=false:=by rw[I.ok.kind];rfl
 have ah:i<σ.length:=by rw[I.len];exact(zv.mp hi).1
 have ad:=I.cne
 have aa:∀{a:Addr}{h':Heap},(∃o,s.heap.get? a=some o/\H a=none)->Heap.SameBut a s.heap h'->HOk X.prog X.w H h':=fun{a h'} ha hs b ob e=>by
  obtain⟨_,_,ab⟩:=ha;refine(I.hok b ob e).stay (λc w' hc q=>(hs.2 c ?_).trans q) (λ_ q=>q) λ_ _ q=>q;rintro rfl;rcases hc with rfl|hc
  ·rw[ab]at e;cases e
  ·rw[ab]at hc;cases hc
 rcases hx with hk|hk
 ·refine wpAny_storeName_local hk hn (λh' al hs=>?_) af
  obtain⟨oL,_,_,ak,_⟩:=id hn;refine h _ ⟨I.ok,I.os,I.bare,⟨λb o e n hb hx=>?_,λb o e n hb hx=>?_,I.base.free,λb o e hx=>?_,I.base.tups,I.base.frzs,I.base.tbls⟩,⟨_,al,λj y v' e1 e2 e3=>?_⟩,λy c e=>?_,I.free,I.freeC,λp hp=>?_,aa ⟨oL,ak,I.free⟩ hs,by simpa using I.len⟩ ⟨_,hs,.inl rfl⟩
  ·exact(hs.2 b (zK (zL (zu e) I.ok.above))).trans (I.base.keep b o e n hb hx)
  ·obtain⟨sl,e1⟩:=I.base.slot b o e n hb hx
   exact⟨sl,(hs.2 b (zK (zL (zu e) I.ok.above))).trans e1⟩
  ·obtain⟨o',e1⟩:=I.base.there b o e hx
   exact⟨o',(hs.2 b (zK (zL (zu e) I.ok.above))).trans e1⟩
  ·by_cases hj:j=i
   ·subst hj
    rw[hi]at e1;cases e1;rw[zzx ah]at e2;cases e2;exact⟨u,r,.inl ⟨hk,by simp⟩⟩
   ·rw[zzN (Ne.symm hj)]at e2
    obtain⟨u',r',q⟩:=hl j y v' e1 e2 e3;refine⟨u',r',?_⟩;rcases q with⟨k,e⟩|⟨k,c,e,z⟩
    ·refine .inl ⟨k,?_⟩
     have:y≠x:=λe=>hj (Il hN e1 (e▸hi));simp[this,e]
    ·exact .inr ⟨k,c,e,z.sameBut hs (ad y c e)⟩
  ·obtain⟨w',z⟩:=I.cell y c e
   exact⟨w',z.sameBut hs (ad y c e)⟩
  ·obtain⟨e,n,ne,nf,d⟩:=I.pin p hp
   exact⟨(hs.2 p.1 ne).trans e,n,ne,nf,d⟩
 ·have ac:X.fn x=true:=by
   rcases hf with z|z
   ·exact z
   ·rw[z]at hk;cases hk
  obtain⟨c,hc⟩:=I.ok.has x (.inl hk);obtain⟨w',z⟩:=I.cell x c hc;refine wpAny_storeName_cell I.ok.kind hk hc z (λh' ae hs=>?_);obtain⟨oc,ag,ai⟩:=id z;refine h {s with heap:=h'} ⟨I.ok,I.os,I.bare,⟨λb o e n hb hx=>?_,λb o e n hb hx=>?_,I.base.free,λb o e hx=>?_,I.base.tups,I.base.frzs,I.base.tbls⟩,⟨m,hn.sameBut hs (Ne.symm (ad x c hc)),λj y v' e1 e2 e3=>?_⟩,λy c' e=>?_,I.free,I.freeC,λp hp=>?_,aa ⟨oc,ag,I.freeC x c hc⟩ hs,by simpa using I.len⟩ ⟨c,hs,.inr hc⟩
  ·exact(hs.2 b (zK (zL (zu e) (I.ok.cab x c ac hc)))).trans (I.base.keep b o e n hb hx)
  ·obtain⟨sl,e1⟩:=I.base.slot b o e n hb hx
   exact⟨sl,(hs.2 b (zK (zL (zu e) (I.ok.cab x c ac hc)))).trans e1⟩
  ·obtain⟨o',e1⟩:=I.base.there b o e hx
   exact⟨o',(hs.2 b (zK (zL (zu e) (I.ok.cab x c ac hc)))).trans e1⟩
  ·by_cases hj:j=i
   ·subst hj
    rw[hi]at e1;cases e1;rw[zzx ah]at e2;cases e2;exact⟨u,r,.inr ⟨.inl hk,c,hc,ae⟩⟩
   ·rw[zzN (Ne.symm hj)]at e2
    obtain⟨u',r',q⟩:=hl j y v' e1 e2 e3;refine⟨u',r',?_⟩;rcases q with q|⟨k,c',e,z'⟩
    ·exact .inl q
    ·refine .inr ⟨k,c',e,z'.sameBut hs ?_⟩
     rintro rfl;exact hj (Il hN e1 (I.ok.inj _ _ _ e hc▸hi))
  ·by_cases aj:c'=c
   ·subst aj;exact⟨_,ae⟩
   ·obtain⟨w2,z2⟩:=I.cell y c' e
    exact⟨w2,z2.sameBut hs aj⟩
  ·obtain⟨e,n,ne,nf,d⟩:=I.pin p hp
   refine⟨(hs.2 p.1 ?_).trans e,n,ne,nf,d⟩;intro q;rw[q,ag]at e;have q':oc=p.2:=zt e;exact d w' (by rw[<-q'];exact ai)
def JT{M:Model}{A:Around}{E:Value->Shared->Prop}{i:Nat}{x:Str}{v:V}{u:Value}{Q:Unit->Shared->Prop}(I:Inv X pins σ H s)(q:X.N.Nodup)(hi:X.N[i]? =some x)(z:Loc X.env.scope x)(r:RelV v u)
  (h:∀s',Inv X pins (σ.set i (some v)) H s'->Q () s') (hf:X.fn x=true\/X.env.scope.names.lookup x=some .local:=by walk_at "p"):wpAny M A (storeName X.env x u) Q E s:=
 Lg I q hi z r (λs' I' _=>h s' I') hf
def Inv.call'{s':Shared}{ch:List Addr}(I:Inv X pins σ H s)(ho:s'.os=s.os)(u:Un (frs X.stack) ch H H' s.heap s'.heap)(hok:HOk X.prog X.w H' s'.heap)(z:AllBare s'.gens)
  (q:∀b∈ch,(b∈X.ex\/X.s₀.heap.objs.size<=b)/\b≠X.env.locals/\(∀x c,X.env.cells.lookup x=some c->c≠b)/\∀p∈X.pn++pins,p.1≠b):Inv X pins σ H' s':=by
 obtain⟨h',g',d',t',o'⟩:=s';have e:o'=s.os:=ho;subst e;exact I.call (g':=g') (t':=t') (d':=d') u hok z q
end
abbrev XK:=Value->Option Addr->Hp->Prop
abbrev St:=List (Option V)
abbrev VK:=V->Hp->Prop
abbrev TE:=St->Hp->VK->Prop
abbrev TT:=St->Hp->(Bool->Hp->Prop)->Prop
abbrev TA:=St->Hp->(List V->Hp->Prop)->Prop
structure Ends where
 nx:St->Hp->Prop
 rt:VK
 bk:St->Hp->Prop:=λ_ _=>False
 ct:St->Hp->Prop:=λ_ _=>False
abbrev TS:=Ends->St->Hp->Prop
noncomputable def EP(X:Cx)(pins:List (Addr×Obj))(σ:St)(Q:VK)(u:Value)(s':Shared):Prop:=∃v H',Inv X pins σ H' s'/\RelV v u/\Q v H'
noncomputable def TP(X:Cx)(pins:List (Addr×Obj))(σ:St)(Q:Bool->Hp->Prop)(b:Bool)(s':Shared):Prop:=∃H',Inv X pins σ H' s'/\Q b H'
noncomputable def AP(X:Cx)(pins:List (Addr×Obj))(σ:St)(Q:List V->Hp->Prop)(us:List Value)(s':Shared):Prop:=∃vs H',Inv X pins σ H' s'/\Vals vs us/\Q vs H'
noncomputable def SP(X:Cx)(pins:List (Addr×Obj))(D:Ends)(f:Flow)(s':Shared):Prop:=
 match f with
 |.next=>∃σ' H',Inv X pins σ' H' s'/\D.nx σ' H'
 |.brk=>∃σ' H',Inv X pins σ' H' s'/\D.bk σ' H'
 |.cont=>∃σ' H',Inv X pins σ' H' s'/\D.ct σ' H'
 |.ret u=>∃v σ' H',Inv X pins σ' H' s'/\RelV v u/\D.rt v H'
noncomputable def PE(X:Cx)(e:Expr)(t:TE):Prop:=
 ∀(pins:List (Addr×Obj))(s:Shared)(σ:St)(H:Hp)(Q:VK),Inv X pins σ H s->t σ H Q->wpAny (model X.prog X.w) X.A (eval e X.env) (EP X pins σ Q) X.xe s
noncomputable def PT(X:Cx)(e:Expr)(t:TT):Prop:=
 ∀(pins:List (Addr×Obj))(s:Shared)(σ:St)(H:Hp)(Q:Bool->Hp->Prop),Inv X pins σ H s->t σ H Q->wpAny (model X.prog X.w) X.A (isTrue e X.env (eval e X.env)) (TP X pins σ Q) X.xe s
noncomputable def PW(X:Cx)(e:Expr)(t:TT):Prop:=
 ∀(whole:Sem Value)(pins:List (Addr×Obj))(s:Shared)(σ:St)(H:Hp)(Q:Bool->Hp->Prop),Inv X pins σ H s->t σ H Q->wpAny (model X.prog X.w) X.A (isTrue e X.env whole) (TP X pins σ Q) X.xe s
def PW.pt{X:Cx}{e:Expr}{t:TT}(h:PW X e t):PT X e t:=h _
noncomputable def PA(X:Cx)(es:List Expr)(t:TA):Prop:=
 ∀(pos:Pos)(pins:List (Addr×Obj))(s:Shared)(σ:St)(H:Hp)(Q:List V->Hp->Prop),Inv X pins σ H s->t σ H Q->wpAny (model X.prog X.w) X.A (spliced (backTo pos (starEach es X.env))) (AP X pins σ Q) X.xe s
noncomputable def PS(X:Cx)(st:Stmt)(t:TS):Prop:=
 ∀(pins:List (Addr×Obj))(s:Shared)(σ:St)(H:Hp)(D:Ends),Inv X pins σ H s->t D σ H->wpAny (model X.prog X.w) X.A (exec st X.env) (SP X pins D) X.xe s
noncomputable def PSs(X:Cx)(st:List Stmt)(t:TS):Prop:=
 ∀(pins:List (Addr×Obj))(s:Shared)(σ:St)(H:Hp)(D:Ends),Inv X pins σ H s->t D σ H->wpAny (model X.prog X.w) X.A (execs st X.env) (SP X pins D) X.xe s
def thn{α:Type}{t:Sem α}{Q Q':α->Shared->Prop}{M:Model}{A:Around}{E:Value->Shared->Prop}{s:Shared}(h:wpAny M A t Q E s)(q:∀a s,Q a s->Q' a s):wpAny M A t Q' E s:=zR h q λ_ _ x=>x
end L2
namespace L2
open PySem PySem.Spec PyProof.Rows
section
variable{X:Cx}
noncomputable def Ny(i:Nat):TE:=λσ H Q=>∃v,σ[i]? =some (some v)/\Q v H
noncomputable def tC(v:V):TE:=λ_ H Q=>Q v H
def abn{i:Nat}{x:Str}{pos:Pos}(hN:X.N[i]? =some x)(hv:Vis X.env.scope x)(hd:(x==("__debug__" :Str))=false:=by decide) (hcd:(x==("__classdict__" :Str))=false:=by decide):PE X (.Name x pos) (Ny i):=by
 intro pins s σ H Q I h;obtain⟨v,e,h⟩:=h;obtain⟨m,hn,hl⟩:=I.loc;obtain⟨u,r,l⟩:=hl i x v hN e hv;have z:EP X pins σ Q u s:=⟨v,H,I,r,h⟩;rcases l with⟨hk,hm⟩|⟨hk,c,hc,q⟩
 ·exact wpAny_Name (wpAny_loadName_local I.ok.kind hk hn hm z) hd
 ·rcases hk with hk|hk
  ·exact wpAny_Name (wpAny_loadName_cell I.ok.kind hk hc q z) hd
  ·exact wpAny_Name (wpAny_loadName_free I.ok.kind hk hc q z hcd) hd
def fH{i j pos}:PE X (.Constant (.int i) j pos) (tC (.int i)):=λ_ _ _ H _ I h=>wpAny_Constant_int ⟨.int i,H,I.tok _,⟨_,rfl⟩,h⟩
def Gz{b j pos}:PE X (.Constant (.bool b) j pos) (tC (.bl b)):=λ_ _ _ H _ I h=>Constant_bool ⟨.bl b,H,I,rfl,h⟩
def jJ{j pos}:PE X (.Constant .none j pos) (tC .non):=λ_ _ _ H _ I h=>Constant_none ⟨.non,H,I,rfl,h⟩
def fZ{x j pos}:PE X (.Constant (.str x) j pos) (tC (.str x)):=λ_ _ _ H _ I h=>Calls.Constant_str ⟨.str x,H,I.tok _,⟨_,rfl⟩,h⟩
noncomputable def Gl(X:Cx)(x:Str):Prop:=X.env.kindOf x=some .globalImplicit
def nM{E:Value->Shared->Prop}{pins:List (Addr×Obj)}{s:Shared}{σ:St}{H:Hp}{x:Str}{u:Value}{pos:Pos}{Q:Value->Shared->Prop}(I:Inv X pins σ H s)(q:Gl X x)(hm:X.mg x=some u)(h:Q u s)
  (hd:(x==("__debug__" :Str))=false:=by decide):wpAny (model X.prog X.w) X.A (eval (.Name x pos) X.env) Q E s:=
 Calls.Name_function_global I.ok.kind q (Calls.loadGlobal_global (by rw[I.ok.glob];exact I.mod.glob.keeps I.bk) hm h) hd
def Et{E:Value->Shared->Prop}{pins:List (Addr×Obj)}{s:Shared}{σ:St}{H:Hp}{x:Str}{u:Value}{pos:Pos}{Q:Value->Shared->Prop}(I:Inv X pins σ H s)(q:Gl X x)(hm:X.mg x=none)(z:bootBuiltins x=some u)(h:Q u s)
  (hn:x≠ "__name__" :=by decide) (hd:(x==("__debug__" :Str))=false:=by decide):wpAny (model X.prog X.w) X.A (eval (.Name x pos) X.env) Q E s:=by
 obtain⟨mb,h1,h2⟩:=I.mod.blt;exact Calls.Name_function_global I.ok.kind q (Calls.loadGlobal_builtin (by rw[I.ok.glob];exact I.mod.glob.keeps I.bk) hm (by rw[I.ok.blt];exact h1.keeps I.bk) ((h2 x hn).trans z) h) hd
def jh{x:Str}{v:V}{u:Value}{pos:Pos}(q:Gl X x)(hm:X.mg x=some u)(r:RelV v u)(hd:(x==("__debug__" :Str))=false:=by decide):PE X (.Name x pos) (tC v):=
 λ_ _ _ H _ I h=>nM I q hm ⟨v,H,I,r,h⟩ hd
def aaO{x:Str}{v:V}{u:Value}{pos:Pos}(q:Gl X x)(hm:X.mg x=none)(z:bootBuiltins x=some u)(r:RelV v u)(hn:x≠ "__name__" :=by decide) (hd:(x==("__debug__" :Str))=false:=by decide):PE X (.Name x pos) (tC v):=
 λ_ _ _ H _ I h=>Et I q hm z ⟨v,H,I,r,h⟩ hn hd
variable{a b:Expr}{ta tb:TE}{pos:Pos}
noncomputable def tB(t:TE):TT:=λσ H Q=>t σ H λx H1=>∃c,x=.bl c/\Q c H1
def xN{e:Expr}{t:TE}(h:PE X e t)(he:∀z,isTrue e X.env z=(do let v<-z;standAt e.pos;holding [v] (truthy v)):=by intro _;rfl):PT X e (tB t):=by
 intro pins s σ H Q I hw;refine isTrue_plain (thn (h pins s σ H _ I hw) λv s1 ⟨x,H1,I1,r1,q1⟩=>?_) (he _);obtain⟨d,rfl,q⟩:=q1;cases r1;exact yt ⟨H1,I1,q⟩
variable{tA tB':TT}{rest:List Expr}
noncomputable def aej(t u:TT):TT:=λσ H Q=>t σ H λc H1=>if c=true then u σ H1 Q else Q false H1
noncomputable def tOr(t u:TT):TT:=λσ H Q=>t σ H λc H1=>if c=true then Q true H1 else u σ H1 Q
noncomputable def adU(t:TT):TT:=λσ H Q=>t σ H λc H1=>Q (!c) H1
def wU(ha:PT X a tA):PW X (.BoolOp .And [a] pos) tA:=by
 intro z pins s σ H Q I h;refine isTrue_and (thn (ha pins s σ H Q I h) λc q e=>?_)
 cases c with
 |true=>exact isTrue_and_nil e
 |false=>exact e
def lY(ha:PT X a tA):PW X (.BoolOp .Or [a] pos) tA:=by
 intro z pins s σ H Q I h;refine isTrue_or (thn (ha pins s σ H Q I h) λc q e=>?_)
 cases c with
 |false=>exact isTrue_or_nil e
 |true=>exact e
def Be(ha:PT X a tA)(hb:PW X (.BoolOp .And (b::rest) pos) tB'):PW X (.BoolOp .And (a::b::rest) pos) (aej tA tB'):=by
 intro wh pins s σ H Q I h;refine isTrue_and (thn (ha pins s σ H _ I h) λc s1 ⟨H1,z,q⟩=>?_)
 cases c with
 |true=>exact hb wh pins s1 σ H1 Q z q
 |false=>exact⟨H1,z,q⟩
def nZ(ha:PT X a tA)(hb:PW X (.BoolOp .Or (b::rest) pos) tB'):PW X (.BoolOp .Or (a::b::rest) pos) (tOr tA tB'):=by
 intro wh pins s σ H Q I h;refine isTrue_or (thn (ha pins s σ H _ I h) λc s1 ⟨H1,z,q⟩=>?_)
 cases c with
 |true=>exact⟨H1,z,q⟩
 |false=>exact hb wh pins s1 σ H1 Q z q
def xM(ha:PT X a tA):PT X (.UnaryOp .Not a pos) (adU tA):=by
 intro pins s σ H Q I h;exact isTrue_not (ha pins s σ H (λc H1=>Q (!c) H1) I h)
noncomputable def acO(ta tb:TE):TE:=λσ H Q=>ta σ H λx H1=>∃c,x=.bl c/\if c=true then tb σ H1 Q else Q (.bl false) H1
noncomputable def acE(ta:TE):TE:=λσ H Q=>ta σ H λx H1=>∃c,x=.bl c/\Q (.bl (!c)) H1
def Vm{op}{t:TE}(h:PE X a t):PE X (.BoolOp op [a] pos) t:=λpins s σ H Q I hw=>BoolOp_one (h pins s σ H Q I hw)
def TF(ha:PE X a ta)(hb:PE X (.BoolOp .And (b::rest) pos) tb):PE X (.BoolOp .And (a::b::rest) pos) (acO ta tb):=by
 intro pins s σ H Q I h;refine BoolOp_and (thn (ha pins s σ H _ I h) λv s1 ⟨x,H1,z,r1,q⟩=>?_);obtain⟨c,rfl,q⟩:=q;cases r1;refine yt ?_
 cases c with
 |true=>exact hb pins s1 σ H1 Q z q
 |false=>exact⟨.bl false,H1,z,rfl,q⟩
def abk(ha:PE X a ta):PE X (.UnaryOp .Not a pos) (acE ta):=by
 intro pins s σ H Q I h;refine UnaryOp_ (thn (ha pins s σ H _ I h) λv s1 ⟨x,H1,z,r1,q⟩=>?_);obtain⟨c,rfl,q⟩:=q;cases r1;exact not_of (yt ⟨.bl (!c),H1,z,rfl,q⟩)
noncomputable def tIf(t:TT)(ta tb:TE):TE:=λσ H Q=>t σ H λc H1=>if c=true then ta σ H1 Q else tb σ H1 Q
def Ei{c:Expr}(hc:PT X c tA)(ha:PE X a ta)(hb:PE X b tb):PE X (.IfExp c a b pos) (tIf tA ta tb):=by
 intro pins s σ H Q I h;refine wpAny_IfExp (thn (hc pins s σ H _ I h) λd z ⟨H1,I1,q⟩=>?_)
 cases d with
 |true=>exact ha pins z σ H1 Q I1 q
 |false=>exact hb pins z σ H1 Q I1 q
end
end L2
namespace L2
open PySem PySem.Spec PyProof.Rows
noncomputable def SqL(K:Fg_)(H:Hp)(a:Addr)(xs:List V):Prop:=
 Rd H a (.lst xs)\/
  ∃(o:Obj)(its:Array Value)(n:Nat),K.lookup a=some o/\o.cls=.type "list" /\o.dict=none/\o.data=.seq its n/\its.size<=sizeLine/\Vals xs its.toList
noncomputable def SqT(K:Fg_)(H:Hp)(a:Addr)(xs:List V):Prop:=
 Rd H a (.tup xs)\/
  ∃(o:Obj)(its:Array Value)(n:Nat),K.lookup a=some o/\o.cls=.type "tuple" /\o.data=.seq its n/\its.size<=sizeLine/\Vals xs its.toList
noncomputable def aen:Value->Option V
 |.none=>some .non
 |.bool b=>some (.bl b)
 |.int i _=>some (.int i)
 |.str x _=>some (.str x)
 |.bytes b _=>some (.byt b)
 |.float b _=>some (.flt b)
 |.ref a=>some (.ref a)
 |.type n=>some (.ty n)
 |_=>none
def RelV.abs{x:V}{u:Value}(r:RelV x u):aen u=some x:=by
 cases x with
 |non=>cases r;rfl
 |bl _=>cases r;rfl
 |int _=>obtain⟨t,rfl⟩:=r;rfl
 |str _=>obtain⟨t,rfl⟩:=r;rfl
 |byt _=>obtain⟨t,rfl⟩:=r;rfl
 |flt _=>obtain⟨t,rfl⟩:=r;rfl
 |ref _=>cases r;rfl
 |ty _=>cases r;rfl
def RelV.inj{x y:V}{u:Value}(r:RelV x u)(q:RelV y u):x=y:=zt (r.abs.symm.trans q.abs)
theorem Vals.inj:∀{xs ys:List V}{us:List Value},Vals xs us->Vals ys us->xs=ys
 |_,_,_,.nil,.nil=>rfl
 |_,_,_,.cons r t,.cons r' t'=>by rw[r.inj r',Vals.inj t t']
section
variable{X:Cx}{pins:List (Addr×Obj)}{σ:St}{H:Hp}{s:Shared}{a:Addr}{xs ys:List V}
def fU{K:Fg_}(h:H a=some (.lst xs)):SqL K H a xs:=.inl (.inl h)
def iD{K:Fg_}(h:H a=some (.tup xs)):SqT K H a xs:=.inl (.inl h)
def Inv.list(I:Inv X pins σ H s)(h:SqL X.K H a xs):∃its:List Value,Vals xs its/\PlainL s.heap a its.toArray/\xs.length<=sizeLine:=by
 rcases h with h|⟨o,its,n,hk,hc,hd,q,hz,r⟩
 ·obtain⟨z,its,n,r,e⟩:=h.ok I.hok
  exact⟨its,r,⟨_,n,e,rfl,rfl,rfl⟩,z⟩
 ·refine⟨its.toList,r,⟨o,n,I.kIn a o hk,hc,hd,by simpa using q⟩,?_⟩
  have e:=r.length;simp only[zH]at e;lia
def Inv.tuple(I:Inv X pins σ H s)(h:SqT X.K H a xs):∃its:List Value,Vals xs its/\IsTup s.heap a its.toArray/\xs.length<=sizeLine:=by
 rcases h with h|⟨o,its,n,hk,hc,q,hz,r⟩
 ·obtain⟨z,its,r,p⟩:=h.ok I.hok
  exact⟨its,r,p,z⟩
 ·refine⟨its.toList,r,⟨o,I.kIn a o hk,hc,n,by simpa using q⟩,?_⟩
  have e:=r.length;simp only[zH]at e;lia
def Inv.list_inj(I:Inv X pins σ H s)(h:SqL X.K H a xs)(h':SqL X.K H a ys):xs=ys:=by
 obtain⟨its,r,⟨o,n,e,_,_,d⟩,_⟩:=I.list h;obtain⟨its',z,⟨o',n',q,_,_,d'⟩,_⟩:=I.list h';rw[e]at q;cases q;rw[d]at d';injection d' with d1 _
 have:its=its':=by simpa using congrArg Array.toList d1
 subst this;exact r.inj z
def Inv.tuple_inj(I:Inv X pins σ H s)(h:SqT X.K H a xs)(h':SqT X.K H a ys):xs=ys:=by
 obtain⟨its,r,⟨o,e,_,n,d⟩,_⟩:=I.tuple h;obtain⟨its',z,⟨o',q,_,n',d'⟩,_⟩:=I.tuple h';rw[e]at q;cases q;rw[d]at d';injection d' with d1 _
 have:its=its':=by simpa using congrArg Array.toList d1
 subst this;exact r.inj z
end
abbrev Cx.wish(X:Cx)(E:Value->Shared->Prop):Cx:={X with xe:=E}
abbrev Cx.nox(X:Cx):Cx:=X.wish λ_ _=>False
theorem Cx.Ok.wish{X:Cx}(ok:X.Ok)(E:Value->Shared->Prop):(X.wish E).Ok:=
 ⟨ok.mod,ok.kind,ok.glob,ok.blt,ok.above,ok.inj,ok.has,ok.cab,ok.hd,ok.frames,ok.stk,ok.exf,ok.bs,ok.bsz,ok.noex,ok.exfs,ok.funs,ok.frf⟩
def Cx.Ok.unwish{X:Cx}{E:Value->Shared->Prop}(ok:(X.wish E).Ok):X.Ok:=
 ⟨ok.mod,ok.kind,ok.glob,ok.blt,ok.above,ok.inj,ok.has,ok.cab,ok.hd,ok.frames,ok.stk,ok.exf,ok.bs,ok.bsz,ok.noex,ok.exfs,ok.funs,ok.frf⟩
section
variable{X:Cx}{pins:List (Addr×Obj)}{σ:St}{H:Hp}{s:Shared}{E:Value->Shared->Prop}
theorem Inv.wish(I:Inv X pins σ H s)(E:Value->Shared->Prop):Inv (X.wish E) pins σ H s:=⟨I.ok.wish E,I.os,I.bare,I.base,I.loc,I.cell,I.free,I.freeC,I.pin,I.hok,I.len⟩
theorem Inv.unwish(I:Inv (X.wish E) pins σ H s):Inv X pins σ H s:=⟨I.ok.unwish,I.os,I.bare,I.base,I.loc,I.cell,I.free,I.freeC,I.pin,I.hok,I.len⟩
theorem SP.unwish{D:Ends}{f:Flow}{s':Shared}(h:SP (X.wish E) pins D f s'):SP X pins D f s':=by
 cases f with
 |next=>obtain⟨z,H',I,q⟩:=h;exact⟨z,H',I.unwish,q⟩
 |brk=>obtain⟨z,H',I,q⟩:=h;exact⟨z,H',I.unwish,q⟩
 |cont=>obtain⟨z,H',I,q⟩:=h;exact⟨z,H',I.unwish,q⟩
 |ret u=>obtain⟨v,z,H',I,r,q⟩:=h;exact⟨v,z,H',I.unwish,r,q⟩
theorem PSs.nox{st:List Stmt}{t:TS}(h:PSs X.nox st t):PSs X st t:=λpins s σ H D I hw=>
 zR (h pins s σ H D (I.wish _) hw) (λ_ _ q=>q.unwish) λ_ _ z=>False.elim z
end
section
variable{X:Cx}{st:Stmt}{rest:List Stmt}{t u:TS}{e:Expr}{te:TE}{pos:Pos}
noncomputable def abL:TS:=λD σ H=>D.nx σ H
noncomputable def aaX(t u:TS):TS:=λD σ H=>t {D with nx:=u D} σ H
def gm:PSs X [] abL:=λ_ _ σ H _ I h=>zzT ⟨σ,H,I,h⟩
def fK(h1:PS X st t)(h2:PSs X rest u):PSs X (st::rest) (aaX t u):=by
 intro pins s σ H D I h;refine zzL (thn (h1 pins s σ H {D with nx:=u D} I h) λf z q=>?_)
 cases f with
 |next=>
  obtain⟨σ',H',I',q⟩:=q;exact h2 pins z σ' H' D I' q
 |ret v=>exact q
 |brk=>exact q
 |cont=>exact q
def fQ(h1:PS X st t):PSs X [st] t:=by
 intro pins s σ H D I h;refine zzL (thn (h1 pins s σ H D I h) λf z q=>?_)
 cases f with
 |next=>exact zzT q
 |ret v=>exact q
 |brk=>exact q
 |cont=>exact q
def Inv.quiet{pins:List (Addr×Obj)}{σ:St}{H:Hp}{s:Shared}(I:Inv X pins σ H s):interactive X.env=false:=by simp[interactive,I.ok.kind]
noncomputable def abt(te:TE):TS:=λD σ H=>te σ H λ_ H1=>D.nx σ H1
def gU(he:PE X e te)(hs:swapsWith e none pos.line X.env=pure false:=by rfl):PS X (.Expr e pos) (abt te):=by
 intro pins s σ H D I h;exact wpAny_Expr_any (thn (he pins s σ H _ I h) λv s1 ⟨x,H1,q,r1,z⟩=>⟨σ,H1,q,z⟩) I.quiet hs
noncomputable def aef(te:TE):TS:=λD σ H=>te σ H D.rt
def gj(he:PE X e te):PS X (.Return (some e) pos) (aef te):=by
 intro pins s σ H D I h;exact wpAny_Return_some (thn (he pins s σ H _ I h) λv s1 ⟨x,H1,q,r1,z⟩=>⟨x,σ,H1,q,r1,z⟩)
noncomputable def abu:TS:=λD _ H=>D.rt .non H
def ZJ:PS X (.Return none pos) abu:=λ_ _ σ H _ I h=>wpAny_Return_none ⟨.non,σ,H,I,rfl,h⟩
noncomputable def acS(c:TT)(t u:TS):TS:=λD σ H=>c σ H λb H1=>if b=true then t D σ H1 else u D σ H1
def iB{c:Expr}{a b:List Stmt}{tc:TT}(hc:PT X c tc)(ha:PSs X a t)(hb:PSs X b u):PS X (.If c a b pos) (acS tc t u):=by
 intro pins s σ H D I h;refine wpAny_If (thn (hc pins s σ H _ I h) λd z ⟨H1,I1,q⟩=>?_)
 cases d with
 |true=>exact ha pins z σ H1 D I1 q
 |false=>exact hb pins z σ H1 D I1 q
end
abbrev TG:=V->St->Hp->(St->Hp->Prop)->Prop
abbrev TGs:=List V->St->Hp->(St->Hp->Prop)->Prop
noncomputable def PG(X:Cx)(target:Expr)(t:TG):Prop:=
 ∀(pins:List (Addr×Obj)) (s:Shared) (σ:St) (H:Hp) (v:V) (u:Value) (Q:St->Hp->Prop),Inv X pins σ H s->RelV v u->t v σ H Q->
  wpAny (model X.prog X.w) X.A (assign target X.env u) (λ_ s'=>∃σ' H',Inv X pins σ' H' s'/\Q σ' H') X.xe s
noncomputable def PGs(X:Cx)(ts:List Expr)(t:TGs):Prop:=
 ∀(pins:List (Addr×Obj)) (s:Shared) (σ:St) (H:Hp) (vs:List V) (us:List Value) (Q:St->Hp->Prop),Inv X pins σ H s->Vals vs us->t vs σ H Q->
  wpAny (model X.prog X.w) X.A (assignInOrder ((assignEach ts X.env).map (·.2)) us) (λ_ s'=>∃σ' H',Inv X pins σ' H' s'/\Q σ' H') X.xe s
section
variable{X:Cx}{pos:Pos}
noncomputable def Fy(i:Nat):TG:=λv σ H Q=>Q (σ.set i (some v)) H
def gA{i:Nat}{x:Str}(q:X.N.Nodup)(hi:X.N[i]? =some x)(z:Loc X.env.scope x)(hf:X.fn x=true\/X.env.scope.names.lookup x=some .local:=by walk_at "p"):PG X (.Name x pos) (Fy i):=by
 intro pins s σ H v u Q I r h;exact wpAny_assign_Name (JT I q hi z r (λs' I'=>⟨_,H,I',h⟩) hf)
noncomputable def adP:TGs:=λvs σ H Q=>vs=[]/\Q σ H
noncomputable def acg(t:TG)(u:TGs):TGs:=λvs σ H Q=>∃v r,vs=v::r/\t v σ H λσ' H'=>u r σ' H' Q
def nP:PGs X [] adP:=by
 intro pins s σ H vs us Q I r h;obtain⟨e,h⟩:=h;subst e;cases r;exact assignInOrder_nil ⟨σ,H,I,h⟩
def gO{e:Expr}{es:List Expr}{t:TG}{u:TGs}(h1:PG X e t)(h2:PGs X es u)
  (hs:(assignEach (e::es) X.env).map (·.2)=assign e X.env::(assignEach es X.env).map (·.2):=by rfl):PGs X (e::es) (acg t u):=by
 intro pins s σ H vs us Q I r h;obtain⟨v,vr,e1,h⟩:=h;subst e1
 cases r with
 |cons r rr=>
  rw[hs];refine assignInOrder_cons (thn (h1 pins s σ H _ _ _ I r h) λ_ z ⟨q,H1,I1,q1⟩=>?_);exact h2 pins z q H1 _ _ Q I1 rr q1
noncomputable def ady(K:Fg_)(n:Nat)(t:TGs):TG:=λv σ H Q=>∃a xs,v=.ref a/\SqT K H a xs/\xs.length=n/\t xs σ H Q
def abx{es:List Expr}{k:Nat}{t:TGs}{n:Nat}(z:X.calm=true)(h:PGs X es t)
  (hn:(assignEach es X.env).length=n:=by rfl) (hst:(assignEach es X.env).findIdx? (·.1)=none:=by rfl):PG X (.Tuple es k pos) (ady X.K n t):=by
 intro pins s σ H v u Q I r hw;obtain⟨a,xs,e1,hq,hl,hw⟩:=hw;subst e1;cases r;obtain⟨its,q,ht,hz⟩:=I.tuple hq;refine assign_Tuple_tuple (I.ok.hd z) ht (by simp[hn,<-hl,q.length]) hst λh' hx=>?_;have I1:Inv X pins σ H {s with heap:=h'}:=I.kept (t':=s.toks) λb o e=>hx b o (zK (zu e)) e;exact h pins _ σ H xs _ Q I1 (by simpa using q) hw
noncomputable def abz(te:TE)(g:TG):TS:=λD σ H=>te σ H λx H1=>g x σ H1 D.nx
def QQ{tg e:Expr}{te:TE}{g:TG}(he:PE X e te)(hg:PG X tg g)(hs:swapsWithSole [tg] e pos.line X.env=pure false:=by rfl)(hw:swappedStores [tg] e X.env=pure none:=by rfl)
  (h1:(assignEach [tg] X.env).map (·.2)=[assign tg X.env]:=by rfl):PS X (.Assign [tg] e pos) (abz te g):=by
 intro pins s σ H D I h;refine wpAny_Assign_stores (thn (he pins s σ H _ I h) λv z ⟨x,H1,I1,r1,q1⟩=>?_) hs hw;rw[h1];exact thn (hg pins z σ H1 x v _ I1 r1 q1) λ_ s2 q=>q
def gn{i:Nat}{x:Str}{e:Expr}{te:TE}{pos':Pos}(z:X.N.Nodup)(hi:X.N[i]? =some x)(hx:Loc X.env.scope x)(he:PE X e te)(hs:swapsWith e (some (.Name x pos')) pos.line X.env=pure false:=by rfl)(hf:X.fn x=true\/X.env.scope.names.lookup x=some .local:=by walk_at "p"):
  PS X (.Assign [.Name x pos'] e pos) (abz te (Fy i)):=by
 intro pins s σ H D I h;refine wpAny_Assign_Name (thn (he pins s σ H _ I h) λv s1 ⟨y,H1,I1,r1,q1⟩=>?_) hs;exact JT I1 z hi hx r1 (λs2 q=>⟨_,H1,q,q1⟩) hf
end
structure It where
 go:Nat->Hp->Prop
 yld:Nat->Hp->V->Hp->Prop
 stop:Nat->Hp->Prop
noncomputable def UV(X:Cx)(pins:List (Addr×Obj))(H:Hp)(b:Addr):Prop:=
 H b=none/\b≠X.env.locals/\b∉X.fs/\(b∈X.ex\/X.s₀.heap.objs.size<=b)/\(∀x c,X.env.cells.lookup x=some c->c≠b)/\∀p∈X.pn++pins,p.1≠b
def Inv.fpOk{X:Cx}{pins:List (Addr×Obj)}{σ:St}{H H':Hp}{s:Shared}{b:Addr}(I:Inv X pins σ H s)(hb:s.heap.objs.size<=b)(hn:H' b=none):UV X pins H' b:=by
 refine⟨hn,zzY (zL I.lt hb),I.nofs hb,.inr (zF I.sz hb),λx c e z=>?_,λp hp z=>?_⟩
 ·obtain⟨v,q⟩:=I.cell x c e
  exact absurd (zL q.lt (by rw[z];exact hb)) (yh _)
 ·exact absurd (zL (zu (I.pin p hp).1) (by rw[z];exact hb)) (yh _)
structure Turn(P:Program)(w:World)(K:Fg_)(tg:Expr)(J:It)(fp:List Addr)(it:Addr)(tn:Nat->Heap->Prop):Prop where
 mem:it∈fp
 obj:∀i h,tn i h->∀b∈fp,∃o,h.get? b=some o/\∀v,o.data≠.cell v
 keep:∀i h h',tn i h->(∀b∈fp,∀o,h.get? b=some o->h'.get? b=some o)->tn i h'
 item:∀(X:Cx),X.prog=P->X.w=w->X.K=K->X.calm=true->∀(i:Nat)(pins:List (Addr×Obj))(s:Shared)(σ:St)(H:Hp)(E:Value->Shared->Prop),Inv X pins σ H s->(∀b∈fp,UV X pins H b)->tn i s.heap->J.go i H->
  wpAny (model P w) X.A (pyNext (.ref it)) (λr s1=>∃u,r=some u/\
   wpAny (model P w) X.A (letOwnedTupleGo tg (.ref it) u) (λ_ s2=>∃x H',Inv X pins σ H' s2/\RelV x u/\J.yld i H x H'/\tn (i+1) s2.heap/\∀b∈fp,H' b=none) E s1) E s
 done:∀(X:Cx),X.prog=P->X.w=w->X.K=K->X.calm=true->∀(i:Nat)(pins:List (Addr×Obj))(s:Shared)(σ:St)(H:Hp)(E:Value->Shared->Prop),Inv X pins σ H s->(∀b∈fp,UV X pins H b)->tn i s.heap->J.stop i H->
  wpAny (model P w) X.A (pyNext (.ref it)) (λr s1=>r=none/\Inv X pins σ H s1) E s
 self:∀(A:Around)(i:Nat)(s:Shared)(Q:Value->Shared->Prop)(E:Value->Shared->Prop),tn i s.heap->Q (.ref it) s->wpAny (model P w) A (pyIter (.ref it)) Q E s
abbrev TI:=St->Hp->(It->Hp->Prop)->Prop
noncomputable def PIE(X:Cx)(pins:List (Addr×Obj))(σ:St)(tg:Expr)(R:It->Hp->Prop)(itv:Value)(s2:Shared):Prop:=
 ∃(it:Addr)(fp:List Addr)(tn:Nat->Heap->Prop)(J:It)(H':Hp),itv=.ref it/\Inv X pins σ H' s2/\Turn X.prog X.w X.K tg J fp it tn/\tn 0 s2.heap/\(∀b∈fp,UV X pins H' b)/\R J H'
noncomputable def PI(X:Cx)(tg iter:Expr)(wi:TI):Prop:=
 ∀(pins:List (Addr×Obj)) (s:Shared) (σ:St) (H:Hp) (R:It->Hp->Prop),Inv X pins σ H s->wi σ H R->
  wpAny (model X.prog X.w) X.A (eval iter X.env) (λv s1=>wpAny (model X.prog X.w) X.A (pyIter v) (PIE X pins σ tg R) X.xe s1) X.xe s
def TQ{M:Model}{A:Around}{E:Value->Shared->Prop}{s:Shared}{tg:Expr}{z:Addr}{u:Value}{o:Obj}{n:String}{vs:Array Value}{Q:Unit->Shared->Prop}(ho:s.heap.get? z=some o)(hc:o.cls=.type n)(hd:o.data=.fields vs)
  (hn:["enumerate", "zip", "dict_itemiterator", "dict_reverseitemiterator", "odict_iterator", "itertools.zip_longest", "itertools.pairwise"].contains n=false) (q:Q () s):wpAny M A (letOwnedTupleGo tg (.ref z) u) Q E s:=by
 unfold letOwnedTupleGo
 cases tg<;>first
  |exact zq q
  | (cases u<;>first
    |exact zq q
    | (refine zf (wpAny_load ho ?_)
       rw[hc,hd];show wpAny M A (if(["enumerate", "zip", "dict_itemiterator", "dict_reverseitemiterator", "odict_iterator", "itertools.zip_longest", "itertools.pairwise"].contains n && vs[0]? ==some (rawInt _))=true then _ else _) Q E s;rw[zk (by intro h;rw[hn,Bool.false_and]at h;cases h)];exact zq q))
noncomputable def Itl(K:Fg_)(a:Addr):It:=
 ⟨λi H=>∃xs x,SqL K H a xs/\xs[i]? =some x,λi H x H'=>H'=H/\∀xs,SqL K H a xs->xs[i]? =some x,λi H=>∃xs,SqL K H a xs/\xs.length<=i⟩
noncomputable def Itt(K:Fg_)(a:Addr):It:=
 ⟨λi H=>∃xs x,SqT K H a xs/\xs[i]? =some x,λi H x H'=>H'=H/\∀xs,SqT K H a xs->xs[i]? =some x,λi H=>∃xs,SqT K H a xs/\xs.length<=i⟩
noncomputable def Itr(lo:Int)(n:Nat):It:=⟨λi _=>i<n,λi H x H'=>H'=H/\x=.int (lo+i),λi _=>n<=i⟩
def Wx{P:Program}{w:World}{K:Fg_}{tg:Expr}(a q:Addr):Turn P w K tg (Itl K a) [q] q (λi h=>h.IsListIter q a i) where
 mem:=by simp
 obj:=λi h st b hb=>by
  have e:b=q:=by simpa using hb
  subst e;obtain⟨o,e,c,d⟩:=st;exact⟨o,e,λv z=>by rw[d]at z;cases z⟩
 keep:=λi h h' st k=>st.at λo e=>k q (by simp) o e
 item:=by
  intro X hP hw hK hc i pins s σ H E I hf st hg;subst hP hw hK;obtain⟨xs,x,hq,hx⟩:=hg;obtain⟨its,rv,p,hz⟩:=I.list hq;obtain⟨u,hu,ru⟩:=rv.get hx;obtain⟨f0,f1,f2,f3,f4,f5⟩:=hf q (by simp);refine wpAny_pyNext_list_item st p.isList (x:=u) (by simpa using hu) λh' aa sb=>?_;have I1:Inv X pins σ H {s with heap:=h'}:=I.turned (t':=s.toks) (λb o hb e=>(sb.2 b hb).trans e) f0 f1 f3 f4 f5;obtain⟨o,e,c,d⟩:=id aa;exact⟨u,rfl,TQ (s:={s with heap:=h'}) e c d (by decide) ⟨x,H,I1,ru,⟨rfl,λys hy=>by rw[I.list_inj hy hq];exact hx⟩,aa,λb hb=>(hf b hb).1⟩⟩
 done:=by
  intro X hP hw hK hc i pins s σ H E I hf st hg;subst hP hw hK;obtain⟨xs,hq,hx⟩:=hg;obtain⟨its,rv,p,hz⟩:=I.list hq;obtain⟨f0,f1,f2,f3,f4,f5⟩:=hf q (by simp);have hl:=rv.length;exact wpAny_pyNext_list_end (I.ok.hd hc) st p.isList (by simp;lia) λh' eb=>⟨rfl,I.turned (t':=s.toks) (λb o hb e=>eb b o hb e) f0 f1 f3 f4 f5⟩
 self:=λ_ _ _ _ _ st h=>wpAny_pyIter_listiter st h
def Ss{P:Program}{w:World}{K:Fg_}{tg:Expr}(a q:Addr):Turn P w K tg (Itt K a) [q] q (λi h=>h.IsTupleIter q a i) where
 mem:=by simp
 obj:=λi h st b hb=>by
  have e:b=q:=by simpa using hb
  subst e;obtain⟨o,e,c,d⟩:=st;exact⟨o,e,λv z=>by rw[d]at z;cases z⟩
 keep:=λi h h' st k=>st.at λo e=>k q (by simp) o e
 item:=by
  intro X hP hw hK hc i pins s σ H E I hf st hg;subst hP hw hK;obtain⟨xs,x,hq,hx⟩:=hg;obtain⟨its,rv,p,hz⟩:=I.tuple hq;obtain⟨u,hu,ru⟩:=rv.get hx;obtain⟨f0,f1,f2,f3,f4,f5⟩:=hf q (by simp);refine wpAny_pyNext_tuple_item st (show s.heap.IsTuple a its.toArray from p) (x:=u) (by simpa using hu) λh' aa sb=>?_;have I1:Inv X pins σ H {s with heap:=h'}:=I.turned (t':=s.toks) (λb o hb e=>(sb.2 b hb).trans e) f0 f1 f3 f4 f5;obtain⟨o,e,c,d⟩:=id aa;exact⟨u,rfl,TQ (s:={s with heap:=h'}) e c d (by decide) ⟨x,H,I1,ru,⟨rfl,λys hy=>by rw[I.tuple_inj hy hq];exact hx⟩,aa,λb hb=>(hf b hb).1⟩⟩
 done:=by
  intro X hP hw hK hc i pins s σ H E I hf st hg;subst hP hw hK;obtain⟨xs,hq,hx⟩:=hg;obtain⟨its,rv,p,hz⟩:=I.tuple hq;obtain⟨f0,f1,f2,f3,f4,f5⟩:=hf q (by simp);have hl:=rv.length;exact wpAny_pyNext_tuple_end (I.ok.hd hc) st (show s.heap.IsTuple a its.toArray from p) (by simp;lia) λh' eb=>⟨rfl,I.turned (t':=s.toks) (λb o hb e=>eb b o hb e) f0 f1 f3 f4 f5⟩
 self:=λ_ _ _ _ _ st h=>wpAny_pyIter_tupleiter st h
def RV{P:Program}{w:World}{K:Fg_}{tg:Expr}(q:Addr)(lo:Int)(n:Nat):Turn P w K tg (Itr lo n) [q] q (λi h=>IsRangeIter h q (lo+(i:Nat)*1) ((n:Int) - (i:Nat)) 1) where
 mem:=by simp
 obj:=λi h st b hb=>by
  have e:b=q:=by simpa using hb
  subst e
  exact ⟨_,st,λv z=>by
   have z':Data.fields _=Data.cell v:=z;cases z'⟩
 keep:=λi h h' st k=>k q (by simp) _ st
 item:=by
  intro X hP hw hK hc i pins s σ H E I hf st hg;subst hP hw hK;obtain⟨f0,f1,f2,f3,f4,f5⟩:=hf q (by simp);have W:=Walks.range (prog:=X.prog) (w:=X.w) (I.ok.hd hc) q lo 1 n;refine W.item i s _ _ hg st λv h' tk hv aa kk=>?_;obtain⟨t,rfl⟩:=hv;have I1:Inv X pins σ H {s with heap:=h',toks:=tk}:=I.turned (λb o hb e=>kk b o (by simpa using hb) e) f0 f1 f3 f4 f5;refine⟨_,rfl,TQ (s:={s with heap:=h',toks:=tk}) (n:= "range_iterator") aa rfl rfl (by decide) ⟨.int (lo+i),H,I1,⟨t,?_⟩,⟨rfl,rfl⟩,aa,λb hb=>(hf b hb).1⟩⟩;rw[Int.mul_one]
 done:=by
  intro X hP hw hK hc i pins s σ H E I hf st hg;subst hP hw hK;obtain⟨f0,f1,f2,f3,f4,f5⟩:=hf q (by simp);exact wpAny_pyNext_range_end (I.ok.hd hc) st (by have:n<=i:=hg;lia) λh' eb=>⟨rfl,I.turned (t':=s.toks) (λb o hb e=>eb b o hb e) f0 f1 f3 f4 f5⟩
 self:=λ_ _ _ _ _ st h=>wpAny_pyIter_rangeiter st h
end L2
namespace L2
open PySem PySem.Spec PyProof.Rows
section
variable{X:Cx}{tg:Expr}
noncomputable def SQ(K:Fg_)(tl:TE):TI:=λσ H R=>tl σ H λx H1=>∃a,x=.ref a/\(∃xs,SqL K H1 a xs)/\R (Itl K a) H1
noncomputable def adA(K:Fg_)(tl:TE):TI:=λσ H R=>tl σ H λx H1=>∃a,x=.ref a/\(∃xs,SqT K H1 a xs)/\R (Itt K a) H1
def aar{l:Expr}{tl:TE}(hl:PE X l tl):PI X tg l (SQ X.K tl):=by
 intro pins s σ H R I h;refine thn (hl pins s σ H _ I h) λv z ⟨x,H1,I1,r1,q1⟩=>?_;obtain⟨a,e,⟨xs,hq⟩,q⟩:=q1;subst e;cases r1;obtain⟨its,rv,p,hz⟩:=I1.list hq;refine yW p.isList ?_;refine⟨z.heap.objs.size,[z.heap.objs.size],_,_,H1,rfl,I1.kept (t':=z.toks) λb o e=>zd _ e,Wx a _,⟨_,zN _ rfl,rfl,rfl⟩,λb hb=>?_,q⟩;have e:b=z.heap.objs.size:=by simpa using hb
 subst e;exact I1.fpOk (ze _) (I1.hok.fresh (ze _))
def acD{l:Expr}{tl:TE}(hl:PE X l tl):PI X tg l (adA X.K tl):=by
 intro pins s σ H R I h;refine thn (hl pins s σ H _ I h) λv z ⟨x,H1,I1,r1,q1⟩=>?_;obtain⟨a,e,⟨xs,hq⟩,q⟩:=q1;subst e;cases r1;obtain⟨its,rv,p,hz⟩:=I1.tuple hq;refine wpAny_pyIter_tuple (show z.heap.IsTuple a its.toArray from p) ?_;refine⟨z.heap.objs.size,[z.heap.objs.size],_,_,H1,rfl,I1.kept (t':=z.toks) λb o e=>zd _ e,Ss a _,⟨_,zN _ rfl,rfl,rfl⟩,λb hb=>?_,q⟩;have e:b=z.heap.objs.size:=by simpa using hb
 subst e;exact I1.fpOk (ze _) (I1.hok.fresh (ze _))
def Xo{pins:List (Addr×Obj)}{σ:St}{H:Hp}{s:Shared}{R:It->Hp->Prop}{E:Value->Shared->Prop}{lo hi:Int}{t u v:Tok}{tk:Nat}(I:Inv X pins σ H s)(h1: -(2^62)<=lo)(h2:lo<2^62)(h3: -(2^62)<=hi)(h4:hi<2^62)
  (q:R (Itr lo (hi - lo).toNat) H):wpAny (model X.prog X.w) X.A (pyIter (.ref s.heap.objs.size)) (PIE X pins σ tg R) E {s with heap:=s.heap.push {cls:=.type "range",data:=.fields #[.int lo t,.int hi u,.int 1 v]},toks:=tk}:=by
 refine wpAny_pyIter_range (IsRange.new ..) (small_one h1 h2 h3 h4) ?_;have z:Inv X pins σ H {s with heap:=s.heap.push {cls:=.type "range",data:=.fields #[.int lo t,.int hi u,.int 1 v]},toks:=tk}:=I.kept λb o e=>zd _ e
 refine ⟨(s.heap.push {cls:=.type "range",data:=.fields #[.int lo t,.int hi u,.int 1 v]}).objs.size,[(s.heap.push {cls:=.type "range",data:=.fields #[.int lo t,.int hi u,.int 1 v]}).objs.size],_,_,H,rfl,
  z.kept (t':=tk) λb o e=>zd _ e,RV _ lo (hi - lo).toNat,?_,λb hb=>?_,q⟩
 ·have e1:lo+((0:Nat):Int)*1=lo:=by simp
  have e2:(((hi - lo).toNat:Nat):Int) - ((0:Nat):Int)=Builtin.Range.rangeSize lo hi 1:=by rw[rangeSize_one];split<;>lia
  show IsRangeIter _ _ (lo+((0:Nat):Int)*1) ((((hi - lo).toNat:Nat):Int) - ((0:Nat):Int)) 1;rw[e1,e2];exact zN _ rfl
 ·have e:b=(s.heap.push {cls:=.type "range",data:=.fields #[.int lo t,.int hi u,.int 1 v]}).objs.size:=by simpa using hb
  subst e;exact z.fpOk (ze _) (z.hok.fresh (ze _))
noncomputable def abY(ta:TA):TI:=λσ H R=>ta σ H λvs H1=>∃j:Int,vs=[.int j]/\ -(2^62)<=j/\j<2^62/\R (Itr 0 j.toNat) H1
def wY{a:Expr}{ta:TA}{p pos:Pos}(hg:Gl X "range") (hm:X.mg "range" =none) (ha:PA X [a] ta) (hs:starEach [a] X.env=[(false,eval a X.env)]:=by rfl):PI X tg (.Call (.Name "range" p) [a] [] pos) (abY ta):=by
 intro pins s σ H R I h;refine Call_ (Et I hg hm boot_range (PyProof.Rows.callWith_type1 (thn (ha pos pins s σ H _ I h) λus s1 ⟨vs,H1,I1,r1,z⟩=>?_) hs rfl));obtain⟨j,e,z,q2,q⟩:=z;subst e
 cases r1 with
 |cons r rr=>
  cases rr;obtain⟨t,rfl⟩:=r;exact call_range_1 (Xo I1 (by lia) (by lia) z q2 (by simpa using q))
noncomputable def ada(wi:TI)(g:TG)(tb:TS):TS:=λD σ H=>wi σ H λJ H1=>∃W:Nat->Nat->St->Hp->Prop,(∃m,W 0 m σ H1)/\∀i m σ H,W i m σ H->
 (J.stop i H/\D.nx σ H)\/(J.go i H/\∃N:St->Hp->Prop,(∀σ' H',N σ' H'->∃m',m'<m/\W (i+1) m' σ' H')/\∀x H',J.yld i H x H'->g x σ H' λσ2 H2=>tb {D with nx:=N,ct:=N,bk:=D.nx} σ2 H2)
noncomputable def Nt(fp:List Addr)(h:Heap):List (Addr×Obj):=fp.filterMap λb=>(h.get? b).map λo=>(b,o)
def xg{q:List Addr}{h:Heap}{b:Addr}{o:Obj}(hb:b∈q)(e:h.get? b=some o):(b,o)∈Nt q h:=yc.mpr ⟨b,hb,by rw[e];rfl⟩
def Uy{z:List Addr}{h:Heap}{p:Addr×Obj}(hp:p∈Nt z h):p.1∈z/\h.get? p.1=some p.2:=by
 obtain⟨b,hb,e⟩:=yc.mp hp
 cases q:h.get? b with
 |none=>rw[q]at e;cases e
 |some o=>
  rw[q]at e;have e':(b,o)=p:=zt e;subst e';exact⟨hb,q⟩
def Inv.pinned{pins:List (Addr×Obj)}{σ:St}{H:Hp}{s:Shared}{q:List Addr}(I:Inv X pins σ H s)(hf:∀b∈q,UV X pins H b)(ho:∀b∈q,∃o,s.heap.get? b=some o/\∀v,o.data≠.cell v):Inv X (pins++Nt q s.heap) σ H s:=
 I.pins_of λp hp=>(zG.mp hp).elim (λz=>I.pin p (zM _ z)) λz=>by
  obtain⟨hb,e⟩:=Uy z;obtain⟨f0,f1,f2,_⟩:=hf p.1 hb;obtain⟨o,e',d⟩:=ho p.1 hb;rw[e]at e';cases e';exact⟨e,f0,f1,f2,d⟩
def Inv.unpinned{pins pl:List (Addr×Obj)}{σ:St}{H:Hp}{s:Shared}(I:Inv X (pins++pl) σ H s):Inv X pins σ H s:=I.pins_of λp hp=>I.pin p (zM _ (yB _ hp))
def wj{iter:Expr}{ab:List Stmt}{wi:TI}{g:TG}{tb:TS}{pos:Pos}(hp:PassesOwn (model X.prog X.w) X.A X.env X.xe)(hc:X.calm=true)(hi:PI X tg iter wi)(hg:PG X tg g)(hb:PSs X ab tb)
  (hs:∀x,foldedSetIterable iter X.env x=pure x:=by intro _;rfl):PS X (.For tg iter ab [] pos) (ada wi g tb):=by
 intro pins s σ H D I h;refine wpAny_For (thn (hi pins s σ H _ I h) λv s1 h1=>thn h1 λaj s2 h2=>?_) hs;obtain⟨it,fp,tn,J,H2,e,I2,T,ai,f2,W,⟨m0,w0⟩,af⟩:=h2;subst e;have z:∀{H':Hp},(∀b∈fp,H' b=none)->∀b∈fp,UV X pins H' b:=λhn b hb=>⟨hn b hb,(f2 b hb).2⟩;refine codeAny_forLoop_any (λn s'=>∃i σ' H',Inv X pins σ' H' s'/\tn i s'.heap/\(∀b∈fp,H' b=none)/\W i n σ' H') ?_ m0 ⟨0,σ,H2,I2,ai,λb hb=>(f2 b hb).1,w0⟩;rintro n s3 ⟨i,σ3,H3,I3,ag,ad,w3⟩;rcases af i n σ3 H3 w3 with⟨stop,qn⟩|⟨go,N,hN,ae⟩
 ·refine zzt hp (thn (T.done X rfl rfl rfl hc i pins s3 σ3 H3 X.xe I3 (z ad) ag stop) λr s4 ⟨hr,I4⟩=>?_)
  subst hr;exact zzT ⟨σ3,H3,I4,qn⟩
 ·refine zzt hp (thn (T.item X rfl rfl rfl hc i pins s3 σ3 H3 X.xe I3 (z ad) ag go) λr s4 ⟨u,hr,h4⟩=>?_)
  subst hr;refine zzt hp (thn h4 λ_ s5 ⟨x,H5,I5,r5,y5,ac,ah⟩=>?_);have I5':=I5.pinned (z ah) (T.obj _ _ ac);refine zzt hp (thn (hg _ s5 σ3 H5 x u _ I5' r5 (ae x H5 y5)) λ_ s6 ⟨σ6,H6,I6,q6⟩=>?_);refine zzt hp (thn (hb _ s6 σ6 H6 _ I6 q6) λf s7 q7=>?_)
  have aa:∀{q:St}{H7:Hp},Inv X (pins++Nt fp s5.heap) q H7 s7->N q H7->∃m,m<n/\∃i σ' H',Inv X pins σ' H' s7/\tn i s7.heap/\(∀b∈fp,H' b=none)/\W i m σ' H':=fun{q H7} I7 n7=>by
   obtain⟨m',hm,w7⟩:=hN q H7 n7;refine⟨m',hm,i+1,q,H7,I7.unpinned,T.keep _ _ _ ac λb hb o e=>(I7.pin (b,o) (zM _ (zM _ (xg hb e)))).1,λb hb=>?_,w7⟩;obtain⟨o,e,d⟩:=T.obj _ _ ac b hb;exact(I7.pin (b,o) (zM _ (zM _ (xg hb e)))).2.1
  cases f with
  |next=>obtain⟨q,H7,I7,n7⟩:=q7;exact aa I7 n7
  |cont=>obtain⟨q,H7,I7,n7⟩:=q7;exact aa I7 n7
  |brk=>obtain⟨q,H7,I7,q7⟩:=q7;exact⟨q,H7,I7.unpinned,q7⟩
  |ret v=>obtain⟨x7,q,H7,I7,r7,q7⟩:=q7;exact⟨x7,q,H7,I7.unpinned,r7,q7⟩
end
def Xb{K:Fg_}{a:Addr}{xs:List V}{g:TG}{tb:TS}{D:Ends}{σ:St}{H:Hp}(z:Nat->St->Hp->Prop)(h0:z 0 σ H)(hl:∀i σ H,i<=xs.length->z i σ H->SqL K H a xs)
  (hs:∀i x σ H,xs[i]? =some x->z i σ H->g x σ H λσ2 H2=>tb {D with nx:=z (i+1),ct:=z (i+1),bk:=D.nx} σ2 H2) (hd:∀σ H,z xs.length σ H->D.nx σ H):
  ∃W:Nat->Nat->St->Hp->Prop,(∃m,W 0 m σ H)/\∀i m σ H,W i m σ H->
   ((Itl K a).stop i H/\D.nx σ H)\/((Itl K a).go i H/\∃N:St->Hp->Prop,(∀σ' H',N σ' H'->∃m',m'<m/\W (i+1) m' σ' H')/\∀x H',(Itl K a).yld i H x H'->g x σ H' λσ2 H2=>tb {D with nx:=N,ct:=N,bk:=D.nx} σ2 H2):=by
 refine⟨λi m σ H=>m=xs.length - i/\i<=xs.length/\z i σ H,⟨xs.length,by simp,zQ _,h0⟩,?_⟩;rintro i m σ H ⟨rfl,hi,p⟩;have q:=hl i σ H hi p;by_cases aa:i<xs.length
 ·refine .inr ⟨⟨xs,xs[i],q,by simp[aa]⟩,z (i+1),λσ' H' p'=>⟨xs.length - (i+1),by lia,rfl,aa,p'⟩,λx H' y=>?_⟩
  obtain⟨e,y⟩:=y;subst e;exact hs i x σ _ (y xs q) p
 ·have e:i=xs.length:=by lia
  subst e;exact .inl ⟨⟨xs,q,ze _⟩,hd σ H p⟩
def VB{lo:Int}{n:Nat}{g:TG}{tb:TS}{D:Ends}{σ:St}{H:Hp}(q:Nat->St->Hp->Prop)(h0:q 0 σ H)
  (hs:∀i σ H,i<n->q i σ H->g (.int (lo+i)) σ H λσ2 H2=>tb {D with nx:=q (i+1),ct:=q (i+1),bk:=D.nx} σ2 H2) (hd:∀σ H,q n σ H->D.nx σ H):
  ∃W:Nat->Nat->St->Hp->Prop,(∃m,W 0 m σ H)/\∀i m σ H,W i m σ H->
   ((Itr lo n).stop i H/\D.nx σ H)\/((Itr lo n).go i H/\∃N:St->Hp->Prop,(∀σ' H',N σ' H'->∃m',m'<m/\W (i+1) m' σ' H')/\∀x H',(Itr lo n).yld i H x H'->g x σ H' λσ2 H2=>tb {D with nx:=N,ct:=N,bk:=D.nx} σ2 H2):=by
 refine⟨λi m σ H=>m=n - i/\i<=n/\q i σ H,⟨n,by simp,zQ _,h0⟩,?_⟩;rintro i m σ H ⟨rfl,hi,p⟩;by_cases z:i<n
 ·refine .inr ⟨z,q (i+1),λσ' H' p'=>⟨n - (i+1),by lia,rfl,z,p'⟩,λx H' y=>?_⟩
  obtain⟨e,y⟩:=y;subst e y;exact hs i σ _ z p
 ·have e:i=n:=by lia
  subst e;exact .inl ⟨ze _,hd σ H p⟩
end L2
namespace L2
open PySem PySem.Spec PyProof.Rows
abbrev R2:=V->V->Hp->VK->Prop
noncomputable def OpR(X:Cx)(f:Value->Value->Sem Value)(r:R2):Prop:=
 ∀(pins:List (Addr×Obj)) (s:Shared) (σ:St) (H:Hp) (x y:V) (v u:Value) (Q:VK),Inv X pins σ H s->RelV x v->RelV y u->r x y H Q->
  wpAny (model X.prog X.w) X.A (f v u) (EP X pins σ Q) X.xe s
noncomputable def UnR(X:Cx)(f:Value->Sem Value)(r:V->Hp->VK->Prop):Prop:=
 ∀(pins:List (Addr×Obj)) (s:Shared) (σ:St) (H:Hp) (x:V) (v:Value) (Q:VK),Inv X pins σ H s->RelV x v->r x H Q->
  wpAny (model X.prog X.w) X.A (f v) (EP X pins σ Q) X.xe s
noncomputable def lX(X:Cx)(f:Value)(r:List V->Hp->VK->Prop):Prop:=
 ∀(pins:List (Addr×Obj)) (s:Shared) (σ:St) (H:Hp) (xs:List V) (us:List Value) (Q:VK),Inv X pins σ H s->Vals xs us->r xs H Q->
  wpAny (model X.prog X.w) X.A (call f us) (EP X pins σ Q) X.xe s
noncomputable def tOp(r:R2)(ta tb:TE):TE:=λσ H Q=>ta σ H λx H1=>tb σ H1 λy H2=>r x y H2 Q
noncomputable def tUn(r:V->Hp->VK->Prop)(ta:TE):TE:=λσ H Q=>ta σ H λx H1=>r x H1 Q
noncomputable def rI(C:Int->Int->Prop)(g:Int->Int->V):R2:=λx y H Q=>∃i j,x=.int i/\y=.int j/\C i j/\Q (g i j) H
noncomputable def rI0(g:Int->Int->V):R2:=λx y H Q=>∃i j,x=.int i/\y=.int j/\Q (g i j) H
noncomputable def rU(g:Int->V):V->Hp->VK->Prop:=λx H Q=>∃i,x=.int i/\Q (g i) H
section
variable{X:Cx}{a b c:Expr}{ta tb tc:TE}{pos:Pos}
def adi(ha:PE X a ta)(hb:PE X b tb){pins:List (Addr×Obj)}{s:Shared}{σ:St}{H:Hp}{R:V->V->Hp->Prop}(I:Inv X pins σ H s)
  (h:ta σ H λx H1=>tb σ H1 λy H2=>R x y H2) {Q:Value->Shared->Prop} {f:Value->Value->Sem Value}
  (hf:∀v u q x y H2,Inv X pins σ H2 q->RelV x v->RelV y u->R x y H2->wpAny (model X.prog X.w) X.A (f v u) Q X.xe q):
  wpAny (model X.prog X.w) X.A (eval a X.env) (λv s₁=>wpAny (model X.prog X.w) X.A (eval b X.env) (λu s₂=>wpAny (model X.prog X.w) X.A (f v u) Q X.xe s₂) X.xe s₁) X.xe s:=by
 refine thn (ha pins s σ H _ I h) λv s1 ⟨x,H1,I1,r1,q1⟩=>?_;refine thn (hb pins s1 σ H1 _ I1 q1) λu q ⟨y,H2,z,r2,q2⟩=>?_;exact hf v u q x y H2 z r1 r2 q2
def fW{z:Operator}{r:R2}(ho:OpR X (binaryOp z) r)(ha:PE X a ta)(hb:PE X b tb):PE X (.BinOp a z b pos) (tOp r ta tb):=by
 intro pins s σ H Q I h;exact wpAny_BinOp (adi ha hb I h λv u s2 x y H2 I2 rx ry q=>ho pins s2 σ H2 x y v u Q I2 rx ry q)
def Va{q:UnaryOp}{r:V->Hp->VK->Prop}(ho:UnR X (unaryOp q) r)(ha:PE X a ta):PE X (.UnaryOp q a pos) (tUn r ta):=by
 intro pins s σ H Q I h;exact UnaryOp_ (thn (ha pins s σ H _ I h) λv z ⟨x,H1,I1,r1,q1⟩=>ho pins z σ H1 x v Q I1 r1 q1)
def opI{f:Value->Value->Sem Value}{C:Int->Int->Prop}{g:Int->Int->Int}
  (z:∀(i j:Int)(t u:Tok)(s:Shared)(Q:Value->Shared->Prop)(E:Value->Shared->Prop),C i j->Q (.int (g i j) s.toks) {s with toks:=s.toks+1}->wpAny (model X.prog X.w) X.A (f (.int i t) (.int j u)) Q E s):
  OpR X f (rI C λi j=> .int (g i j)):=by
 intro pins s σ H x y v u Q I rx ry h;obtain⟨i,j,rfl,rfl,hc,q⟩:=h;obtain⟨t,rfl⟩:=rx;obtain⟨t',rfl⟩:=ry;exact z i j t t' s _ _ hc ⟨.int (g i j),H,I.tok _,⟨_,rfl⟩,q⟩
def adZ{f:Value->Value->Sem Value}{g:Int->Int->Int}
  (z:∀(i j:Int)(t u:Tok)(s:Shared)(Q:Value->Shared->Prop)(E:Value->Shared->Prop),Q (.int (g i j) s.toks) {s with toks:=s.toks+1}->wpAny (model X.prog X.w) X.A (f (.int i t) (.int j u)) Q E s):
  OpR X f (rI0 λi j=> .int (g i j)):=by
 intro pins s σ H x y v u Q I rx ry h;obtain⟨i,j,rfl,rfl,q⟩:=h;obtain⟨t,rfl⟩:=rx;obtain⟨t',rfl⟩:=ry;exact z i j t t' s _ _ ⟨.int (g i j),H,I.tok _,⟨_,rfl⟩,q⟩
def adf{f:Value->Value->Sem Value}{g:Int->Int->Bool}
  (z:∀(i j:Int)(t u:Tok)(s:Shared)(Q:Value->Shared->Prop)(E:Value->Shared->Prop),Q (.bool (g i j)) s->wpAny (model X.prog X.w) X.A (f (.int i t) (.int j u)) Q E s):
  OpR X f (rI0 λi j=> .bl (g i j)):=by
 intro pins s σ H x y v u Q I rx ry h;obtain⟨i,j,rfl,rfl,q⟩:=h;obtain⟨t,rfl⟩:=rx;obtain⟨t',rfl⟩:=ry;exact z i j t t' s _ _ ⟨.bl (g i j),H,I,rfl,q⟩
noncomputable def abp(i j:Int):Prop:=0<=j/\j<=1000000/\i.natAbs<2^64
noncomputable def adI(i j:Int):Prop:=(-(2^64)<i/\i<2^64)\/(-(2^64)<j/\j<2^64)
def adI.ok{i j:Int}(h:adI i j):IntMulOk i j:=by
 rcases h with⟨h1,h2⟩|⟨h1,h2⟩
 ·exact .of_left (intBits_le_64 h1 h2)
 ·exact .of_right (intBits_le_64 h1 h2)
def iz:OpR X (binaryOp .Add) (rI0 λi j=> .int (i+j)):=adZ λ_ _ _ _ _ _ _ q=>add_int q
def Hv:OpR X (binaryOp .Sub) (rI0 λi j=> .int (i - j)):=adZ λ_ _ _ _ _ _ _ q=>sub_int q
def gY:OpR X (binaryOp .Mod) (rI (λ_ j=>0<j) λi j=> .int (i%j)):=opI λi j _ _ _ _ _ z q=>by
 have h1:(0:Int)<j:=z;exact mod_int' (by lia) (by rw[Int.fmod_eq_emod_of_nonneg i (by lia)];exact q)
def jg:OpR X (binaryOp .Pow) (rI abp λi j=> .int (i^j.toNat)):=opI λ_ _ _ _ _ _ _ z q=>pow_int_small z.1 z.2.1 z.2.2 q
def unI{f:Value->Sem Value}{g:Int->Int}
  (z:∀(i:Int)(t:Tok)(s:Shared)(Q:Value->Shared->Prop)(E:Value->Shared->Prop),Q (.int (g i) s.toks) {s with toks:=s.toks+1}->wpAny (model X.prog X.w) X.A (f (.int i t)) Q E s):
  UnR X f (rU λi=> .int (g i)):=by
 intro pins s σ H x v Q I rx h;obtain⟨i,rfl,q⟩:=h;obtain⟨t,rfl⟩:=rx;exact z i t s _ _ ⟨.int (g i),H,I.tok _,⟨_,rfl⟩,q⟩
def Mp:UnR X (unaryOp .USub) (rU λi=> .int (-i)):=unI λ_ _ _ _ _ q=>neg_int q
end
noncomputable def aat:V->V->Bool
 |.non,.non=>true|.non,.int _=>true|.int _,.non=>true|.non,.bl _=>true|.bl _,.non=>true|.non,.str _=>true|.str _,.non=>true
 |.int _,.int _=>true|.bl _,.bl _=>true|.str _,.str _=>true|.byt _,.byt _=>true
 |.int _,.str _=>true|.str _,.int _=>true|.bl _,.str _=>true|.str _,.bl _=>true
 |_,_=>false
noncomputable def rEq:R2:=λx y H Q=>aat x y=true/\Q (.bl (decide (x=y))) H
noncomputable def rNe:R2:=λx y H Q=>aat x y=true/\Q (.bl (!decide (x=y))) H
def UJ{i j:Int}:decide (V.int i=V.int j)=(i==j):=by
 rw[yP];simp
def Zd{i j:Bool}:decide (V.bl i=V.bl j)=(i==j):=by
 rw[yP];simp
def Vg{i j:Str}:decide (V.str i=V.str j)=(i==j):=by
 rw[yP];simp
def Tf{i j:Array UInt8}:decide (V.byt i=V.byt j)=(i.toList==j.toList):=by
 rw[yP];cases i;cases j;simp
section
variable{X:Cx}{a b c:Expr}{ta tb tc:TE}{pos:Pos}
def iQ{pins:List (Addr×Obj)}{σ:St}{H:Hp}{s:Shared}{Q:VK}{k z:Bool}(I:Inv X pins σ H s)(q:Q (.bl k) H)(e:k=z):EP X pins σ Q (.bool z) s:=by
 subst e;exact⟨.bl k,H,I,rfl,q⟩
def jT:OpR X (compareOp .Eq) rEq:=by
 intro pins s σ H x y v u Q I rx z h;obtain⟨hs,q⟩:=h
 cases x with
 |non=>
  cases rx
  cases y with
  |non=>cases z;exact PySem.EqNone.eq_none_none (iQ I q (by simp))
  |bl j=>cases z;exact PySem.EqNone.eq_none_bool (iQ I q (by simp))
  |int j=>obtain⟨t',rfl⟩:=z;exact PySem.EqNone.eq_none_int (iQ I q (by simp))
  |str j=>obtain⟨t',rfl⟩:=z;exact PySem.EqNone.eq_none_str (iQ I q (by simp))
  |_=>exact absurd (show false=true from hs) zw
 |bl i=>
  cases rx
  cases y with
  |non=>cases z;exact PySem.EqNone.eq_bool_none (iQ I q (by simp))
  |bl j=>cases z;exact eq_bool (iQ I q Zd)
  |str j=>obtain⟨t',rfl⟩:=z;exact PySem.EqMixed.eq_bool_str (iQ I q (by simp))
  |_=>exact absurd (show false=true from hs) zw
 |int i=>
  obtain⟨t,rfl⟩:=rx
  cases y with
  |non=>cases z;exact PySem.EqNone.eq_int_none (iQ I q (by simp))
  |int j=>obtain⟨t',rfl⟩:=z;exact eq_int (iQ I q UJ)
  |str j=>obtain⟨t',rfl⟩:=z;exact PySem.EqMixed.eq_int_str (iQ I q (by simp))
  |_=>exact absurd (show false=true from hs) zw
 |str i=>
  obtain⟨t,rfl⟩:=rx
  cases y with
  |non=>cases z;exact PySem.EqNone.eq_str_none (iQ I q (by simp))
  |bl j=>cases z;exact PySem.EqMixed.eq_str_bool (iQ I q (by simp))
  |int j=>obtain⟨t',rfl⟩:=z;exact PySem.EqMixed.eq_str_int (iQ I q (by simp))
  |str j=>obtain⟨t',rfl⟩:=z;exact eq_str (iQ I q Vg)
  |_=>exact absurd (show false=true from hs) zw
 |byt i=>
  obtain⟨t,rfl⟩:=rx
  cases y with
  |byt j=>obtain⟨t',rfl⟩:=z;exact PySem.W.eq_bytes (iQ I q Tf)
  |_=>exact absurd (show false=true from hs) zw
 |_=>cases y<;>exact absurd (show false=true from hs) zw
def Hh:OpR X (compareOp .NotEq) rNe:=by
 intro pins s σ H x y v u Q I rx z h;obtain⟨hs,q⟩:=h
 cases x with
 |non=>
  cases rx
  cases y with
  |non=>cases z;exact PySem.EqNone.ne_none_none (iQ I q (by simp))
  |bl j=>cases z;exact PySem.EqNone.ne_none_bool (iQ I q (by simp))
  |int j=>obtain⟨t',rfl⟩:=z;exact PySem.EqNone.ne_none_int (iQ I q (by simp))
  |str j=>obtain⟨t',rfl⟩:=z;exact PySem.EqNone.ne_none_str (iQ I q (by simp))
  |_=>exact absurd (show false=true from hs) zw
 |bl i=>
  cases rx
  cases y with
  |non=>cases z;exact PySem.EqNone.ne_bool_none (iQ I q (by simp))
  |bl j=>cases z;exact ne_bool (iQ I q (congrArg not Zd))
  |str j=>obtain⟨t',rfl⟩:=z;exact PySem.EqMixed.ne_bool_str (iQ I q (by simp))
  |_=>exact absurd (show false=true from hs) zw
 |int i=>
  obtain⟨t,rfl⟩:=rx
  cases y with
  |non=>cases z;exact PySem.EqNone.ne_int_none (iQ I q (by simp))
  |int j=>obtain⟨t',rfl⟩:=z;exact ne_int (iQ I q (congrArg not UJ))
  |str j=>obtain⟨t',rfl⟩:=z;exact PySem.EqMixed.ne_int_str (iQ I q (by simp))
  |_=>exact absurd (show false=true from hs) zw
 |str i=>
  obtain⟨t,rfl⟩:=rx
  cases y with
  |non=>cases z;exact PySem.EqNone.ne_str_none (iQ I q (by simp))
  |bl j=>cases z;exact PySem.EqMixed.ne_str_bool (iQ I q (by simp))
  |int j=>obtain⟨t',rfl⟩:=z;exact PySem.EqMixed.ne_str_int (iQ I q (by simp))
  |str j=>obtain⟨t',rfl⟩:=z;exact ne_str (iQ I q (congrArg not Vg))
  |_=>exact absurd (show false=true from hs) zw
 |byt i=>
  obtain⟨t,rfl⟩:=rx
  cases y with
  |byt j=>obtain⟨t',rfl⟩:=z;exact PySem.W.ne_bytes (iQ I q (congrArg not Tf))
  |_=>exact absurd (show false=true from hs) zw
 |_=>cases y<;>exact absurd (show false=true from hs) zw
def xX:OpR X (compareOp .Lt) (rI0 λi j=> .bl (decide (i<j))):=adf λ_ _ _ _ _ _ _ q=>lt_int q
def WY:OpR X (compareOp .LtE) (rI0 λi j=> .bl (decide (i<=j))):=adf λ_ _ _ _ _ _ _ q=>le_int q
def xu:OpR X (compareOp .Gt) (rI0 λi j=> .bl (decide (j<i))):=adf λ_ _ _ _ _ _ _ q=>gt_int q
def Lz:OpR X (compareOp .Is) (λx y H Q=>y=.non/\Q (.bl (decide (x=.non))) H):=by
 intro pins s σ H x y v u Q I z ry h;obtain⟨rfl,q⟩:=h;cases ry;refine is_none_gen (iQ I q ?_)
 cases x<;>first
  |(cases z;rfl)
  |(obtain⟨t,rfl⟩:=z;rfl)
def aaK:OpR X (compareOp .IsNot) (λx y H Q=>y=.non/\Q (.bl (!decide (x=.non))) H):=by
 intro pins s σ H x y v u Q I z ry h;obtain⟨rfl,q⟩:=h;cases ry;refine isnot_none_gen (iQ I q ?_)
 cases x<;>first
  |(cases z;rfl)
  |(obtain⟨t,rfl⟩:=z;rfl)
def gk(b:Expr){q:CmpOp}(h:q≠.In:=by decide)(h2:q≠.NotIn:=by decide):behindInMarks q b=false:=by
 have e1:(q==CmpOp.In)=false:=by cases q<;>first|rfl|exact absurd rfl h
 have z:(q==CmpOp.NotIn)=false:=by cases q<;>first|rfl|exact absurd rfl h2
 cases b<;>simp[behindInMarks,e1,z]
def Ca{z:CmpOp}{r:R2}(ho:OpR X (compareOp z) r)(ha:PE X a ta)(hb:PE X b tb)(hm:behindInMarks z b=false):PE X (.Compare a [z] [b] pos) (tOp r ta tb):=by
 intro pins s σ H Q I h;exact wpAny_Compare1 (adi ha hb I h λv u s2 x y H2 I2 rx ry q=>ho pins s2 σ H2 x y v u Q I2 rx ry q) hm
noncomputable def ZK(t:TE):TT:=λσ H Q=>t σ H λx H'=>∃k,x=.bl k/\Q k H'
def fY{q:CmpOp}{r:R2}(ho:OpR X (compareOp q) r)(ha:PE X a ta)(hb:PE X b tb)(hm:behindInMarks q b=false):PT X (.Compare a [q] [b] pos) (ZK (tOp r ta tb)):=by
 intro pins s σ H Q I h
 refine wpAny_isTrue_Compare1 (thn (ha pins s σ H _ I h) λv s1 ⟨x,H1,I1,r1,q1⟩=>thn (hb pins s1 σ H1 _ I1 q1) λu s2 ⟨y,H2,I2,r2,q2⟩=>
  thn (ho pins s2 σ H2 x y v u _ I2 r1 r2 q2) λc s3 ⟨z,H3,I3,r3,k,e,q3⟩=>?_) hm
 subst e;cases r3;exact yt ⟨H3,I3,q3⟩
noncomputable def Qq(r r':R2)(ta tb tc:TE):TE:=λσ H Q=>ta σ H λx H1=>tb σ H1 λy H2=>r x y H2 λz H3=>∃k,z=.bl k/\
 (if k=true then tc σ H3 λw' H4=>r' y w' H4 Q else Q (.bl false) H3)
def IW{op q:CmpOp}{r r':R2}(ho:OpR X (compareOp op) r)(aa:OpR X (compareOp q) r')(ha:PE X a ta)(hb:PE X b tb)(hc:PE X c tc)
  (hm:lastMarks [op,q] [b,c]=false:=by with_unfolding_all rfl):PE X (.Compare a [op,q] [b,c] pos) (Qq r r' ta tb tc):=by
 intro pins s σ H Q I h
 refine Compare_chain (thn (ha pins s σ H _ I h) λv s1 ⟨x,H1,I1,r1,q1⟩=>chain_link (thn (hb pins s1 σ H1 _ I1 q1) λu s2 ⟨y,H2,I2,r2,q2⟩=>
  thn (ho pins s2 σ H2 x y v u _ I2 r1 r2 q2) λd s3 ⟨z,H3,I3,r3,k,e,q3⟩=>?_)) hm
 subst e;cases r3;refine yt ?_
 cases k with
 |false=>exact ite_ff ⟨.bl false,H3,I3,rfl,q3⟩
 |true=>exact ite_tt (chain_last (thn (hc pins s3 σ H3 _ I3 q3) λw' s4 ⟨z',H4,I4,r4,q4⟩=>aa pins s4 σ H4 y z' u w' Q I4 r2 r4 q4))
def Qx{op q:CmpOp}{r r':R2}(ho:OpR X (compareOp op) r)(aa:OpR X (compareOp q) r')(ha:PE X a ta)(hb:PE X b tb)(hc:PE X c tc)
  (hm:lastMarks [op,q] [b,c]=false:=by with_unfolding_all rfl):PT X (.Compare a [op,q] [b,c] pos) (ZK (Qq r r' ta tb tc)):=by
 intro pins s σ H Q I h
 refine isTrue_chain (thn (ha pins s σ H _ I h) λv s1 ⟨x,H1,I1,r1,q1⟩=>test_link (thn (hb pins s1 σ H1 _ I1 q1) λu s2 ⟨y,H2,I2,r2,q2⟩=>
  thn (ho pins s2 σ H2 x y v u _ I2 r1 r2 q2) λd s3 ⟨z,H3,I3,r3,k,e,q3⟩=>?_)) hm
 subst e;cases r3;refine yt ?_
 cases k with
 |false=>
  obtain⟨k',e',q'⟩:=q3;cases e';exact ite_ff ⟨H3,I3,q'⟩
 |true=>
  refine ite_tt (test_last (thn (hc pins s3 σ H3 _ I3 q3) λw' s4 ⟨z',H4,I4,r4,q4⟩=>thn (aa pins s4 σ H4 y z' u w' _ I4 r2 r4 q4) λd' s5 ⟨z2,H5,I5,r5,k2,e2,q5⟩=>?_));subst e2;cases r5;exact yt ⟨H5,I5,q5⟩
def Kp:(sizeLine:Nat)<2^63:=by rw[zc];decide
def jr:OpR X (binaryOp .Add) (λx y H Q=>∃i j,x=.str i/\y=.str j/\i.length+j.length<=sizeLine/\Q (.str (i++j)) H):=by
 intro pins s σ H x y v u Q I rx z h;obtain⟨i,j,rfl,rfl,hz,q⟩:=h;obtain⟨t,rfl⟩:=rx;obtain⟨t',rfl⟩:=z;exact add_str (λt' tk=>⟨.str (i++j),H,I.tok _,⟨_,rfl⟩,q⟩) hz
def vals1{x:V}{us:List Value}(r:Vals [x] us):∃u,us=[u]/\RelV x u:=by
 cases r with
 |cons r1 r2=>cases r2;exact⟨_,rfl,r1⟩
def vals2{x y:V}{us:List Value}(r:Vals [x,y] us):∃u q,us=[u,q]/\RelV x u/\RelV y q:=by
 cases r with
 |cons r1 r2=>
  cases r2 with
  |cons r3 r4=>cases r4;exact⟨_,_,rfl,r1,r3⟩
def Wi(hc:X.calm=true):lX X (.builtin "max") (λxs H Q=>∃i j,xs=[.int i,.int j]/\Q (.int (if j>i then j else i)) H):=by
 intro pins s σ H xs us Q I r h;obtain⟨i,j,rfl,q⟩:=h;obtain⟨u,w',rfl,⟨t,rfl⟩,⟨t',rfl⟩⟩:=vals2 r;refine max_two_ints (I.ok.hd hc) λh' tk k=>⟨_,H,I.kept k,?_,q⟩;by_cases z:j>i
 ·rw[zp z,zp z];exact⟨_,rfl⟩
 ·rw[zk z,zk z];exact⟨_,rfl⟩
def VH(hc:X.calm=true):lX X (.builtin "min") (λxs H Q=>∃i j,xs=[.int i,.int j]/\Q (.int (if j<i then j else i)) H):=by
 intro pins s σ H xs us Q I r h;obtain⟨i,j,rfl,q⟩:=h;obtain⟨u,w',rfl,⟨t,rfl⟩,⟨t',rfl⟩⟩:=vals2 r;refine min_two_ints (I.ok.hd hc) λh' tk k=>⟨_,H,I.kept k,?_,q⟩;by_cases z:j<i
 ·rw[zp z,zp z];exact⟨_,rfl⟩
 ·rw[zk z,zk z];exact⟨_,rfl⟩
def Ez:lX X (.type "int") (λxs H Q=>(∃i,xs=[.int i]/\Q (.int i) H)\/∃k,xs=[.bl k]/\Q (.int (if k then 1 else 0)) H):=by
 intro pins s σ H xs us Q I r h;rcases h with⟨i,rfl,q⟩|⟨k,rfl,q⟩
 ·obtain⟨u,rfl,t,rfl⟩:=vals1 r
  exact call_int_int ⟨.int i,H,I,⟨_,rfl⟩,q⟩
 ·obtain⟨u,rfl,z⟩:=vals1 r
  cases z;exact call_int_bool ⟨.int (if k then 1 else 0),H,I.tok _,⟨_,rfl⟩,q⟩
def Kf:lX X (.type "str") (λxs H Q=>∃i,xs=[.int i]/\i.natAbs.log2<1920/\Q (.str (toString i)) H):=by
 intro pins s σ H xs us Q I r h;obtain⟨i,rfl,z,q⟩:=h;obtain⟨u,rfl,t,rfl⟩:=vals1 r;exact PySem.P.str_of_int z ⟨.str _,H,I.tok _,⟨_,rfl⟩,q⟩
end
end L2
namespace L2
open PySem PySem.Spec PyProof.Rows
structure aaS(h:Heap)(x dx C:Addr)(mA:Str->Option Value):Prop where
 obj:h.get? x=some (PySem.W.instObj C dx)
 ns:h.Ns1 dx mA
 ne:dx≠x
def Vq{h:Heap}{dx:Addr}{mA:Str->Option Value}(n:h.Ns1 dx mA):∃od,h.get? dx=some od/\∀name,PySem.W.lookIn name od=some (mA name):=by
 obtain⟨o,es,ep,ho,hd,hk,_,hm⟩:=n;refine⟨o,ho,λname=>?_⟩;have e:=hm name;unfold nsFind findBy at e;rw[<-Array.find?_toList]at e;unfold PySem.W.lookIn;rw[hd];dsimp only;split
 ·rename_i y q
  rw[q]at e;exact congrArg some e
 ·rename_i q
  rw[q]at e
  have a:es.toList.any (·.refKey)=false:=by
   rw[List.any_eq_false];intro y hy;obtain⟨z,t,aa⟩:=hk y (Array.mem_toList_iff.mp hy);simp[DictEntry.refKey,aa]
  have a':¬es.toList.any (·.refKey)=true:=by rw[a];exact zw
  rw[zk a'];exact congrArg some e
def aaS.look{h:Heap}{x dx C:Addr}{mA:Str->Option Value}(I:aaS h x dx C mA):∃q,PySem.W.InstAt h x (PySem.W.instObj C dx) C (some q)/\∀name,PySem.W.lookIn name q=some (mA name):=
 let⟨q,ho,hl⟩:=Vq I.ns
 ⟨q,⟨I.obj,rfl,rfl,ho⟩,hl⟩
section
variable{prog:Program}{w:World}{A:Around}{E:Value->Shared->Prop}{s:Shared}{K:Fg_}{x dx C f:Addr}{mA:Str->Option Value}{name:Str}{v:Value}
def get_map{q:Bool}{Q:Value->Shared->Prop}(X:K.In s.heap)(I:aaS s.heap x dx C mA)(hg:PySem.W.plainGet K C name=true)(hh:PySem.W.hasDictIn K C=true)
  (ha:PySem.W.findIn K (.ref C) name=some none) (hv:mA name=some v) (z:PySem.W.handedIn v=true) (h:Q v {s with toks:=s.toks+1}):
  wpAny (model prog w) A (getAttr (.ref x) name q) Q E s:=by
 obtain⟨od,J,hl⟩:=I.look;exact PySem.W.get_value X J (zzU hg).1 (PySem.W.findObj_own hh ha rfl (by rw[hl,hv])) z h
def XF{pl:Sem Bool}{Q:Value×List Value->Shared->Prop}(X:K.In s.heap)(I:aaS s.heap x dx C mA)(q:PySem.W.plainGet K C name=true)
  (hf:PySem.W.findIn K (.ref C) name=some (some (.ref f))) (ht:PySem.W.isFn K (.ref f)=true) (hv:mA name=none) (h:Q (.ref f,[.ref x]) s):
  wpAny (model prog w) A (getMethod (.ref x) name pl) Q E s:=by
 obtain⟨z,J,hl⟩:=I.look;exact PySem.W.method_fn X J (zzU q).1 (zzU q).2 hf (beq_iff_eq.mp ht) (by show(PySem.W.lookIn name z).map (·.isSome)=some false;rw[hl,hv];rfl) h
def aan{ns:List Str}{Q:Unit->Shared->Prop}(X:K.In s.heap)(I:aaS s.heap x dx C mA)
  (hs:PySem.W.findIn K (.ref C) "__setattr__" =some (some (.builtin "object.__setattr__"))) (hp:PySem.W.plainOver K C=true) (ht:PySem.W.takerIn K C name=some none) (hh:PySem.W.hasDictIn K C=true)
  (hw:PySem.Within mA ns) (hsz:ns.length<=sizeLine)
  (h:∀h',aaS h' x dx C (λy=>if y=name then some v else mA y)->Heap.SameBut dx s.heap h'->Q () {s with heap:=h',toks:=s.toks+2}):
  wpAny (model prog w) A (setAttr (.ref x) name v) Q E s:=by
 obtain⟨od,J,hl⟩:=I.look;refine PySem.W.set_plain X J hs (PySem.W.osa_open (s:={s with toks:=s.toks+1}) (r:=none) X J hp ht λb=>?_);obtain⟨cd,hc,ac⟩:=PySem.W.any_some hh;have hx:s.heap.get? x=some ⟨.ref C,some dx,.plain, #[]⟩:=I.obj;refine zf (zq (zf (zf (wpAny_loadPart hx (zf (PySem.W.Looks.here (s:={s with toks:=s.toks+1}) (PySem.W.looks_clsIn X hc) ?_))))));rw[ac];refine zq (a:=some dx) (zf (zq (zf ?_)));refine wpAny_nsSet1 (s:={s with toks:=s.toks+1}) I.ns λh' q z=>?_;obtain⟨oD,ae,af,aa,ab,ad⟩:=q.count (PySem.Within.cons name v hw);refine zf (wpAny_lookBehind aa (by rw[ab];exact pastItsLine_dict (zF ad (by rw[zy];lia))) ?_);exact zq (h _ ⟨(z.2 _ (Ne.symm I.ne)).trans I.obj,q,I.ne⟩ z)
def Xd{R:Result->Shared->Prop}{vs:List Value}{q:List (Str×Value)}(X:K.In s.heap)(hm:PySem.W.makesIn K C=true)
  (hi:PySem.W.findIn K (.ref C) "__init__" =some (some (.ref f))) (z:PySem.W.typeIn K (.ref f)=some (.type "function"))
  (h:codeAny (model prog w) (A.under (.builtin "type.__call__" ⟨.ref C::vs,q⟩)) (.call (.ref f) ⟨.ref (s.heap.objs.size+1)::vs,q⟩) (PySem.W.InitBack (s.heap.objs.size+1) R)
   {s with heap:=(s.heap.push PySem.W.emptyDict).push (PySem.W.instObj C s.heap.objs.size)}):
  codeAny (model prog w) A (.call (.ref C) ⟨vs,q⟩) R s:=by
 obtain⟨hh,g,d,t,os⟩:=s;exact PySem.W.make_core (PySem.W.makes_of X hm) (yj X hi) (λself=>PySem.W.bind_fn X self z) (.inl rfl) h
end
noncomputable def Ec(f:Str)(v:V):List (Str×V)->List (Str×V)
 |[]=>[(f,v)]
 |(g,x)::r=>if g=f then(g,v)::r else(g,x)::Ec f v r
theorem Fz(f g:Str)(v:V):∀fs:List (Str×V),(Ec f v fs).lookup g=if g=f then some v else fs.lookup g
 |[]=>by
  show List.lookup g [(f,v)]=_;by_cases h:g=f
  ·have hb:(g==f)=true:=beq_iff_eq.mpr h
   simp only[List.lookup,hb,zp h]
  ·have hb:(g==f)=false:=beq_eq_false_iff_ne.mpr h
   simp only[List.lookup,hb,zk h]
 |(k,x)::r=>by
  have z:=Fz f g v r;rw[show Ec f v ((k,x)::r)=(if k=f then(k,v)::r else(k,x)::Ec f v r)from rfl];by_cases q:k=f
  ·rw[zp q]
   by_cases h:g=k
   ·have hb:(g==k)=true:=beq_iff_eq.mpr h
    simp only[List.lookup,hb,zp (h.trans q)]
   ·have hb:(g==k)=false:=beq_eq_false_iff_ne.mpr h
    simp only[List.lookup,hb,zk (λe:g=f=>h (e.trans q.symm))]
  ·rw[zk q]
   by_cases h:g=k
   ·have hb:(g==k)=true:=beq_iff_eq.mpr h
    simp only[List.lookup,hb,zk (λe:g=f=>q (h.symm.trans e))]
   ·have hb:(g==k)=false:=beq_eq_false_iff_ne.mpr h
    simp only[List.lookup,hb];exact z
theorem Gm(f:Str)(v:V):∀fs:List (Str×V),f∈(Ec f v fs).map (·.1)/\∀g,g∈fs.map (·.1)->g∈(Ec f v fs).map (·.1)
 |[]=>⟨by simp[Ec],λg h=>by simp at h⟩
 |(k,x)::r=>by
  obtain⟨i1,z⟩:=Gm f v r;rw[show Ec f v ((k,x)::r)=(if k=f then(k,v)::r else(k,x)::Ec f v r)from rfl];by_cases q:k=f
  ·rw[zp q]
   subst q;exact⟨by simp,λg h=>by simpa using h⟩
  ·rw[zk q]
   refine⟨?_,λg h=>?_⟩
   ·rw[zj]
    exact zr _ i1
   ·rw[zj]at h⊢
    rcases zh.mp h with e|e
    ·exact zh.mpr (.inl e)
    ·exact zr _ (z g e)
theorem Gj(f:Str)(v:V):∀fs:List (Str×V),(Ec f v fs).length<=fs.length+1
 |[]=>by simp[Ec]
 |(k,x)::r=>by
  have z:=Gj f v r;rw[show Ec f v ((k,x)::r)=(if k=f then(k,v)::r else(k,x)::Ec f v r)from rfl];by_cases q:k=f
  ·rw[zp q,zy,zy];lia
  ·rw[zk q,zy,zy];lia
def HY.some_of{v:V}{o:Option Value}(r:HY (some v) o):∃u,o=some u/\RelV v u:=by
 cases o with
 |none=>exact(show False from r).elim
 |some u=>exact⟨u,rfl,r⟩
def HY.none_of{o:Option Value}(r:HY none o):o=none:=by
 cases o with
 |none=>rfl
 |some u=>exact(show False from r).elim
def Vn{v:V}{u:Value}(r:RelV v u):PySem.W.handedIn u=true:=by
 cases v with
 |non=>cases (show u=Value.none from r);rfl
 |bl b=>cases (show u=Value.bool b from r);rfl
 |int i=>obtain⟨t,e⟩:=(show∃t,u=Value.int i t from r);cases e;rfl
 |str x=>obtain⟨t,e⟩:=(show∃t,u=Value.str x t from r);cases e;rfl
 |byt b=>obtain⟨t,e⟩:=(show∃t,u=Value.bytes b t from r);cases e;rfl
 |flt b=>obtain⟨t,e⟩:=(show∃t,u=Value.float b t from r);cases e;rfl
 |ref a=>cases (show u=Value.ref a from r);rfl
 |ty n=>cases (show u=Value.type n from r);rfl
section
variable{P:Program}{w:World}{H H':Hp}{h h':Heap}{a C dx:Addr}{fs fs':List (Str×V)}
def Jp(hok:HOk P w H h)(e:H a=some (.ins C dx fs)):∃mA,aaS h a dx C mA/\(∀f,HY (fs.lookup f) (mA f))/\PySem.Within mA (fs.map (·.1))/\fs.length<=1000/\H dx=some (.own a):=by
 obtain⟨d,z,ne,ob,mA,n,r,q⟩:=(show iZ P w H h a (.ins C dx fs)from hok a _ e);exact⟨mA,⟨ob,n,ne⟩,r,q,z,d⟩
end
structure Cls(K:Fg_)(C:Addr):Prop where
 pg:PySem.W.plainGet K C Str.empty=true
 hd:PySem.W.hasDictIn K C=true
 po:PySem.W.plainOver K C=true
 sa:PySem.W.findIn K (.ref C) "__setattr__" =some (some (.builtin "object.__setattr__"))
def Cls.get{K:Fg_}{C:Addr}(c:Cls K C)(f:Str):PySem.W.plainGet K C f=true:=c.pg
noncomputable def gD(K:Fg_)(C:Addr)(f:Str):Prop:=PySem.W.findIn K (.ref C) f=some none
def gD.taker{K:Fg_}{C:Addr}{f:Str}(n:gD K C f):PySem.W.takerIn K C f=some none:=by
 unfold PySem.W.takerIn;rw[show PySem.W.findIn K (.ref C) f=some none from n];rfl
structure Con(K:Fg_)(C:Addr)(f:Str)(v:V)(u:Value):Prop where
 at_:PySem.W.findIn K (.ref C) f=some (some u)
 rel:RelV v u
 get:PySem.W.specialIn K u "__get__" =some none
 cp:PySem.W.copiedNames.contains f=false
structure Meth(K:Fg_)(C:Addr)(m:Str)(f:Addr):Prop where
 at_:PySem.W.findIn K (.ref C) m=some (some (.ref f))
 fn:PySem.W.isFn K (.ref f)=true
 kp:PySem.W.keepIn K (.ref f)=true
section
variable{X:Cx}{pins:List (Addr×Obj)}{σ:St}{H:Hp}{s:Shared}{a C dx:Addr}{fs:List (Str×V)}{f:Str}{v:V}{A:Around}{E:Value->Shared->Prop}
def Rt{b:Bool}{Q:Value->Shared->Prop}(I:Inv X pins σ H s)(e:H a=some (.ins C dx fs))(c:Cls X.K C)(n:gD X.K C f)(l:fs.lookup f=some v)
  (h:∀u s',Inv X pins σ H s'->RelV v u->Q u s'):wpAny (model X.prog X.w) A (getAttr (.ref a) f b) Q E s:=by
 obtain⟨mA,O,r,_,_,_⟩:=Jp I.hok e;obtain⟨u,hu,q⟩:=HY.some_of (v:=v) (o:=mA f) (by rw[<-l];exact r f);exact get_map I.kIn O (c.get f) c.hd n hu (Vn q) (h u _ (I.tok _) q)
def RX{m:Str}{g:Addr}{pl:Sem Bool}{Q:Value×List Value->Shared->Prop}(I:Inv X pins σ H s)(e:H a=some (.ins C dx fs))(c:Cls X.K C)(k:Meth X.K C m g)(l:fs.lookup m=none)
  (h:Q (.ref g,[.ref a]) s):wpAny (model X.prog X.w) A (getMethod (.ref a) m pl) Q E s:=by
 obtain⟨mA,O,r,_,_,_⟩:=Jp I.hok e;have hn:mA m=none:=HY.none_of (by rw[<-l];exact r m);exact XF I.kIn O (c.get m) k.at_ k.fn hn h
def Rk{y:V}{u:Value}{Q:Unit->Shared->Prop}(I:Inv X pins σ H s)(e:H a=some (.ins C dx fs))(c:Cls X.K C)(n:gD X.K C f)(hl:fs.length<1000)(ry:RelV y u)
  (h:∀s',Inv X pins σ (upd H a (.ins C dx (Ec f y fs))) s'->Q () s'):wpAny (model X.prog X.w) A (setAttr (.ref a) f u) Q E s:=by
 obtain⟨mA,O,r,wi,_,ho⟩:=Jp I.hok e;have hz:(fs.map (·.1)).length<=sizeLine:=by rw[za,zc];lia
 refine aan I.kIn O c.sa c.po n.taker c.hd wi hz λh' O' sb=>h _ ?_;have hd:∃o,h'.get? dx=some o:=let⟨o,_,_,e',_⟩:=O'.ns;⟨o,e'⟩
 refine I.write (x:=a) (e:=dx) (by rw[e];exact True.intro) (.inr ho) (λb q hb z=>(sb.2 b hb).trans z) hd ?_;refine⟨by rw[fX O.ne];exact ho,?_,O.ne,O'.obj,_,O'.ns,λg=>?_,λg hg=>?_⟩
 ·have:=Gj f y fs;lia
 ·show HY ((Ec f y fs).lookup g) (if g=f then some u else mA g)
  rw[Fz];by_cases q:g=f
  ·rw[zp q,zp q];exact ry
  ·rw[zk q,zk q];exact r g
 ·by_cases q:g=f
  ·rw[q];exact(Gm f y fs).1
  ·refine(Gm f y fs).2 g (wi g λz=>hg ?_)
   show(if g=f then some u else mA g)=none;rw[zk q];exact z
def Inv.made(I:Inv X pins σ H s):Inv X pins σ (upd (upd H s.heap.objs.size (.own (s.heap.objs.size+1))) (s.heap.objs.size+1) (.ins C s.heap.objs.size []))
  {s with heap:=(s.heap.push PySem.W.emptyDict).push (PySem.W.instObj C s.heap.objs.size)}:=by
 have z:(s.heap.push PySem.W.emptyDict).get? s.heap.objs.size=some PySem.W.emptyDict:=zN s.heap rfl
 have e2:((s.heap.push PySem.W.emptyDict).push (PySem.W.instObj C s.heap.objs.size)).get? (s.heap.objs.size+1)=some (PySem.W.instObj C s.heap.objs.size):=by
  have:=zN (s.heap.push PySem.W.emptyDict) (o:=PySem.W.instObj C s.heap.objs.size) rfl
  rwa [zzy]at this
 have e3:(s.heap.push PySem.W.emptyDict).Ns s.heap.objs.size (λ_=>none):=⟨PySem.W.emptyDict, #[],_,z,rfl,(λe he=>absurd he (by simp)),λ_=>rfl⟩;have I1:=I.laid (a:=s.heap.objs.size) (o:=.own (s.heap.objs.size+1)) (h':=s.heap.push PySem.W.emptyDict) (t':=s.toks) (λb u q=>zd _ q) (ze _) ⟨_,z⟩;refine I1.laid (a:=s.heap.objs.size+1) (o:=.ins C s.heap.objs.size []) (t':=s.toks) (λb u q=>zd _ q) (yyh (zzy _ _)) ?_;have ne:s.heap.objs.size≠s.heap.objs.size+1:=zK (Nat.lt_succ_self _);refine⟨by rw[fX ne,fL],zQ _,ne,e2,λ_=>none,(Heap.Ns1.of_empty e3).at λo q=>zd _ q,λ_=>True.intro,λy hy=>absurd rfl hy⟩
def VR{prog:Program}{w:World}{env:Env}{e:Expr}{f:Str}{pos:Pos}{s:Shared}{Q:Value->Shared->Prop}(hb:attributeBase e f env (eval e env)=eval e env)
  (h:wpAny (model prog w) A (eval e env) (λo q=>wpAny (model prog w) A (getAttr o f true) Q E q) E s):wpAny (model prog w) A (eval (.Attribute e f pos) env) Q E s:=
 Attribute_any_ h (by rw[arm_eval_Attribute,hb])
end
noncomputable def abS(K:Fg_)(ta:TE)(f:Str):TE:=λσ H Q=>ta σ H λx H1=>∃a C dx fs v,x=.ref a/\H1 a=some (.ins C dx fs)/\Cls K C/\gD K C f/\fs.lookup f=some v/\Q v H1
noncomputable def acr(K:Fg_)(ta tv:TE)(f:Str):TS:=λD σ H=>tv σ H λy H1=>ta σ H1 λx H2=>∃a C dx fs,x=.ref a/\H2 a=some (.ins C dx fs)/\Cls K C/\gD K C f/\fs.length<1000/\
 D.nx σ (upd H2 a (.ins C dx (Ec f y fs)))
section
variable{X:Cx}{o e value:Expr}{f:Str}{pos pos' tpos:Pos}{ta tv:TE}
def acn(he:PE X e ta)(hb:attributeBase e f X.env (eval e X.env)=eval e X.env):PE X (.Attribute e f pos) (abS X.K ta f):=by
 intro pins s σ H Q I h;refine VR hb (thn (he pins s σ H _ I h) λu s1 ⟨x,H1,I1,rx,a,C,dx,fs,v,ex,ea,c,n,l,q⟩=>?_);subst ex;obtain rfl:u=Value.ref a:=rx;exact Rt I1 ea c n l λu' s2 z ru=>⟨v,H1,z,ru,q⟩
def acl(ha:PE X o ta)(hv:PE X value tv)(hs:swapsWith value (some (.Attribute o f pos')) pos.line X.env=pure false):PS X (.Assign [.Attribute o f pos'] value pos) (acr X.K ta tv f):=by
 intro pins s σ H D I h;refine plainObj_wpAny_Assign_Attribute (thn (hv pins s σ H _ I h) λu s1 ⟨y,H1,I1,z,q⟩=>thn (ha pins s1 σ H1 _ I1 q) λov s2 ⟨x,H2,I2,rx,a,C,dx,fs,ex,ea,c,n,l,q2⟩=>?_) hs;subst ex;obtain rfl:ov=Value.ref a:=rx;exact Rk I2 ea c n l z λs3 I3=>⟨σ,_,I3,q2⟩
end
section
variable{X:Cx}{pins:List (Addr×Obj)}{σ:St}{H:Hp}{s:Shared}{A:Around}{E:Value->Shared->Prop}{Q:Value->Shared->Prop}{c:Value}{b:Bool}
inductive Nv(K:Fg_)(H:Hp):V->Value->Prop where
 |non:Nv K H .non (.type "NoneType")
 |bl (x:Bool):Nv K H (.bl x) (.type "bool")
 |int (i:Int):Nv K H (.int i) (.type "int")
 |str (x:Str):Nv K H (.str x) (.type "str")
 |flt (x:UInt64):Nv K H (.flt x) (.type "float")
 |lst {a:Addr} {xs:List V} (e:H a=some (.lst xs)):Nv K H (.ref a) (.type "list")
 |frz {a:Addr} {o:Obj} {xs:List V} (e:H a=some (.frz o (.lst xs))):Nv K H (.ref a) (.type "list")
 |tup {a:Addr} {xs:List V} (e:H a=some (.tup xs)):Nv K H (.ref a) (.type "tuple")
 |dK {a:Addr} {kvs:List (Key×V)} (e:H a=some (.dK kvs)):Nv K H (.ref a) (.type "dict")
 |dT {a:Addr} {kvs:List (List Key×V)} (e:H a=some (.dT kvs)):Nv K H (.ref a) (.type "dict")
 | ins {a C dx:Addr} {fs:List (Str×V)} (e:H a=some (.ins C dx fs)) (cl:Cls K C) (ha:PySem.W.findIn K (.ref C) "__class__" =some (some (.builtin "object.__class__")))
   (hn:PySem.W.specialIn K (.builtin "object.__class__") "__get__" =some (some (.builtin "getset_descriptor.__get__"))) (htk:PySem.W.takesIn K (.builtin "object.__class__")=some true)
   (hm:PySem.W.mroIn K C (.type "object")=some true):Nv K H (.ref a) (.ref C)
def Vy{x:V}{u t:Value}(I:Inv X pins σ H s)(rx:RelV x u)(ty:Nv X.K H x t)(e:PySem.W.kitOne X.K t c=some b)(h:∀tk,Q (.bool b) {s with toks:=tk}):
  wpAny (model X.prog X.w) A (call (.builtin "isinstance") [u,c]) Q E s:=by
 cases ty with
 |non=>cases (show u=Value.none from rx);exact ye PySem.W.kitx_none I.kIn True.intro e (λz=>nomatch z) h
 |bl y=>cases (show u=Value.bool y from rx);exact ye PySem.W.kitx_bool I.kIn True.intro e (λz=>nomatch z) h
 |int i=>obtain⟨t,q⟩:=(show∃t,u=Value.int i t from rx);cases q;exact ye PySem.W.kitx_int I.kIn True.intro e (λz=>nomatch z) h
 |str y=>obtain⟨t,q⟩:=(show∃t,u=Value.str y t from rx);cases q;exact ye PySem.W.kitx_str I.kIn True.intro e (λz=>nomatch z) h
 |flt y=>obtain⟨t,q⟩:=(show∃t,u=Value.float y t from rx);cases q;exact ye PySem.W.kitx_float I.kIn True.intro e (λz=>nomatch z) h
 | @lst a xs ea=>
  cases (show u=Value.ref a from rx);obtain⟨_,_,n,_,h1⟩:=(show iZ X.prog X.w H s.heap a (.lst xs)from I.hok a _ ea);exact ye PySem.W.kitx_list I.kIn ⟨_,h1,rfl⟩ e (λz=>nomatch z) h
 | @frz a ob xs ea=>
  cases (show u=Value.ref a from rx);obtain⟨_,_,_,n,_,h1⟩:=(show iZ X.prog X.w H s.heap a (.frz ob (.lst xs))from I.hok a _ ea);exact ye PySem.W.kitx_list I.kIn ⟨_,h1,rfl⟩ e (λz=>nomatch z) h
 | @tup a xs ea=>
  cases (show u=Value.ref a from rx);obtain⟨_,_,_,p⟩:=(show iZ X.prog X.w H s.heap a (.tup xs)from I.hok a _ ea);obtain⟨o,h1,h2,_⟩:=p;exact ye PySem.W.kitx_tuple I.kIn ⟨o,h1,h2⟩ e (λz=>nomatch z) h
 | @dK a kvs ea=>
  cases (show u=Value.ref a from rx);obtain⟨_,_,vs,_,p⟩:=(show iZ X.prog X.w H s.heap a (.dK kvs)from I.hok a _ ea);obtain⟨o,es,ep,h1,h2,_⟩:=p;exact ye PySem.W.kitx_dict I.kIn ⟨o,h1,h2.1⟩ e (λz=>nomatch z) h
 | @dT a kvs ea=>
  cases (show u=Value.ref a from rx);obtain⟨_,_,xs,_,o,es,ep,h1,h2,_⟩:=(show iZ X.prog X.w H s.heap a (.dT kvs)from I.hok a _ ea);exact ye PySem.W.kitx_dict I.kIn ⟨o,h1,h2.1⟩ e (λz=>nomatch z) h
 | @ins a C dx fs ea cl ha hn htk hm=>
  cases (show u=Value.ref a from rx);obtain⟨mA,O,_⟩:=Jp I.hok ea;obtain⟨od,J,_⟩:=O.look;exact ye (PySem.W.kitx_own (cl.get _) cl.hd ha hn htk hm) I.kIn J e (λz=>nomatch z) h
end
end L2
namespace L2
open PySem PySem.Spec PyProof.Rows
structure nY(k:Nat)(A:Around):Prop where
 hd:A.handled=none
 dp:A.depth+3*k+5<recursionLimit
 un:A.units+16*k+200<cLine
def nY.mono{j k:Nat}{A:Around}(r:nY k A)(h:j<=k):nY j A:=⟨r.hd,by have:=r.dp;lia,by have:=r.un;lia⟩
theorem nY.deeper{k:Nat}{A:Around}(r:nY (k+1) A)(env:Env):nY k (A.deeper env):=
 ⟨r.hd,by have:=r.dp;show A.depth+1+3*k+5<_;lia,by have:=r.un;show A.units+3+16*k+200<_;lia⟩
def Hy{A:Around}{C:Addr}{us:List Value}{q:List (Str×Value)}:(A.under (.builtin "type.__call__" ⟨.ref C::us,q⟩)).depth=A.depth+1:=by
 first|rfl|simp[Around.under,Code.weight,Code.isCreation,Code.isGuard,Code.isCaller,Code.frames,Code.isFrame,guardIds]
def Ie{A:Around}{C:Addr}{us:List Value}{q:List (Str×Value)}:(A.under (.builtin "type.__call__" ⟨.ref C::us,q⟩)).units=A.units+1:=by
 first|rfl|simp[Around.under,Code.cUnits,Code.frames,Code.isFrame]
def nY.make{k:Nat}{A:Around}(r:nY (k+1) A)(C:Addr)(us:List Value)(q:List (Str×Value)):nY k (A.under (.builtin "type.__call__" ⟨.ref C::us,q⟩)):=
 ⟨r.hd,by have:=r.dp;rw[Hy];lia,by have:=r.un;rw[Ie];lia⟩
theorem nY.depth{k:Nat}{A:Around}(r:nY k A):A.depth<recursionLimit:=by have:=r.dp;lia
theorem nY.units{k:Nat}{A:Around}(r:nY k A):A.units+64<cLine:=by have:=r.un;lia
noncomputable def Ka:TA:=λ_ H Q=>Q [] H
noncomputable def jW(ta:TE)(tr:TA):TA:=λσ H Q=>ta σ H λx H1=>tr σ H1 λxs H2=>Q (x::xs) H2
section
variable{X:Cx}{e:Expr}{es:List Expr}{te:TE}{t:TA}{pos:Pos}
def fM:PA X [] Ka:=λ_ _ _ _ H Q I h=>Calls.spliced_nil ⟨[],H,I,.nil,h⟩
def fG(ha:PE X e te)(hr:PA X es t)(hs:starEach (e::es) X.env=(false,eval e X.env)::starEach es X.env:=by rfl):PA X (e::es) (jW te t):=by
 intro pos pins s σ H Q I h;rw[hs];show wpAny _ _ (spliced ((false,eval e X.env)::backTo pos (starEach es X.env))) _ _ s;refine Calls.spliced_cons (thn (ha pins s σ H _ I h) λu z ⟨x,H1,I1,r1,q1⟩=>?_);exact thn (hr pos pins z σ H1 _ I1 q1) λus s2 ⟨xs,H2,q,r2,q2⟩=>⟨x::xs,H2,q,.cons r1 r2,q2⟩
noncomputable def ade(t:TA):TE:=λσ H Q=>t σ H λxs H1=>xs.length<=sizeLine/\∀p,H1 p=none->Q (.ref p) (upd H1 p (.tup xs))
noncomputable def WM(t:TA):TE:=λσ H Q=>t σ H λxs H1=>xs.length<=sizeLine/\∀p,H1 p=none->Q (.ref p) (upd H1 p (.lst xs))
def ju{x1}(h:PA X es t):PE X (.Tuple es x1 pos) (ade t):=by
 intro pins s σ H Q I hq;refine wpAny_Tuple_spliced (thn (h pos pins s σ H _ I hq) λus s1 ⟨xs,H1,I1,r,z,q⟩=>⟨by rw[<-r.length];exact z,?_⟩);have hf:H1 s1.heap.objs.size=none:=I1.hok.fresh (ze _);refine⟨.ref s1.heap.objs.size,upd H1 s1.heap.objs.size (.tup xs),I1.laid (t':=s1.toks) (λb u e=>zd _ e) (ze _) ?_,rfl,q _ hf⟩;exact⟨z,us,r,⟨_,zN _ rfl,rfl,_,rfl⟩⟩
def iI(h:PA X es t):PE X (.List es pos) (WM t):=by
 intro pins s σ H Q I hq;refine wpAny_List_spliced (thn (h pos pins s σ H _ I hq) λus s1 ⟨xs,H1,I1,r,z,q⟩=>⟨by rw[<-r.length];exact z,?_⟩);have hf:H1 s1.heap.objs.size=none:=I1.hok.fresh (ze _);refine⟨.ref s1.heap.objs.size,upd H1 s1.heap.objs.size (.lst xs),I1.laid (t':=s1.toks) (λb u e=>zd _ e) (ze _) ?_,rfl,q _ hf⟩;exact⟨z,us,0,r,zN _ rfl⟩
end
abbrev Sp:=List V->Hp->VK->XK->Prop
abbrev CXT:=List Env->Hp->Shared->XK->Value->Shared->Prop
structure Zh(P:Program)(w:World)(K:Fg_)(mg:Str->Option Value)(base:Heap)(A:Around)(outer:List Env)(s:Shared)(H:Hp):Prop where
 frames:A.frames=some outer
 mod:Mod K mg base
 bs:∀b o,base.get? b=some o->s.heap.get? b=some o/\H b=none
 bsz:base.objs.size<=s.heap.objs.size
 funs:s.heap.FunFrames base outer
 frf:∀b∈frs outer,H b=none
 hok:HOk P w H s.heap
 bare:AllBare s.gens
noncomputable def CE(outer:List Env)(P:Program)(w:World)(H:Hp)(s:Shared)(Q:VK)(u:Value)(s':Shared):Prop:=
 ∃v H',s'.os=s.os/\AllBare s'.gens/\Un (frs outer) [] H H' s.heap s'.heap/\HOk P w H' s'.heap/\RelV v u/\Q v H'
noncomputable def CR(CX:CXT)(outer:List Env)(P:Program)(w:World)(H:Hp)(s:Shared)(Q:VK)(E:XK)(r:Result)(s':Shared):Prop:=
 match r with
 |.ok (.ret u)=>CE outer P w H s Q u s'
 |.ok _=>False
 |.error e=>CX outer H s E e s'
structure ji(P:Program)(w:World)(K:Fg_)(mg:Str->Option Value)(base:Heap)(CX:CXT)(k:Nat)(f:Addr)(fd:FuncData)(ps:List Str)(sp:Sp):Prop where
 len:∀vs H Q E,sp vs H Q E->vs.length=ps.length
 run:∀(A:Around)(outer:List Env)(s:Shared)(H:Hp)(args:Args)(us:List Value)(vs:List V)(Q:VK)(E:XK),nY k A->Zh P w K mg base A outer s H->BindsTo s fd args (ps.zip us)->Vals vs us->sp vs H Q E->
  codeAny (model P w) A (.call (.ref f) args) (CR CX outer P w H s Q E) s
def Zh.make{P:Program}{w:World}{K:Fg_}{mg:Str->Option Value}{base:Heap}{A:Around}{outer:List Env}{s:Shared}{H:Hp}(e:Zh P w K mg base A outer s H)(C:Addr)(us:List Value)(q:List (Str×Value)):
  Zh P w K mg base (A.under (.builtin "type.__call__" ⟨.ref C::us,q⟩)) outer s H:=⟨by first|exact e.frames|(simpa [Around.under,Code.envs,Code.isFrame,pushEnvs] using e.frames),e.mod,e.bs,e.bsz,e.funs,e.frf,e.hok,e.bare⟩
section
variable{X:Cx}{pins:List (Addr×Obj)}{σ:St}{H:Hp}{s s':Shared}
def Inv.env0(I:Inv X pins σ H s):Zh X.prog X.w X.K X.mg X.base X.A X.stack s H:=
 ⟨I.ok.frames,I.ok.mod,I.bs,zF I.ok.bsz I.sz,I.stack,I.stkFree,I.hok,I.bare⟩
def Inv.after{Q:VK}{u:Value}(I:Inv X pins σ H s)(h:CE X.stack X.prog X.w H s Q u s'):EP X pins σ Q u s':=by
 obtain⟨v,H',os,bare,un,hok,r,q⟩:=h;obtain⟨hh,g,d,t,aa⟩:=s';obtain rfl:aa=s.os:=os;exact⟨v,H',I.call (h':=hh) (g':=g) (d':=d) (t':=t) (ch:=[]) un hok bare (λb z=>absurd z (by simp)),r,q⟩
end
noncomputable def Rc(sp:Sp)(dvs:List V)(E:XK)(t:TA):TE:=λσ H Q=>t σ H λvs H1=>sp (vs++dvs) H1 Q E
noncomputable def abR(C:Addr)(sp:Sp)(dvs:List V)(E:XK)(t:TA):TE:=λσ H Q=>t σ H λvs H1=>∀x dx,H1 x=none->H1 dx=none->dx≠x->
 sp (.ref x::(vs++dvs)) (upd (upd H1 dx (.own x)) x (.ins C dx [])) (λv H2=>v=.non/\Q (.ref x) H2) E
noncomputable def Binds(K:Fg_)(fd:FuncData)(ps:List Str)(ds:List Value):Prop:=
 ∀(s:Shared)(us:List Value),K.In s.heap->(us++ds).length=ps.length->BindsTo s fd ⟨us,[]⟩ (ps.zip (us++ds))
def Binds.all{K:Fg_}{fd:FuncData}{ps:List Str}(h:∀us:List Value,us.length=ps.length->bindArgs fd ⟨us,[]⟩=pure (ps.zip us)):Binds K fd ps []:=λs us _ hl=>by
 rw[z0]at hl⊢;exact .of_eq (h us hl)
noncomputable def xO(CX:CXT)(X:Cx)(E:XK):Prop:=∀(pins:List (Addr×Obj))(σ:St)(H:Hp)(s:Shared)(e:Value)(s':Shared),Inv X pins σ H s->CX X.stack H s E e s'->X.xe e s'
section
variable{X:Cx}{CX:CXT}{k:Nat}{f C:Addr}{fd:FuncData}{ps:List Str}{sp:Sp}{dvs:List V}{ds:List Value}{E:XK}{x m:Str}{p pos apos:Pos}{e o:Expr}{es:List Expr}{ta:TE}{t:TA}
def Tt{pins:List (Addr×Obj)}{σ:St}{H:Hp}{s:Shared}{Q:VK}{us:List Value}{vs:List V}(F:ji X.prog X.w X.K X.mg X.base CX k f fd ps sp)(hr:nY k X.A)(hb:Binds X.K fd ps ds)(hd:Vals dvs ds)(hx:xO CX X E)
  (I:Inv X pins σ H s) (r:Vals vs us) (h:sp (vs++dvs) H Q E):wpAny (model X.prog X.w) X.A (call (.ref f) us) (EP X pins σ Q) X.xe s:=by
 have z:Vals (vs++dvs) (us++ds):=r.append hd;have hl:(us++ds).length=ps.length:=by rw[<-z.length];exact F.len _ _ _ _ h
 refine zz7 (codeAny_mono (F.run X.A X.stack s H ⟨us,[]⟩ (us++ds) (vs++dvs) Q E hr I.env0 (hb s us I.kIn hl) z h) λr s' q=>?_)
 cases r with
 |error e=>exact hx pins σ H s e s' I q
 |ok fl=>
  cases fl with
  |ret u=>exact I.after q
  |next=>exact False.elim q
  |brk=>exact False.elim q
  |cont=>exact False.elim q
def iC(F:ji X.prog X.w X.K X.mg X.base CX k f fd ps sp)(hr:nY k X.A)(hg:Gl X x)(hm:X.mg x=some (.ref f))(hk:PySem.W.keepIn X.K (.ref f)=true)(hb:Binds X.K fd ps ds)(hd:Vals dvs ds)(hx:xO CX X E)
  (ha:PA X (e::es) t) (z:(x==("__debug__" :Str))=false:=by decide) (he:starEach (e::es) X.env=(false,eval e X.env)::starEach es X.env:=by rfl) (hpl:(backTo pos (starEach es X.env)).any (·.1)=false:=by rfl):
  PE X (.Call (.Name x p) (e::es) [] pos) (Rc sp dvs E t):=by
 intro pins s σ H Q I h;refine yi (nM I hg hm ?_ z);refine yI (h₀:=X.base) I.ok.mod.kin hk (thn (ha pos pins s σ H _ I h) λus s1 ⟨vs,H1,I1,r,q⟩=>⟨I1.kIn,?_⟩) he hpl;exact Tt F hr hb hd hx I1 r q
structure Mk(K:Fg_)(C f:Addr):Prop where
 makes:PySem.W.makesIn K C=true
 init:PySem.W.findIn K (.ref C) "__init__" =some (some (.ref f))
 fn:PySem.W.isFn K (.ref f)=true
 kp:PySem.W.keepIn K (.ref C)=true
def Xp{pins:List (Addr×Obj)}{σ:St}{H:Hp}{s:Shared}{Q:VK}{us:List Value}{vs:List V}(M:Mk X.K C f)(F:ji X.prog X.w X.K X.mg X.base CX k f fd ps sp)(hr:nY (k+1) X.A)(hb:Binds X.K fd ps ds)(hd:Vals dvs ds)
  (hx:xO CX X E) (I:Inv X pins σ H s) (r:Vals vs us)
  (h:∀x dx,H x=none->H dx=none->dx≠x->sp (.ref x::(vs++dvs)) (upd (upd H dx (.own x)) x (.ins C dx [])) (λv H2=>v=.non/\Q (.ref x) H2) E):
  wpAny (model X.prog X.w) X.A (call (.ref C) us) (EP X pins σ Q) X.xe s:=by
 have hq:=h (s.heap.objs.size+1) s.heap.objs.size (I.hok.fresh (zzw _)) (I.hok.fresh (ze _)) (zK (Nat.lt_succ_self _));have z:=Inv.made (C:=C) I;have r2:Vals (V.ref (s.heap.objs.size+1)::(vs++dvs)) (Value.ref (s.heap.objs.size+1)::(us++ds)):=.cons rfl (r.append hd)
 have hl:(Value.ref (s.heap.objs.size+1)::us++ds).length=ps.length:=by
  have e:=r2.length;rw[F.len _ _ _ _ hq]at e;exact e.symm
 refine zz7 (Xd (f:=f) I.kIn M.makes M.init (beq_iff_eq.mp M.fn) (codeAny_mono (F.run _ X.stack _ _ ⟨Value.ref (s.heap.objs.size+1)::us,[]⟩ (Value.ref (s.heap.objs.size+1)::(us++ds)) _ _ E (hr.make C us [])
  (z.env0.make C us []) (hb _ (Value.ref (s.heap.objs.size+1)::us) z.kIn hl) r2 hq) λr s' q=>?_))
 cases r with
 |error e=>exact hx pins σ _ _ e s' z q
 |ok fl=>
  cases fl with
  |ret u=>
   obtain⟨v,H',I3,rv,ev,q3⟩:=z.after q;subst ev;exact⟨rv,⟨V.ref (s.heap.objs.size+1),H',I3,rfl,q3⟩⟩
  |next=>exact False.elim q
  |brk=>exact False.elim q
  |cont=>exact False.elim q
def Cz(M:Mk X.K C f)(F:ji X.prog X.w X.K X.mg X.base CX k f fd ps sp)(hr:nY (k+1) X.A)(hg:Gl X x)(hm:X.mg x=some (.ref C))(hb:Binds X.K fd ps ds)(hd:Vals dvs ds)(hx:xO CX X E)
  (ha:PA X (e::es) t) (z:(x==("__debug__" :Str))=false:=by decide) (he:starEach (e::es) X.env=(false,eval e X.env)::starEach es X.env:=by rfl) (hpl:(backTo pos (starEach es X.env)).any (·.1)=false:=by rfl):
  PE X (.Call (.Name x p) (e::es) [] pos) (abR C sp dvs E t):=by
 intro pins s σ H Q I h;refine yi (nM I hg hm ?_ z);refine yI (h₀:=X.base) I.ok.mod.kin M.kp (thn (ha pos pins s σ H _ I h) λus s1 ⟨vs,H1,I1,r,q⟩=>⟨I1.kIn,?_⟩) he hpl;exact Xp M F hr hb hd hx I1 r q
end
noncomputable def PK(X:Cx)(kws:List Keyword)(t:TA):Prop:=
 ∀(pos:Pos)(pins:List (Addr×Obj))(s:Shared)(σ:St)(H:Hp)(Q:List V->Hp->Prop),Inv X pins σ H s->t σ H Q->wpAny (model X.prog X.w) X.A (evalAll ((backToKw pos (keywordEach kws X.env)).map (·.2))) (AP X pins σ Q) X.xe s
section
variable{X:Cx}{CX:CXT}{k:Nat}{f C:Addr}{fd:FuncData}{ps ks:List Str}{sp:Sp}{E:XK}{x m:Str}{p pos apos kpos:Pos}{e o:Expr}{es:List Expr}{kws:List Keyword}{te ta:TE}{t tk:TA}{nm:Option Str}
def acy:PK X [] Ka:=λ_ _ _ _ H Q I h=>wpAny_evalAll_nil ⟨[],H,I,.nil,h⟩
def aas(ha:PE X e te)(hr:PK X kws t):PK X (⟨nm,e,kpos⟩::kws) (jW te t):=by
 intro pos pins s σ H Q I h;show wpAny _ _ (evalAll ((do let v<-eval e X.env;standAt pos;pure v)::(backToKw pos (keywordEach kws X.env)).map (·.2))) _ _ s;refine wpAny_evalAll_cons (zf (thn (ha pins s σ H _ I h) λu z ⟨x,H1,I1,r1,q1⟩=>zf (yA (zq ?_))));exact thn (hr pos pins z σ H1 _ I1 q1) λus s2 ⟨xs,H2,q,r2,q2⟩=>⟨x::xs,H2,q,.cons r1 r2,q2⟩
structure adV(K:Fg_)(fd:FuncData)(ps ks:List Str)(g:List Value->List Value->List Value)(gV:List V->List V->List V):Prop where
 to:∀(s:Shared)(us ws:List Value),K.In s.heap->(g us ws).length=ps.length->BindsTo s fd ⟨us,ks.zip ws⟩ (ps.zip (g us ws))
 rel:∀{vs:List V}{us:List Value}{zs:List V}{ws:List Value},Vals vs us->Vals zs ws->Vals (gV vs zs) (g us ws)
variable{g:List Value->List Value->List Value}{gV:List V->List V->List V}
end
structure gb(N P:List Str)(sc:Scope):Prop where
 kind:sc.kind=.function
 co:sc.isCoroutine=false
 gen:sc.isGenerator=false
 nd:N.Nodup
 pre:N.take P.length=P
 par:∀x∈P,sc.names.lookup x=some .local\/sc.names.lookup x=some .cell
 nofree:∀y∈sc.names,y.2≠.free
theorem KZ{q:Str->Option NameKind}{x:Str}:∀{binds:List (Str×Value)}{m:Str->Option Value},(∀v,(x,v)∉binds)->bindL q binds m x=m x
 |[],_,_=>rfl
 |(n,v)::r,m,h=>by
  unfold bindL;rw[KZ λw hw=>h w (zr _ hw)];split
  ·have:x≠n:=by rintro rfl;exact h v zi
   simp[this]
  ·rfl
theorem Lb{q:Str->Option NameKind}{x:Str}:∀{binds:List (Str×Value)}{m:Str->Option Value},(∀v,(x,v)∉binds)->bindC q binds m x=m x
 |[],_,_=>rfl
 |(n,v)::r,m,h=>by
  unfold bindC;rw[Lb λw hw=>h w (zr _ hw)];split
  ·rfl
  ·have:x≠n:=by rintro rfl;exact h v zi
   simp[this]
theorem MT{q:Str->Option NameKind}{x:Str}{v:Value}:∀{P:List Str}{vs:List Value}{i:Nat}{m:Str->Option Value},P.Nodup->P[i]? =some x->vs[i]? =some v->q x=some .local->
  bindL q (P.zip vs) m x=some v
 |[],_,_,_,_,h,_,_=>by simp at h
 |_::_,[],_,_,_,_,h,_=>by simp at h
 |p::P,w::vs,0,m,nd,h1,h2,hk=>by
  simp at h1 h2;subst h1;subst h2;show bindL q ((p,w)::P.zip vs) m p=_;unfold bindL;rw[KZ λv z=>(yQ.mp nd).1 (zzQ z).1,zp hk];simp
 |p::P,w::vs,i+1,m,nd,h1,h2,hk=>by
  show bindL q ((p,w)::P.zip vs) m x=_;unfold bindL;exact MT (i:=i) (yQ.mp nd).2 (by simpa using h1) (by simpa using h2) hk
theorem Mf{q:Str->Option NameKind}{x:Str}{v:Value}:∀{P:List Str}{vs:List Value}{i:Nat}{m:Str->Option Value},P.Nodup->P[i]? =some x->vs[i]? =some v->q x≠some .local->
  bindC q (P.zip vs) m x=some v
 |[],_,_,_,_,h,_,_=>by simp at h
 |_::_,[],_,_,_,_,h,_=>by simp at h
 |p::P,w::vs,0,m,nd,h1,h2,hk=>by
  simp at h1 h2;subst h1;subst h2;show bindC q ((p,w)::P.zip vs) m p=_;unfold bindC;rw[Lb λv z=>(yQ.mp nd).1 (zzQ z).1,zk hk];simp
 |p::P,w::vs,i+1,m,nd,h1,h2,hk=>by
  show bindC q ((p,w)::P.zip vs) m x=_;unfold bindC;exact Mf (i:=i) (yQ.mp nd).2 (by simpa using h1) (by simpa using h2) hk
noncomputable def start(N:List Str)(vs:List V):St:=vs.map some++List.replicate (N.length - vs.length) none
noncomputable def pJ(CX:CXT)(P:Program)(w:World)(K:Fg_)(mg:Str->Option Value)(base:Heap)(N:List Str)(qual:Str)(scope:Scope)(f:Addr)(cd:Value)(A:Around)(outer:List Env)(s:Shared)(H:Hp)(E:XK):Cx where
 prog:=P
 w:=w
 K:=K
 mg:=mg
 base:=base
 A:=A.deeper (envOfC qual scope s.heap.objs.size f cd)
 N:=N
 s₀:=s
 H₀:=H
 env:=envOfC qual scope s.heap.objs.size f cd
 outer:=outer
 stack:=envOfC qual scope s.heap.objs.size f cd::outer
 ex:=[]
 calm:=true
 fn:=λ_=>true
 pn:=[]
 xe:=λe s'=>wpAny (model P w) (A.deeper (envOfC qual scope s.heap.objs.size f cd)) (leaving (envOfC qual scope s.heap.objs.size f cd) e) (λ_ s''=>CX outer H s E e s'') (λe' s''=>CX outer H s E e' s'') s'
def Qu{z:Scope}{n:Nat}{x:Str}(h:z.names.lookup x=some .cell):∃c,(cellsFrom n z.names []).lookup x=some c:=by
 have q:=zzz z.names n [] (.inl h);exact yX.mp q
def Kg{CX:CXT}{P:Program}{w:World}{K:Fg_}{mg:Str->Option Value}{base:Heap}{N ps:List Str}{qual:Str}{scope:Scope}{f:Addr}{cd:Value}{A:Around}{outer:List Env}{s s1:Shared}{H:Hp}{E:XK}{us:List Value}{vs:List V}
  (S:gb N ps scope) (hd:A.handled=none) (e0:Zh P w K mg base A outer s H) (hl:vs.length=ps.length) (r:Vals vs us)
  (x:InCallC s s.heap.objs.size (bindL (envOfC qual scope s.heap.objs.size f cd).kindOf (ps.zip us) λ_=>none) (cellsFrom (s.heap.objs.size+1) scope.names []) (bindC (envOfC qual scope s.heap.objs.size f cd).kindOf (ps.zip us) λ_=>none) s1):
  Inv (pJ CX P w K mg base N qual scope f cd A outer s H E) [] (start N vs) H s1:=by
 have ac:ps.length<=N.length:=by have:=congrArg List.length S.pre;rw[zx]at this;lia
 obtain⟨h1,tk,rfl,hk⟩:=x.done;have aa:∀b:Addr,b∉(pJ CX P w K mg base N qual scope f cd A outer s H E).ex:=λb z=>absurd (show b∈([]:List Addr)from z) (by simp)
 refine ⟨⟨e0.mod,S.kind,rfl,rfl,ze _,λy z c h1 h2=>?_,λy hy=>?_,λy c _ h=>?_,λ_=>hd,Around.frames_deeper e0.frames,.inr ⟨rfl,rfl⟩,λb z=>absurd z (aa b),e0.bs,e0.bsz,λb _ _=>aa b,λb z=>absurd z (aa b),e0.funs,e0.frf⟩,
  rfl,e0.bare,Un.kept hk,⟨_,x.toInCall.ns,λi y v h1 h2 h3=>?_⟩,λy c h=>⟨_,x.cell y c h⟩,e0.hok.fresh (ze _),λy c h=>?_,λp hp=>absurd (show p∈([]:List (Addr×Obj))from hp) (by simp),e0.hok.kept hk,?_⟩
 ·exact name_of_addr x.apart (y0 h1) (y0 h2)
 ·have hy:scope.names.lookup y=some .cell\/scope.names.lookup y=some .free:=hy
  rcases hy with hy|hy
  ·exact Qu hy
  ·exact absurd rfl (S.nofree _ (y0 hy))
 ·exact zzX (x.above y c (y0 h))
 ·have hi:i<vs.length:=by
   unfold start at h2;by_cases hi:i<vs.length
   ·exact hi
   ·rw[yn (by simpa using hi)]at h2
    rw[List.getElem?_replicate]at h2;split at h2<;>cases h2
  have ha:vs[i]? =some v:=by
   unfold start at h2;rw[zZ (by simpa using hi),zE]at h2
   cases e:vs[i]? with
   |none=>rw[e]at h2;cases h2
   |some a=>rw[e]at h2;cases h2;rfl
  obtain⟨u,hu,rv⟩:=r.get ha
  have hp:ps[i]? =some y:=by
   rw[<-S.pre,zzs (by lia)];exact h1
  have ab:ps.Nodup:=by rw[<-S.pre];exact S.nd.sublist (List.take_sublist _ _)
  refine⟨u,rv,?_⟩;rcases S.par y (zb hp)with k|k
  ·exact .inl ⟨k,MT ab hp hu k⟩
  ·obtain⟨c,e⟩:=Qu (n:=s.heap.objs.size+1) k
   refine .inr ⟨.inl k,c,e,?_⟩;have q:=x.cell y c e;rw[Mf ab hp hu (by show scope.names.lookup y≠_;rw[k];decide)]at q;exact q
 ·exact e0.hok.fresh (zzX (x.above y c (y0 h)))
 ·unfold start
  show _=N.length;rw[zm,za,zze];lia
def Yt{CX:CXT}{P:Program}{w:World}{K:Fg_}{mg:Str->Option Value}{base:Heap}{k:Nat}{f:Addr}{name qual:Str}{aa:Arguments}{ab:List Stmt}{scope:Scope}{dV kV ag pm z ct oc:Value}{an od:Option Addr}
  {ah:Array (Option Value)} {N ps:List Str} {sp:Sp} (lk:K.lookup f=some ⟨oc,od,.func (PySem.W.fnOf name qual aa ab scope dV kV ag pm an z ct),ah⟩) (aj:PySem.W.codeIn K z qual=true) (S:gb N ps scope)
  (len:∀vs H Q E,sp vs H Q E->vs.length=ps.length)
  (ad:∀(A:Around)(outer:List Env)(s:Shared)(H:Hp)(vs:List V)(Q:VK)(E:XK),nY k (A.deeper (envOfC qual scope s.heap.objs.size f z))->sp vs H Q E->
   ∃t,PSs (pJ CX P w K mg base N qual scope f z A outer s H E) ab t/\t {nx:=λ_ H'=>Q .non H',rt:=Q} (start N vs) H):
  ji P w K mg base CX (k+1) f (PySem.W.fnOf name qual aa ab scope dV kV ag pm an z ct) ps sp:=by
 refine⟨len,λA outer s H args us vs Q E hr e0 hb r af=>?_⟩;have hl:=len _ _ _ _ af;have KX:K.In s.heap:=e0.mod.kin.keeps λb o e=>(e0.bs b o e).1;have ai:s.heap.NoLimit:=e0.mod.nolimit.keeps λb o e=>(e0.bs b o e).1
 have ac:∀y∈ps.zip us,scope.names.lookup y.1=some .local\/(scope.names.lookup y.1=some .cell/\((cellsFrom (s.heap.objs.size+1) scope.names []).lookup y.1).isSome=true):=fun⟨n,v⟩ hy=>by
  rcases S.par n (zzQ hy).1 with q|q
  ·exact .inl q
  ·exact .inr ⟨q,zzz _ _ _ (.inl q)⟩
 refine codeAny_call_function hr.depth (KX _ _ lk) rfl S.co S.gen rfl (PySem.W.codeRec_of KX aj) (hb _ _ _ _ ?_);refine zz8 S.kind ac λenv he s1 x=>?_;subst he;refine⟨ai.keeps x.toInCall.keep,codeAny_func ?_⟩;obtain⟨t,ht,hq⟩:=ad A outer s H vs Q E (hr.deeper _) af;have I:Inv (pJ CX P w K mg base N qual scope f z A outer s H E) [] (start N vs) H s1:=Kg S hr.hd e0 hl r x;refine zR (ht [] s1 (start N vs) H _ I hq) (λfl s' hs=>?_) λe s' hs=>hs
 have ae:∀{σ':St}{H':Hp}{v:V}{u:Value},Inv (pJ CX P w K mg base N qual scope f z A outer s H E) [] σ' H' s'->RelV v u->Q v H'->CE outer P w H s Q u s':=
  fun{σ' H' v u} J rv q=>⟨v,H',J.os,J.bare,J.base,J.hok,rv,q⟩
 cases fl with
 |ret u=>
  obtain⟨v,σ',H',J,rv,q⟩:=hs;exact ae J rv q
 |next=>
  obtain⟨σ',H',J,q⟩:=hs;exact ae (v:=V.non) (u:=Value.none) J rfl q
 |brk=>
  obtain⟨_,_,_,q⟩:=hs;exact False.elim q
 |cont=>
  obtain⟨_,_,_,q⟩:=hs;exact False.elim q
end L2
namespace L2
open PySem PySem.Spec PyProof.Rows
section
variable{X:Cx}{x:Str}{p pos:Pos}{e:Expr}{es:List Expr}{t:TA}{id T:String}{r:List V->Hp->VK->Prop}
noncomputable def tCB(r:List V->Hp->VK->Prop)(t:TA):TE:=λσ H Q=>t σ H λvs H1=>r vs H1 Q
def gw(q:lX X (.builtin id) r)(hg:Gl X x)(hm:X.mg x=none)(hv:bootBuiltins x=some (.builtin id))(ha:PA X (e::es) t)(hn:x≠ "__name__" :=by decide) (hdb:(x==("__debug__" :Str))=false:=by decide)
  (he:starEach (e::es) X.env=(false,eval e X.env)::starEach es X.env:=by rfl) (hpl:(backTo pos (starEach es X.env)).any (·.1)=false:=by rfl):PE X (.Call (.Name x p) (e::es) [] pos) (tCB r t):=by
 intro pins s σ H Q I h;refine yi (Et I hg hm hv ?_ hn hdb);exact PyProof.Rows.callWith_builtin1 (thn (ha pos pins s σ H _ I h) λus z ⟨vs,H1,I1,r1,q1⟩=>q pins z σ H1 vs us Q I1 r1 q1) he hpl
def iy(q:lX X (.type T) r)(hg:Gl X x)(hm:X.mg x=none)(hv:bootBuiltins x=some (.type T))(ha:PA X (e::es) t)(hn:x≠ "__name__" :=by decide) (hdb:(x==("__debug__" :Str))=false:=by decide)
  (he:starEach (e::es) X.env=(false,eval e X.env)::starEach es X.env:=by rfl) (hpl:(backTo pos (starEach es X.env)).any (·.1)=false:=by rfl):PE X (.Call (.Name x p) (e::es) [] pos) (tCB r t):=by
 intro pins s σ H Q I h;refine yi (Et I hg hm hv ?_ hn hdb);exact PyProof.Rows.callWith_type1 (thn (ha pos pins s σ H _ I h) λus z ⟨vs,H1,I1,r1,q1⟩=>q pins z σ H1 vs us Q I1 r1 q1) he hpl
end
end L2
namespace HT
open PySem PyProof.Rows
section
open PySem.SeqAt
open PySem.AutoSeq1 (wpAny_loadPart')
open PySem.MeetsSeq PySem.MeetsSeq2 PySem.MeetsSeq3
end
section
variable{prog:Program}{w:World}{A:Around}{E:Value->Shared->Prop}{s:Shared}
def cat_tup{t b:Addr}{vs ws:List Value}{Q:Value->Shared->Prop}(ht:IsTup s.heap t vs.toArray)(hb:IsTup s.heap b ws.toArray)(hv:vs≠[])
  (h1:ws=[]->Q (.ref t) s) (h2:ws≠[]->Q (.ref s.heap.objs.size) {s with heap:=s.heap.push {cls:=.type "tuple",data:=.seq (vs++ws).toArray}})
  (hsz:vs.length+ws.length<=sizeLine):wpAny (model prog w) A (binaryOp .Add (.ref t) (.ref b)) Q E s:=by
 obtain⟨⟨cls,dd,data,sl⟩,ho,hc,n,hd⟩:=id ht;obtain⟨⟨ae,z,ad,ac⟩,q,aa,n2,ab⟩:=id hb;simp only at hc hd aa ab;subst hc hd aa ab;have e:vs.toArray++ws.toArray=(vs++ws).toArray:=by simp
 by_cases hw:ws=[]
 ·exact concat_meets ⟨_,ho,rfl⟩ ⟨_,q,rfl⟩ noFill_tuple_add seq_tuple_add PySem.F.slot_tuple_add PySem.F.entry_tuple_add (PySem.F.args_tuple_add_2 _ _)
   (tuple_addW1 t b vs.toArray ws.toArray n n2 dd z sl ac (by simpa using hv) (by simp[hw])) ⟨ho,q,h1 hw⟩
 ·refine concat_meets ⟨_,ho,rfl⟩ ⟨_,q,rfl⟩ noFill_tuple_add seq_tuple_add PySem.F.slot_tuple_add PySem.F.entry_tuple_add (PySem.F.args_tuple_add_2 _ _)
   (tuple_addW2 t b vs.toArray ws.toArray n n2 dd z sl ac (by simpa using hv) (by simpa using hw) (by rw[zn,zn];exact hsz)) ⟨ho,q,?_⟩
  rw[e];exact h2 hw
noncomputable def sIx(n d:Nat):Option Int->Nat
 |none=>d
 |some v=>if v<0 then(v+(n:Int)).toNat else min v.toNat n
def sIx_none(n d:Nat):sIx n d none=d:=rfl
def sIx_nat(n d k:Nat):sIx n d (some (k:Int))=min k n:=by
 show(if(k:Int)<0 then((k:Int)+(n:Int)).toNat else min (k:Int).toNat n)=min k n;rw[zk (by lia),yU]
def abQ(n d:Nat)(hd:d<=n)(o:Option Int):sIx n d o<=n:=by
 cases o with
 |none=>exact hd
 |some v=>
  show(if v<0 then(v+(n:Int)).toNat else min v.toNat n)<=n;by_cases q:v<0
  ·rw[zp q];lia
  ·rw[zk q];exact Nat.min_le_right _ _
def Wt(v:Int)(n d:Nat):(if v<0 then max (v+(n:Int)) 0 else min v (n:Int))=((sIx n d (some v):Nat):Int):=by
 show(if v<0 then max (v+(n:Int)) 0 else min v (n:Int))=(((if v<0 then(v+(n:Int)).toNat else min v.toNat n):Nat):Int);by_cases q:v<0
 ·simp only[zp q];lia
 ·simp only[zk q];lia
def Rn(lo hi:Option Int)(n:Nat):Builtin.Slice.sliceAdjust lo hi 1 (n:Int)=(((sIx n 0 lo:Nat):Int),((sIx n n hi:Nat):Int)):=by
 have h1:¬((1:Int)<0):=by lia
 unfold Builtin.Slice.sliceAdjust;simp only[h1,if_false];refine Prod.ext ?_ ?_
 ·cases lo with
  |none=>rfl
  |some v=>exact Wt v n 0
 ·cases hi with
  |none=>rfl
  |some v=>exact Wt v n n
def Sh(i j:Nat):Builtin.Slice.slicePlaces (i:Int) (j:Int) 1=j - i:=by
 unfold Builtin.Slice.slicePlaces;have h1:(1:Int)>0:=by lia
 simp only[h1,if_true,Int.ediv_one];split<;>lia
def HD{v:Value}{o:Option Int}{Q:Option Int->Shared->Prop}(p:IsPart v o)(h:Q o s):wpAny (model prog w) A (Builtin.Slice.slicePartIndex v) Q E s:=by
 cases p with
 |none=>exact slicePart_none h
 |int i t=>exact slicePart_int h
def DP{sl:Addr}{vl vu:Value}{lo hi:Option Int}{n:Nat}{Q:Int×Int×Nat->Shared->Prop}(hs:s.heap.IsSliceOf sl vl vu .none)(pl:IsPart vl lo)(pu:IsPart vu hi)
  (h:Q (((sIx n 0 lo:Nat):Int),1,sIx n n hi - sIx n 0 lo) s):wpAny (model prog w) A (Builtin.Slice.sliceApplied (.ref sl) (pure (n:Int))) Q E s:=by
 obtain⟨os,z,aa,q⟩:=id hs;unfold Builtin.Slice.sliceApplied Builtin.Slice.sliceFields;refine zf (zf (zzm z q (x:=vl) rfl (zf (zzm z q (x:=vu) rfl (zf (zzm z q (x:=.none) rfl (zq ?_)))))));refine zf (slicePart_none ?_);show wpAny _ _ (if((1:Int)==0)=true then _ else _) _ _ s;rw[zk (by decide)];refine zf (HD pl (zf (HD pu (zf (zq ?_)))));show wpAny _ _ (match Builtin.Slice.sliceAdjust lo hi 1 (n:Int)with|(lo,hi)=>pure (lo,(1:Int),Builtin.Slice.slicePlaces lo hi 1)) _ _ s;rw[Rn lo hi n];show wpAny _ _ (pure (((sIx n 0 lo:Nat):Int),(1:Int),Builtin.Slice.slicePlaces ((sIx n 0 lo:Nat):Int) ((sIx n n hi:Nat):Int) 1)) _ _ s;rw[Sh];exact zq h
def Yc(xs:Array Value)(i k:Nat):((List.range k).filterMap fun(m:Nat)=>xs[((i:Int)+(m:Int)*1).toNat]?).toArray=((xs.toList.drop i).take k).toArray:=by
 have e:(fun(m:Nat)=>xs[((i:Int)+(m:Int)*1).toNat]?)=λm=>xs[i+m]? :=by
  funext m;have:((i:Int)+(m:Int)*1).toNat=i+m:=by lia
  rw[this]
 rw[e];have:=pick_run xs i k;rw[List.filterMap_map]at this;have q:((λx=>xs[x]?)∘λx=>i+x)=λm=>xs[i+m]? :=rfl;rw[q]at this;rw[this]
def getItem_tuple_cut{t sl:Addr}{items:Array Value}{vl vu:Value}{lo hi:Option Int}{Q:Value->Shared->Prop}(ht:IsTup s.heap t items)(hs:s.heap.IsSliceOf sl vl vu .none)(pl:IsPart vl lo)(pu:IsPart vu hi)
  (hw:¬(sIx items.size 0 lo=0/\sIx items.size items.size hi=items.size))
  (h:Q (.ref s.heap.objs.size) {s with heap:=s.heap.push {cls:=.type "tuple",data:=.seq ((items.toList.drop (sIx items.size 0 lo)).take (sIx items.size items.size hi - sIx items.size 0 lo)).toArray}})
  (hsz:items.size<=sizeLine):wpAny (model prog w) A (getItem (.ref t) (.ref sl)) Q E s:=by
 have z:sizeOk (.seq ((items.toList.drop (sIx items.size 0 lo)).take (sIx items.size items.size hi - sIx items.size 0 lo)).toArray):=by
  show((items.toList.drop (sIx items.size 0 lo)).take (sIx items.size items.size hi - sIx items.size 0 lo)).toArray.size<=sizeLine;rw[zn,zx,z6,zH];lia
 have hj:sIx items.size items.size hi<=items.size:=abQ _ _ (ze _) hi;obtain⟨os,ac,ad,ae⟩:=id hs;have ab:s.TypeIs (.ref sl) "slice" :=⟨os,ac,ad⟩;unfold getItem
 try with_reducible refine ym ?_
 first|refine zf (zq ?_)|skip
 refine zf (wpAny_sequenceKey ht.typeIs (by decide) ?_)
 refine zf (wpAny_callSpecial?_slot (name:=Str.ofString "__getitem__") ht.typeIs PyProof.Rows.slot_tuple_getitem
  (wpAny_call_entry PyProof.Rows.slot_tuple_getitem ht.typeIs entry_tuple_getitem ?_ (args_tuple_getitem _ _)))
 show wpAny _ _ (Builtin.Tuple.tupleItemsOf (.ref t)>>=_) _ _ s;refine zf (tupleItemsOf_ ht ?_);refine zf (wpAny_typeOf ab ?_);rw[zp (by decide)];refine zf (DP hs pl pu ?_)
 have aa:¬((((sIx items.size 0 lo:Nat):Int)==0 && (1:Int)==1 && (sIx items.size items.size hi - sIx items.size 0 lo)==items.size)=true):=by
  intro q;rw[zU,zU]at q;have q1:((sIx items.size 0 lo:Nat):Int)=0:=eq_of_beq q.1.1;have q2:sIx items.size items.size hi - sIx items.size 0 lo=items.size:=eq_of_beq q.2;exact hw ⟨by lia,by lia⟩
 show wpAny _ _ (if(((sIx items.size 0 lo:Nat):Int)==0 && (1:Int)==1 && (sIx items.size items.size hi - sIx items.size 0 lo)==items.size)=true then _ else _) _ _ s;rw[zk aa,Yc]
 first
  |exact zf (m:=Builtin.Tuple.tupleExact _) (zzi (zq ⟨_,rfl,zq h⟩) z)
  |exact zf (m:=Builtin.Tuple.tupleExact _) (zzi (zf (zq (zq ⟨_,rfl,zq h⟩))) z)
  |exact zf (zf (m:=Builtin.Tuple.tupleExact _) (zzi (zq (zq ⟨_,rfl,zq h⟩)) z))
  |exact zf (zf (m:=Builtin.Tuple.tupleExact _) (zzi (zq ⟨_,rfl,zq h⟩) z))
end
end HT
namespace L2
open PySem PySem.Spec PyProof.Rows
abbrev TO:=St->Hp->(Option Int->Hp->Prop)->Prop
noncomputable def PO(X:Cx)(e:Option Expr)(t:TO):Prop:=
 ∀(pins:List (Addr×Obj)) (s:Shared) (σ:St) (H:Hp) (Q:Option Int->Hp->Prop),Inv X pins σ H s->t σ H Q->
  wpAny (model X.prog X.w) X.A (evalPart e X.env) (λu s'=>∃o H',Inv X pins σ H' s'/\IsPart u o/\Q o H') X.xe s
noncomputable def WK:TO:=λ_ H Q=>Q none H
noncomputable def abb(t:TE):TO:=λσ H Q=>t σ H λx H1=>∃i,x=.int i/\Q (some i) H1
def intsAre_of{ns:List Int}:∀{us:List Value},Vals (ns.map V.int) us->IntsAre us ns:=by
 induction ns with
 |nil=>intro us r;rw[yo]at r;cases r;exact .nil
 |cons n ns ih=>
  intro us r;rw[zj]at r
  cases r with
  |cons r1 r2=>
   obtain⟨t,e⟩:=r1;subst e;exact .cons n t (ih r2)
section
variable{X:Cx}{e:Expr}{te:TE}{lo hi:Option Expr}{tl th:TO}{pos p2:Pos}
def iJ:PO X none WK:=by
 intro pins s σ H Q I h;rw[evalPart_none];exact zq ⟨none,H,I,.none,h⟩
def gZ(h:PE X e te):PO X (some e) (abb te):=by
 intro pins s σ H Q I hw;rw[evalPart_some];refine thn (h pins s σ H _ I hw) λu s1 ⟨x,H1,I1,r1,z⟩=>?_;obtain⟨i,rfl,q⟩:=z;obtain⟨t,rfl⟩:=r1;exact⟨some i,H1,I1,.int i t,q⟩
noncomputable def SlR(X:Cx)(r:V->Option Int->Option Int->Hp->VK->Prop):Prop:=
 ∀(pins:List (Addr×Obj)) (s:Shared) (σ:St) (H:Hp) (x:V) (v vl vu:Value) (lo hi:Option Int) (sl:Addr) (Q:VK),Inv X pins σ H s->RelV x v->s.heap.IsSliceOf sl vl vu .none->IsPart vl lo->IsPart vu hi->r x lo hi H Q->
  ∃T id,typeLookup (.type T) "__getitem__" =pure (some (.builtin id))/\s.TypeIs v T/\wpAny (model X.prog X.w) X.A (getItem v (.ref sl)) (EP X pins σ Q) X.xe s
noncomputable def tSl(r:V->Option Int->Option Int->Hp->VK->Prop)(te:TE)(tl th:TO):TE:=λσ H Q=>te σ H λx H1=>tl σ H1 λl H2=>th σ H2 λu H3=>r x l u H3 Q
def gQ{r:V->Option Int->Option Int->Hp->VK->Prop}(hr:SlR X r)(he:PE X e te)(hl:PO X lo tl)(hu:PO X hi th):PE X (.Subscript e (.Slice lo hi none p2) pos) (tSl r te tl th):=by
 intro pins s σ H Q I h;refine Subscript_ (thn (he pins s σ H _ I h) λv s1 ⟨x,H1,I1,r1,q1⟩=>?_);refine wpAny_Slice (thn (hl pins s1 σ H1 _ I1 q1) λvl s2 ⟨l,H2,I2,pl,q2⟩=>thn (hu pins s2 σ H2 _ I2 q2) λvu z ⟨u,H3,I3,pu,q3⟩=>?_);rw[evalPart_none];refine zq ?_;have I4:Inv X pins σ H3 {z with heap:=z.heap.push {cls:=.type "slice",data:=.fields #[vl,vu,.none]}}:=I3.kept (t':=z.toks) λb ob q=>zd _ q;obtain⟨T,id,hT,ht,hg⟩:=hr pins {z with heap:=z.heap.push {cls:=.type "slice",data:=.fields #[vl,vu,.none]}} σ H3 x v vl vu l u z.heap.objs.size Q I4 r1 (Heap.IsSliceOf.new ..) pl pu q3;show wpAny (model X.prog X.w) X.A (subscriptTail e (.Slice lo hi none p2) v (.ref z.heap.objs.size)) (EP X pins σ Q) X.xe {z with heap:=z.heap.push {cls:=.type "slice",data:=.fields #[vl,vu,.none]}};exact tail_any (ops:=[.ref z.heap.objs.size,v]) ht hT hg (by with_unfolding_all rfl)
noncomputable def CK(xs:List V)(lo hi:Option Int):List V:=(xs.drop (HT.sIx xs.length 0 lo)).take (HT.sIx xs.length xs.length hi - HT.sIx xs.length 0 lo)
def FJ(xs:List V)(lo hi:Option Int):(CK xs lo hi).length<=xs.length:=by
 unfold CK;rw[zx,z6];lia
noncomputable def adg(K:Fg_):V->Option Int->Option Int->Hp->VK->Prop:=λx lo hi H Q=>∃a xs,x=.ref a/\SqT K H a xs/\
 ¬(HT.sIx xs.length 0 lo=0/\HT.sIx xs.length xs.length hi=xs.length)/\∀p,H p=none->Q (.ref p) (upd H p (.tup (CK xs lo hi)))
def aco:SlR X (adg X.K):=by
 intro pins s σ H x v vl vu lo hi sl Q I rx hs pl pu h;obtain⟨a,xs,rfl,hx,hw,q⟩:=h;cases rx;obtain⟨its,r,ht,hz⟩:=I.tuple hx;have z:its.toArray.size=xs.length:=by rw[zn];exact r.length.symm
 refine⟨"tuple",_,PyProof.Rows.slot_tuple_getitem.lookup,ht.typeIs,?_⟩;refine HT.getItem_tuple_cut ht hs pl pu (by rw[z];exact hw) ?_ (by rw[z];exact hz);rw[z];refine⟨.ref s.heap.objs.size,_,I.laid (t':=s.toks) (o:=.tup (CK xs lo hi)) (λb ob q=>zd _ q) (ze _) ?_,rfl,q _ (I.hok.fresh (ze _))⟩;exact⟨zF (FJ xs lo hi) hz,_,(r.drop (HT.sIx xs.length 0 lo)).take (HT.sIx xs.length xs.length hi - HT.sIx xs.length 0 lo),IsTup.new _ _⟩
noncomputable def aaA(K:Fg_):R2:=λx y H Q=>∃a b xs ys,x=.ref a/\y=.ref b/\SqT K H a xs/\SqT K H b ys/\xs≠[]/\xs.length+ys.length<=sizeLine/\
 (ys=[]->Q (.ref a) H)/\(ys≠[]->∀p,H p=none->Q (.ref p) (upd H p (.tup (xs++ys))))
def Vals.nil_iff{xs:List V}{us:List Value}(r:Vals xs us):us=[]↔xs=[]:=by
 cases r with
 |nil=>simp
 |cons _ _=>simp
def ZD:OpR X (binaryOp .Add) (aaA X.K):=by
 intro pins s σ H x y v u Q I rx ry h;obtain⟨a,b,xs,ys,rfl,rfl,ha,hb,hx,hz,q1,q2⟩:=h;cases rx;cases ry;obtain⟨its,r1,p1,_⟩:=I.tuple ha;obtain⟨aa,r2,p2,_⟩:=I.tuple hb;refine HT.cat_tup p1 p2 (λz=>hx (r1.nil_iff.mp z)) (λz=>⟨.ref a,H,I,rfl,q1 (r2.nil_iff.mp z)⟩) (λz=>?_) (by rw[<-r1.length,<-r2.length];exact hz);refine⟨.ref s.heap.objs.size,_,I.laid (t':=s.toks) (o:=.tup (xs++ys)) (λb ob q=>zd _ q) (ze _) ?_,rfl,q2 (λw=>z (r2.nil_iff.mpr w)) _ (I.hok.fresh (ze _))⟩;exact⟨by rw[zm];exact hz,_,r1.append r2,IsTup.new _ _⟩
end
end L2
namespace L2
open PySem PySem.Spec PyProof.Rows
noncomputable def ixN(n:Nat)(i:Int):Option Nat:=if 0<=i then(if i<n then some i.toNat else none)else if -(n:Int)<=i then some (i+n).toNat else none
noncomputable def atI{α:Type}(xs:List α)(i:Int):Option α:=(ixN xs.length i).bind λj=>xs[j]?
def ZX{n:Nat}{i:Int}{j:Nat}(h:ixN n i=some j):seqIndex? i n=some j/\j<n/\ -(n:Int)<=i/\i<n:=by
 unfold ixN at h;by_cases q:0<=i
 ·rw[zp q]at h
  by_cases h1:i<n
  ·rw[zp h1]at h
   have e:i.toNat=j:=zt h;exact⟨by rw[seqIndex_of q h1,e],by lia,by lia,h1⟩
  ·rw[zk h1]at h;cases h
 ·rw[zk q]at h
  by_cases h1: -(n:Int)<=i
  ·rw[zp h1]at h
   have e:(i+n).toNat=j:=zt h;exact⟨by rw[seqIndex_neg (by lia) h1,e],by lia,h1,by lia⟩
  ·rw[zk h1]at h;cases h
def Pb{α:Type}{xs:List α}{i:Int}{v:α}(h:atI xs i=some v):∃j,seqIndex? i xs.length=some j/\xs[j]? =some v/\j<xs.length/\ -(xs.length:Int)<=i/\i<xs.length:=by
 unfold atI at h
 cases e:ixN xs.length i with
 |none=>rw[e]at h;cases h
 |some j=>
  rw[e]at h;obtain⟨h1,h2,q,z⟩:=ZX e;exact⟨j,h1,h,h2,q,z⟩
def gR{α:Type}{xs:List α}{j:Nat}{v:α}(h:xs[j]? =some v):atI xs (j:Int)=some v:=by
 have q:j<xs.length:=(zv.mp h).1
 have e:ixN xs.length (j:Int)=some j:=by
  unfold ixN;rw[zp (by lia),zp (by lia)];simp
 unfold atI;rw[e];exact h
noncomputable def ZS(b:Expr):Prop:=∀o i,subscripted b false o i=operate [o,i] (getItem o i)
noncomputable def IxR(X:Cx)(r:R2):Prop:=
 ∀(value slice:Expr) (pins:List (Addr×Obj)) (s:Shared) (σ:St) (H:Hp) (x y:V) (v u:Value) (Q:VK),Inv X pins σ H s->RelV x v->RelV y u->r x y H Q->
  subscripted slice false v u=operate [v,u] (getItem v u)->wpAny (model X.prog X.w) X.A (subscriptTail value slice v u) (EP X pins σ Q) X.xe s
noncomputable def MtR(X:Cx)(id:String)(r:V->List V->Hp->VK->Prop):Prop:=
 ∀(pins:List (Addr×Obj)) (s:Shared) (σ:St) (H:Hp) (x:V) (xs:List V) (v:Value) (us:List Value) (Q:VK),Inv X pins σ H s->RelV x v->Vals xs us->r x xs H Q->
  wpAny (model X.prog X.w) X.A (call (.builtin id) (v::us)) (EP X pins σ Q) X.xe s
section
variable{X:Cx}{a b:Expr}{ta tb:TE}{pos:Pos}
def gF{r:R2}(hr:IxR X r)(ha:PE X a ta)(hb:PE X b tb)(hs:ZS b):PE X (.Subscript a b pos) (tOp r ta tb):=by
 intro pins s σ H Q I h;exact Subscript_ (adi ha hb I h λv u s2 x y H2 I2 rx z q=>hr a b pins s2 σ H2 x y v u Q I2 rx z q (hs _ _))
noncomputable def aaj(K:Fg_):R2:=λx y H Q=>∃p xs i v,x=.ref p/\y=.int i/\SqL K H p xs/\atI xs i=some v/\Q v H
noncomputable def adB(K:Fg_):R2:=λx y H Q=>∃p xs i v,x=.ref p/\y=.int i/\SqT K H p xs/\atI xs i=some v/\Q v H
noncomputable def aeh:R2:=λx y H Q=>∃z i c,x=.str z/\y=.int i/\z.length<=sizeLine/\atI z.cps.toList i=some c/\Q (.str ⟨#[c]⟩) H
def aaE:IxR X (aaj X.K):=by
 intro value ac pins s σ H x y v u Q I rx ry h hs;obtain⟨p,xs,i,z,rfl,rfl,hq,he,q⟩:=h;cases rx;obtain⟨t,rfl⟩:=ry;obtain⟨its,r,pl,hz⟩:=I.list hq;obtain⟨j,h1,h2,h3,h4,h5⟩:=Pb he;obtain⟨w,ew,ab⟩:=r.get h2;have hl:=r.length;have hn:=Kp;have aa:EP X pins σ Q w s:=⟨z,H,I,ab,q⟩;by_cases h0:0<=i
 ·have hj:i.toNat=j:=by
   rw[seqIndex_of h0 h5]at h1;exact zt h1
  exact item_listR pl.isList h0 (by lia) (by rw[hj];simpa using ew) aa hs
 ·have hj:(i+(its.toArray.size:Int)).toNat=j:=by
   rw[seqIndex_neg (by lia) h4]at h1;rw[zn,<-hl];exact zt h1
  exact subscriptTail_builtinR (x:=w) pl.isList.typeIs slot_list_getitem.lookup
   (wpAny_getItem_list_neg (Q:=λr s'=>r=w/\EP X pins σ Q r s') pl.isList (by lia) (by rw[zn]<;>lia) (by lia) (by rw[hj];simpa using ew) ⟨rfl,aa⟩) hs
def abd:IxR X (adB X.K):=by
 intro value ab pins s σ H x y v u Q I rx ry h hs;obtain⟨p,xs,i,z,rfl,rfl,hq,he,q⟩:=h;cases rx;obtain⟨t,rfl⟩:=ry;obtain⟨its,r,pl,hz⟩:=I.tuple hq;obtain⟨j,h1,h2,h3,h4,h5⟩:=Pb he;obtain⟨w,ew,aa⟩:=r.get h2;have hl:=r.length;have hn:=Kp;have ac:EP X pins σ Q w s:=⟨z,H,I,aa,q⟩
 exact subscriptTail_builtinR (x:=w) pl.typeIs slot_tuple_getitem.lookup
  (getItem_tuple (j:=j) (Q:=λr s'=>r=w/\EP X pins σ Q r s') pl (by lia) (by lia) (by rw[zn,<-hl];exact h1) (by simpa using ew) ⟨rfl,ac⟩) hs
def Tu:IxR X aeh:=by
 intro value aa pins s σ H x y v u Q I rx ry h hs;obtain⟨z,i,c,rfl,rfl,hz,he,q⟩:=h;obtain⟨t,rfl⟩:=rx;obtain⟨t',rfl⟩:=ry;obtain⟨j,h1,h2,h3,h4,h5⟩:=Pb he;have hl:z.cps.toList.length=z.length:=by simp[Str.length]
 rw[hl]at h1 h4 h5;have hn:=Kp
 exact tail_any (typeIs_str s z t) slot_str_getitem.lookup (getItem_str (c:=c) (by
  have e1:decide (i< -(2^63:Int))=false:=zB (by lia);have e2:decide (i>=2^63)=false:=zB (by lia);rw[e1,e2,Bool.or_false]) (by rw[h1];simpa using h2) ⟨.str ⟨#[c]⟩,H,I.tok _,⟨_,rfl⟩,q⟩) hs
theorem Inv.lst{pins:List (Addr×Obj)}{σ:St}{H:Hp}{s:Shared}{p:Addr}{xs:List V}(I:Inv X pins σ H s)(h:H p=some (.lst xs)):
  ∃(its:List Value)(n:Nat),Vals xs its/\s.heap.get? p=some {cls:=.type "list",data:=.seq its.toArray n}/\xs.length<=sizeLine:=by
 obtain⟨z,its,n,r,e⟩:=I.hok p _ h;exact⟨its,n,r,e,z⟩
def Mw(lo hi:Option Int)(n:Nat):(sliceBounds lo hi none n).1=((HT.sIx n 0 lo:Nat):Int)/\(sliceBounds lo hi none n).2.1=((HT.sIx n n hi:Nat):Int)/\(sliceBounds lo hi none n).2.2=1:=by
 refine⟨?_,?_,rfl⟩
 ·cases lo with
  |none=>simp[sliceBounds,HT.sIx]
  |some i=>
   simp only[sliceBounds,HT.sIx,Option.getD_none,show(1:Int)>0 by decide,if_true];by_cases h:i<0
   ·simp only[h,if_true]<;>lia
   ·simp only[h,if_false]<;>lia
 ·cases hi with
  |none=>simp[sliceBounds,HT.sIx]
  |some i=>
   simp only[sliceBounds,HT.sIx,Option.getD_none,show(1:Int)>0 by decide,if_true];by_cases h:i<0
   ·simp only[h,if_true]<;>lia
   ·simp only[h,if_false]<;>lia
def IK(its:List Value)(lo hi:Option Int):slicePick its.toArray lo hi none=((its.drop (HT.sIx its.length 0 lo)).take (HT.sIx its.length its.length hi - HT.sIx its.length 0 lo)).toArray:=by
 obtain⟨h1,h2,q⟩:=Mw lo hi its.toArray.size;unfold slicePick;rw[h1,h2,q];simp only[sliceRange_one,pick_run,zn]<;>rfl
noncomputable def adH(K:Fg_):V->Option Int->Option Int->Hp->VK->Prop:=λx lo hi H Q=>∃a xs,x=.ref a/\SqL K H a xs/\∀p,H p=none->Q (.ref p) (upd H p (.lst (CK xs lo hi)))
def Zx:SlR X (adH X.K):=by
 intro pins s σ H x v vl vu lo hi sl Q I rx hs pl pu h;obtain⟨a,xs,rfl,hx,q⟩:=h;cases rx;obtain⟨its,r,ht,hz⟩:=I.list hx;have z:=r.length;refine⟨"list",_,slot_list_getitem.lookup,ht.isList.typeIs,?_⟩;refine wpAny_getItem_list_slice ht.isList hs pl pu .none (by simp) ?_ (by rw[zn]<;>lia);rw[IK,<-z];refine⟨.ref s.heap.objs.size,_,I.laid (t':=s.toks) (o:=.lst (CK xs lo hi)) (λb ob q=>zd _ q) (ze _) ?_,rfl,q _ (I.hok.fresh (ze _))⟩;exact⟨zF (FJ xs lo hi) hz,_,0,(r.drop (HT.sIx xs.length 0 lo)).take (HT.sIx xs.length xs.length hi - HT.sIx xs.length 0 lo),zN _ rfl⟩
noncomputable def Hi:V->Bool
 |.non=>true
 |.bl _=>true
 |.int _=>true
 |.str _=>true
 |_=>false
noncomputable def eqV:V->V->Bool
 |.non,.non=>true
 |.bl a,.bl b=>a==b
 |.bl a,.int b=>(if a then 1 else 0)==b
 |.int a,.bl b=>a==(if b then 1 else 0)
 |.int a,.int b=>a==b
 |.str a,.str b=>a==b
 |_,_=>false
def aby{A:Around}{s:Shared}{y x:V}{u v:Value}(z:RelV y u)(q:RelV x v)(fy:Hi y=true)(fx:Hi x=true):SeqAt.EqAt A s u v (eqV y x):=by
 cases y with
 |non=>
  cases z
  cases x with
  |non=>cases q;exact SeqAt.EqAt.same _
  |bl b=>cases q;exact SeqAt.EqAt.none_bool b
  |int b=>obtain⟨t,rfl⟩:=q;exact SeqAt.EqAt.none_int b t
  |str b=>obtain⟨t,rfl⟩:=q;exact SeqAt.EqAt.none_str b t
  |_=>exact absurd (show false=true from fx) zw
 |bl a=>
  cases z
  cases x with
  |non=>cases q;exact SeqAt.EqAt.bool_none a
  |bl b=>cases q;exact SeqAt.EqAt.bool_bool a b
  |int b=>obtain⟨t,rfl⟩:=q;exact SeqAt.EqAt.bool_int a b t
  |str b=>obtain⟨t,rfl⟩:=q;exact SeqAt.EqAt.bool_str a b t
  |_=>exact absurd (show false=true from fx) zw
 |int a=>
  obtain⟨t',rfl⟩:=z
  cases x with
  |non=>cases q;exact SeqAt.EqAt.int_none a t'
  |bl b=>cases q;exact SeqAt.EqAt.int_bool a t' b
  |int b=>obtain⟨t,rfl⟩:=q;exact SeqAt.EqAt.int_int a t' b t
  |str b=>obtain⟨t,rfl⟩:=q;exact SeqAt.EqAt.int_str a t' b t
  |_=>exact absurd (show false=true from fx) zw
 |str a=>
  obtain⟨t',rfl⟩:=z
  cases x with
  |non=>cases q;exact SeqAt.EqAt.str_none a t'
  |bl b=>cases q;exact SeqAt.EqAt.str_bool a t' b
  |int b=>obtain⟨t,rfl⟩:=q;exact SeqAt.EqAt.str_int a t' b t
  |str b=>obtain⟨t,rfl⟩:=q;exact SeqAt.EqAt.str_str a t' b t
  |_=>exact absurd (show false=true from fx) zw
 |_=>exact absurd (show false=true from fy) zw
noncomputable def eqU(x:V)(u:Value):Bool:=match u with
 |.none=>eqV .non x
 |.bool b=>eqV (.bl b) x
 |.int i _=>eqV (.int i) x
 |.str z _=>eqV (.str z) x
 |_=>false
def Ze{x y:V}{u:Value}(r:RelV y u)(f:Hi y=true):eqU x u=eqV y x:=by
 cases y with
 |non=>cases r;rfl
 |bl b=>cases r;rfl
 |int i=>obtain⟨t,rfl⟩:=r;rfl
 |str z=>obtain⟨t,rfl⟩:=r;rfl
 |_=>exact absurd (show false=true from f) zw
theorem Ge{x:V}:∀{xs:List V}{us:List Value},Vals xs us->xs.all Hi=true->us.any (eqU x)=xs.any λy=>eqV y x
 |_,_,.nil,_=>rfl
 |y::xs,u::us,.cons r t,f=>by
  rw[yz,zU]at f;rw[zzM,zzM,Ze r f.1,Ge t f.2]
theorem Bh{A:Around}{s:Shared}{x:V}{v:Value}(z:RelV x v)(q:Hi x=true):∀{xs:List V}{us:List Value},Vals xs us->xs.all Hi=true->∀u∈us,SeqAt.EqAt A s u v (eqU x u)
 |_,_,.nil,_=>λu hu=>by cases hu
 |y::xs,u::us,.cons r t,f=>λu' hu=>by
  rw[yz,zU]at f;rcases zh.mp hu with rfl|hu
  ·rw[Ze r f.1];exact aby r z f.1 q
  ·exact Bh z q t f.2 u' hu
noncomputable def inV(x:V)(xs:List V):Bool:=xs.any λy=>eqV y x
noncomputable def rIn(K:Fg_)(neg:Bool):R2:=λx y H Q=>∃p xs,y=.ref p/\(SqL K H p xs\/SqT K H p xs)/\Hi x=true/\xs.all Hi=true/\Q (.bl (if neg then !inV x xs else inV x xs)) H
def Uo:OpR X (compareOp .In) (rIn X.K false):=by
 intro pins s σ H x y v u Q I rx ry h;obtain⟨p,xs,rfl,z,fx,fs,q⟩:=h;cases ry;rcases z with z|z
 ·obtain⟨its,r,pl,hz⟩:=I.list z
  refine SeqAt.in_listAt (eqU x) pl.isList (λw hw=>Bh rx fx r fs w (by simpa using hw)) ⟨.bl _,H,I,rfl,?_⟩;rw[show its.toArray.any (eqU x)=its.any (eqU x) by simp,Ge r fs];exact q
 ·obtain⟨its,r,pl,hz⟩:=I.tuple z
  refine SeqAt.in_tupleAt (eqU x) pl (λw hw=>Bh rx fx r fs w (by simpa using hw)) ⟨.bl _,H,I,rfl,?_⟩;rw[show its.toArray.any (eqU x)=its.any (eqU x) by simp,Ge r fs];exact q
def Le:OpR X (compareOp .NotIn) (rIn X.K true):=by
 intro pins s σ H x y v u Q I rx ry h;obtain⟨p,xs,rfl,z,fx,fs,q⟩:=h;cases ry;rcases z with z|z
 ·obtain⟨its,r,pl,hz⟩:=I.list z
  refine SeqAt.notIn_listAt (eqU x) pl.isList (λw hw=>Bh rx fx r fs w (by simpa using hw)) ⟨.bl _,H,I,rfl,?_⟩;rw[show its.toArray.any (eqU x)=its.any (eqU x) by simp,Ge r fs];exact q
 ·obtain⟨its,r,pl,hz⟩:=I.tuple z
  refine SeqAt.notIn_tupleAt (eqU x) pl (λw hw=>Bh rx fx r fs w (by simpa using hw)) ⟨.bl _,H,I,rfl,?_⟩;rw[show its.toArray.any (eqU x)=its.any (eqU x) by simp,Ge r fs];exact q
def Dm:OpR X (compareOp .NotIn) (λx y H Q=>∃i j,x=.str i/\y=.str j/\Q (.bl (!(!(Builtin.Str.occurrences j i 0 j.length 1).isEmpty))) H):=by
 intro pins s σ H x y v u Q I rx z h;obtain⟨i,j,rfl,rfl,q⟩:=h;obtain⟨t,rfl⟩:=rx;obtain⟨t',rfl⟩:=z;exact notIn_str ⟨.bl _,H,I,rfl,q⟩
def Mx:lX X (.builtin "len") (λxs H Q=>∃p ys,xs=[.ref p]/\(SqL X.K H p ys\/SqT X.K H p ys)/\Q (.int ys.length) H):=by
 intro pins s σ H xs us Q I r h;obtain⟨p,ys,rfl,hq,q⟩:=h;obtain⟨u,rfl,rx⟩:=vals1 r;cases rx;have hn:=Kp;rcases hq with hq|hq
 ·obtain⟨its,r',pl,hz⟩:=I.list hq
  have z:=r'.length;exact Calls.call_len_list pl.isList (by simp only[zn]<;>lia) ⟨.int ys.length,H,I.tok _,⟨s.toks+1,by rw[zn,z]⟩,q⟩
 ·obtain⟨its,r',pl,hz⟩:=I.tuple hq
  have z:=r'.length;exact len_tuple pl (by simp only[zn]<;>lia) ⟨.int ys.length,H,I.tok _,⟨s.toks+1,by rw[zn,z]⟩,q⟩
def jB:lX X (.builtin "len") (λxs H Q=>∃z,xs=[.str z]/\z.length<=sizeLine/\Q (.int z.length) H):=by
 intro pins s σ H xs us Q I r h;obtain⟨z,rfl,hz,q⟩:=h;obtain⟨u,rfl,t,rfl⟩:=vals1 r;have hn:=Kp;exact len_str (by lia) ⟨.int z.length,H,I.tok _,⟨_,rfl⟩,q⟩
def Lw:lX X (.type "list") (λxs H Q=>∃p ys,xs=[.ref p]/\(SqL X.K H p ys\/SqT X.K H p ys)/\∀l,H l=none->Q (.ref l) (upd H l (.lst ys))):=by
 intro pins s σ H xs us Q I r h;obtain⟨p,ys,rfl,hq,q⟩:=h;obtain⟨u,rfl,rx⟩:=vals1 r;cases rx
 have ab:∀(its:List Value),Vals ys its->ys.length<=sizeLine->∀(h':Heap)(c':Nat),(∀b o',s.heap.get? b=some o'->h'.get? b=some o')->
   h'.get? s.heap.objs.size=some {cls:=.type "list",dict:=none,data:=.seq its.toArray c',slots:= #[]}->EP X pins σ Q (.ref s.heap.objs.size) {s with heap:=h'}:=λits z hz h' c' kp e=>
  ⟨.ref s.heap.objs.size,_,I.laid (t':=s.toks) kp (ze _) (show iZ X.prog X.w _ h' _ (.lst ys)from⟨hz,its,c',z,e⟩),rfl,q _ (I.hok.fresh (ze _))⟩
 rcases hq with hq|hq
 ·obtain⟨its,z,pl,hz⟩:=I.list hq
  have aa:=z.length;obtain⟨o,ho,hc,n,hd⟩:=pl.isList;exact call_list_seq p (.inl rfl) ho hc hd (λh' c' kp e=>ab its z hz h' c' kp e) (by simp only[zn]<;>lia)
 ·obtain⟨its,z,pl,hz⟩:=I.tuple hq
  have aa:=z.length;obtain⟨o,ho,hc,n,hd⟩:=pl;exact call_list_seq p (.inr rfl) ho hc hd (λh' c' kp e=>ab its z hz h' c' kp e) (by simp only[zn]<;>lia)
def JQ:lX X (.type "tuple") (λxs H Q=>∃p ys,xs=[.ref p]/\((SqL X.K H p ys/\∀l,H l=none->Q (.ref l) (upd H l (.tup ys)))\/(SqT X.K H p ys/\Q (.ref p) H))):=by
 intro pins s σ H xs us Q I r h;obtain⟨p,ys,rfl,h⟩:=h;obtain⟨u,rfl,rx⟩:=vals1 r;cases rx;rcases h with⟨hq,q⟩|⟨hq,q⟩
 ·obtain⟨its,z,pl,hz⟩:=I.list hq
  have aa:=z.length;refine call_tuple_list pl.isList (λh' kp=>?_) (by simp only[zn]<;>lia);have I1:Inv X pins σ H {s with heap:=h'}:=I.kept (t':=s.toks) kp
  have I2:Inv X pins σ (upd H h'.objs.size (.tup ys)) {s with heap:=h'.push {cls:=.type "tuple",data:=.seq its.toArray}}:=
   I1.laid (t':=s.toks) (λb o e=>zd _ e) (ze _) (show iZ X.prog X.w _ _ _ (.tup ys)from⟨hz,its,z,IsTup.new _ _⟩)
  exact⟨.ref h'.objs.size,_,I2,rfl,q _ (I1.hok.fresh (ze _))⟩
 ·obtain⟨its,z,pl,hz⟩:=I.tuple hq
  exact call_tuple_same pl ⟨.ref p,H,I,rfl,q⟩
noncomputable def tyV(K:Fg_)(T:String)(x:V)(H:Hp):Prop:=match x with
 |.str _=>T= "str"
 |.int _=>T= "int"
 | .ref p=>(T= "list" /\∃xs,SqL K H p xs)\/(T= "tuple" /\∃o,K.lookup p=some o/\o.cls=.type "tuple" /\o.dict=none)\/
   (T= "dict" /\((∃kvs,H p=some (.dK kvs))\/∃kvs,H p=some (.dT kvs)))\/(T= "set" /\∃S n,H p=some (.set S n))
 |_=>False
def Zr{pins:List (Addr×Obj)}{σ:St}{H:Hp}{s:Shared}{T:String}{x:V}{v:Value}(I:Inv X pins σ H s)(r:RelV x v)(ty:tyV X.K T x H):
  s.TypeIs v T/\∀a,v=.ref a->∃ob,s.heap.get? a=some ob/\ob.dict=none:=by
 cases x with
 |str z=>
  obtain⟨t,rfl⟩:=r;cases (show T= "str" from ty);exact⟨typeIs_str s z t,λ_ e=>nomatch e⟩
 |int i=>
  obtain⟨t,rfl⟩:=r;cases (show T= "int" from ty);exact⟨typeIs_int s i t,λ_ e=>nomatch e⟩
 |ref p=>
  cases r;rcases ty with⟨rfl,xs,hq⟩|⟨rfl,o,q,hc,hd⟩|⟨rfl,q⟩|⟨rfl,S,n,q⟩
  ·obtain⟨its,_,pl,_⟩:=I.list hq
   refine⟨pl.isList.typeIs,λa e=>?_⟩;cases e;obtain⟨o,n,e,c,hd,_⟩:=pl;exact⟨o,e,hd⟩
  ·refine⟨⟨o,I.kIn p o q,hc⟩,λa e=>?_⟩
   cases e;exact⟨o,I.kIn _ o q,hd⟩
  ·have z:∃o,s.heap.get? p=some o/\o.ExactDict:=by
    rcases q with⟨kvs,q⟩|⟨kvs,q⟩
    ·obtain⟨_,_,_,_,o,_,_,e,ex,_⟩:=I.hok p _ q
     exact⟨o,e,ex⟩
    ·obtain⟨_,_,_,_,o,_,_,e,ex,_⟩:=I.hok p _ q
     exact⟨o,e,ex⟩
   obtain⟨o,e,ex⟩:=z;refine⟨⟨o,e,ex.1⟩,λa e2=>?_⟩;cases e2;exact⟨o,e,ex.2.1⟩
  ·obtain⟨o,_,_,_,e,ex,_⟩:=I.hok p _ q
   refine⟨⟨o,e,ex.1⟩,λa e2=>?_⟩;cases e2;exact⟨o,e,ex.2.1⟩
 |_=>exact False.elim ty
noncomputable def adp(K:Fg_)(T:String)(r:V->List V->Hp->VK->Prop)(to:TE):TE:=λσ H Q=>to σ H λx H1=>tyV K T x H1/\r x [] H1 Q
noncomputable def tBM(K:Fg_)(T:String)(r:V->List V->Hp->VK->Prop)(to:TE)(t:TA):TE:=λσ H Q=>to σ H λx H1=>tyV K T x H1/\t σ H1 λxs H2=>r x xs H2 Q
variable{o e:Expr}{es:List Expr}{to:TE}{t:TA}{name:Str}{apos cpos:Pos}{T id:String}{r:V->List V->Hp->VK->Prop}
def acM(pa:PlainAttrs T)(slot:Slot T name id)(z:typeOf (.builtin id)=pure (.type "method_descriptor")) (hm:MtR X id r) (ho:PE X o to)
  (q:attributeBase o name X.env (eval o X.env)=eval o X.env:=by rfl) (hline:(apos.endLine==cpos.line)=true:=by rfl):PE X (.Call (.Attribute o name apos) [] [] cpos) (adp X.K T r to):=by
 intro pins s σ H Q I h;refine wpAny_Call_method0_late q hline (thn (ho pins s σ H _ I h) λv s1 ⟨x,H1,I1,r1,ty,q1⟩=>?_);obtain⟨h1,h2⟩:=Zr I1 r1 ty;exact⟨T,id,pa,slot,z,h1,h2,Calls.callWith_builtin rfl (PySem.evalArgs_none (hm pins s1 σ H1 x [] v [] Q I1 r1 .nil q1))⟩
def ado(pa:PlainAttrs T)(slot:Slot T name id)(z:typeOf (.builtin id)=pure (.type "method_descriptor")) (hm:MtR X id r) (ho:PE X o to) (ha:PA X (e::es) t)
  (q:attributeBase o name X.env (eval o X.env)=eval o X.env:=by rfl)
  (hfew:((backTo cpos (starEach (e::es) X.env)).all (λx=>!x.1) && (backToKw cpos (keywordEach [] X.env)).all (λx=>x.1.isSome)
   && decide ((e::es).length+([]:List Keyword).length+(if([]:List Keyword).isEmpty then 0 else 1)<30))=true:=by rfl)
  (hline:(apos.endLine==cpos.line)=true:=by rfl) (hs:starEach (e::es) X.env=(false,eval e X.env)::starEach es X.env:=by rfl) (hplain:(backTo cpos (starEach es X.env)).any (·.1)=false:=by rfl):
  PE X (.Call (.Attribute o name apos) (e::es) [] cpos) (tBM X.K T r to t):=by
 intro pins s σ H Q I h;refine wpAny_Call_method_late q hfew hline rfl (thn (ho pins s σ H _ I h) λv s1 ⟨x,H1,I1,r1,ty,q1⟩=>?_);obtain⟨h1,h2⟩:=Zr I1 r1 ty;refine⟨T,id,pa,slot,z,h1,h2,?_⟩;have hA:=ha cpos pins s1 σ H1 _ I1 q1;rw[hs]at hA⊢;refine Calls.callWith_builtin (by show(false||(backTo cpos (starEach es X.env)).any (·.1))=false;rw[hplain]<;>rfl) (Calls.evalArgs_plain ?_);exact thn hA λus s2 ⟨vs,H2,I2,r2,q2⟩=>hm pins s2 σ H2 x vs v us Q I2 r1 r2 q2
end
end L2
namespace L2
open PySem PySem.Spec PyProof.Rows
noncomputable def MtM(X:Cx)(id:String)(r:V->List V->Hp->VK->Prop):Prop:=
 ∀(pins:List (Addr×Obj)) (s:Shared) (σ:St) (H:Hp) (x:V) (xs:List V) (v:Value) (us:List Value) (Q:VK),Inv X pins σ H s->RelV x v->Vals xs us->r x xs H Q->
  wpAny (model X.prog X.w) X.A (call (.builtin id) (v::us)) (EP X pins σ Q) X.xe s
def Vals.one{x:V}{us:List Value}(h:Vals [x] us):∃u,us=[u]/\RelV x u:=by
 cases h with|cons r q=>cases q;exact⟨_,rfl,r⟩
def Vals.zero:∀{us:List Value},Vals [] us->us=[]
 |_,.nil=>rfl
theorem Vals.dropLast{xs:List V}{us:List Value}(h:Vals xs us):Vals xs.dropLast us.dropLast:=by
 induction h with
 |nil=>exact .nil
 |cons r t ih=>
  cases t with
  |nil=>exact .nil
  |cons q t'=>exact .cons r ih
theorem Vals.rep{xs:List V}{us:List Value}(h:Vals xs us):∀k:Nat,Vals (List.replicate k xs).flatten (List.replicate k us).flatten
 |0=> .nil
 |k+1=>by
  rw[yu,yu,zzA,zzA];exact Vals.append h (Vals.rep h k)
def Rw{α:Type}(l:List α):l.eraseIdx (l.length - 1)=l.dropLast:=by
 induction l with
 |nil=>rfl
 |cons a r ih=>
  cases r with
  |nil=>rfl
  |cons b r=>
   have e:(a::b::r).length - 1=((b::r).length - 1)+1:=by
    have h1:(a::b::r).length=r.length+2:=rfl;have h2:(b::r).length=r.length+1:=rfl;lia
   rw[e,List.eraseIdx_cons_succ,ih]
   all_goals rfl
theorem foldl_rep(its:List Value):∀(k:Nat)(acc:List Value),
  List.foldl (λx1 z=>x1++z) acc.toArray (List.replicate k its.toArray)=(acc++(List.replicate k its).flatten).toArray
 |0,acc=>by simp
 |k+1,acc=>by
  have e:acc.toArray++its.toArray=(acc++its).toArray:=by simp
  have q:(acc++its)++(List.replicate k its).flatten=acc++(List.replicate (k+1) its).flatten:=by
   rw[yu,zzA,List.append_assoc]
  rw[<-q,<-foldl_rep its k (acc++its),<-e,yu,zzc]
section
variable{X:Cx}{pins:List (Addr×Obj)}{σ:St}{H:Hp}{s:Shared}{l b:Addr}{xs ys zs:List V}
def Inv.lset{its its':List Value}{n:Nat}{f:Array Value->Array Value}{t':Nat}(I:Inv X pins σ H s)(z:H l=some (.lst xs))
  (e:s.heap.get? l=some {cls:=.type "list",data:=.seq its.toArray n}) (hf:f its.toArray=its'.toArray) (hv:Vals ys its') (hz:ys.length<=sizeLine):
  Inv X pins σ (upd H l (.lst ys)) {s with heap:=s.heap.update l (Obj.mapSeq f),toks:=t'}:=by
 have q:=PySem.IsL.update e f;rw[hf]at q;refine I.write (x:=l) (e:=l) (by rw[z];exact trivial) (.inl rfl) (λb' u hb hu=>(yE s.heap (Obj.mapSeq f) (Ne.symm hb)).trans hu) ⟨_,q⟩ ?_;exact⟨hz,its',_,hv,q⟩
def Inv.lnew{its:List Value}{t':Nat}(I:Inv X pins σ H s)(hv:Vals ys its)(z:ys.length<=sizeLine):
  Inv X pins σ (upd H s.heap.objs.size (.lst ys)) {s with heap:=s.heap.push {cls:=.type "list",data:=.seq its.toArray},toks:=t'}:=
 I.laid (λ_ _ q=>zd _ q) (ze _) ⟨z,its,0,hv,zN _ rfl⟩
theorem Inv.fresh(I:Inv X pins σ H s):H s.heap.objs.size=none:=I.hok.fresh (ze _)
def Inv.lstM(I:Inv X pins σ H s)(q:H l=some (.lst xs)):xs.length<=sizeLine/\∃(its:List Value)(n:Nat),Vals xs its/\xs.length=its.length/\s.heap.get? l=some {cls:=.type "list",data:=.seq its.toArray n}:=by
 obtain⟨z,its,n,r,e⟩:=I.hok l _ q;exact⟨z,its,n,r,r.length,e⟩
def XQ{n:Nat}(h:n<=sizeLine):Builtin.List.listTooLong n=false:=by
 unfold Builtin.List.listTooLong;exact zB (by lia)
end
section
variable{X:Cx}
noncomputable def Oz:V->List V->Hp->VK->Prop:=λx vs H Q=>∃l xs y,x=.ref l/\vs=[y]/\H l=some (.lst xs)/\xs.length<sizeLine/\Q .non (upd H l (.lst (xs++[y])))
def mj:MtM X "list.append" Oz:=by
 intro pins s σ H x vs v us Q I rx rv h;obtain⟨l,xs,y,rfl,rfl,hH,hz,q⟩:=h;cases rx;obtain⟨u,rfl,ru⟩:=rv.one;obtain⟨z,its,n,r,hl,e⟩:=I.lstM hH;refine zzv F.slot_list_append ⟨_,e,rfl⟩ F.entry_list_append (F.args_list_append_2 _ _) (PySem.list_append l its.toArray n u (by rw[zn];lia)) ⟨e,?_⟩;refine⟨.non,_,I.lset (its':=its++[u]) hH e (by simp) (r.append (.cons ru .nil)) ?_,rfl,q⟩;rw[zm,yb];lia
noncomputable def adQ:V->List V->Hp->VK->Prop:=λx vs H Q=>∃l xs y,x=.ref l/\vs=[]/\H l=some (.lst xs)/\xs[xs.length - 1]? =some y/\Q y (upd H l (.lst xs.dropLast))
def Zc:MtM X "list.pop" adQ:=by
 intro pins s σ H x vs v us Q I rx rv h;obtain⟨l,xs,y,rfl,rfl,hH,hy,q⟩:=h;cases rx;have aa:=rv.zero;subst aa;obtain⟨z,its,n,r,hl,e⟩:=I.lstM hH;obtain⟨u,hu,ru⟩:=r.get hy
 have hy':its.toArray[its.toArray.size - 1]? =some u:=by
  show its.toArray[its.length - 1]? =some u;rw[<-Array.getElem?_toList,<-hl];exact hu
 refine zzv F.slot_list_pop ⟨_,e,rfl⟩ F.entry_list_pop (F.args_list_pop_1 _) (MeetsSeq.list_pop_last l its.toArray n u hy' (by rw[zn];lia)) ⟨e,?_⟩;refine⟨y,_,I.lset (its':=its.dropLast) hH e ?_ r.dropLast ?_,ru,q⟩
 ·show its.toArray.eraseIdxIfInBounds (its.toArray.size - 1)=its.dropLast.toArray
  rw[zn,List.eraseIdxIfInBounds_toArray,Rw]
 ·rw[List.length_dropLast]
  lia
noncomputable def adK:R2:=λx y H Q=>∃l b xs zs,x=.ref l/\y=.ref b/\H l=some (.lst xs)/\H b=some (.lst zs)/\xs.length+zs.length<=sizeLine/\∀p,H p=none->Q (.ref p) (upd H p (.lst (xs++zs)))
def vW:OpR X (binaryOp .Add) adK:=by
 intro pins s σ H x y v u Q I rx ry h;obtain⟨l,b,xs,zs,rfl,rfl,hH,hB,hz,q⟩:=h;cases rx;cases ry;obtain⟨z,its,n,r,hl,e⟩:=I.lstM hH;obtain⟨z2,aa,n2,r2,ab,e2⟩:=I.lstM hB;refine PySem.P.add_list e e2 ?_ (by rw[zn,zn];lia);have ea:its.toArray++aa.toArray=(its++aa).toArray:=by simp
 rw[ea];exact⟨.ref _,_,I.lnew (t':=s.toks) (r.append r2) (by rw[zm];lia),rfl,q _ I.fresh⟩
noncomputable def adx:R2:=λx y H Q=>∃l k xs,x=.ref l/\y=.int k/\H l=some (.lst xs)/\ -(2^63)<=k/\k<2^63/\xs.length*k.toNat<=sizeLine/\
 ∀p,H p=none->Q (.ref p) (upd H p (.lst (List.replicate k.toNat xs).flatten))
def len_rep{α:Type}(xs:List α)(k:Nat):(List.replicate k xs).flatten.length=k*xs.length:=by
 induction k with
 |zero=>simp
 |succ k ih=>rw[yu,zzA,zm,ih,Nat.succ_mul,Nat.add_comm]
def Qe:OpR X (binaryOp .Mult) adx:=by
 intro pins s σ H x y v u Q I rx ry h;obtain⟨l,k,xs,rfl,rfl,hH,h1,h2,hz,q⟩:=h;cases rx;obtain⟨t,rfl⟩:=ry;obtain⟨z,its,n,r,hl,e⟩:=I.lstM hH;have ac:its.toArray.size*k.toNat<=sizeLine:=by rw[zn,<-hl];exact hz
 have ad:¬its.toArray.size*k.toNat>(2^63 - 1)/8:=by
  have:(sizeLine:Nat)<=(2^63 - 1)/8:=by decide
  lia
 have ab:¬(!Builtin.List.listFitsIndex k)=true:=by
  rw[fitsIndex_both h1 h2];exact zw
 have aa:¬Builtin.List.listTooLong (its.toArray.size*k.toNat)=true:=by
  rw[XQ ac];exact zw
 have ae:List.foldl (λx1 x2=>x1++x2) #[] (List.replicate (if its.toArray.isEmpty=true then 0 else k.toNat) its.toArray)=(List.replicate k.toNat its).flatten.toArray:=by
  have f0:∀m:Nat,List.foldl (λx1 x2=>x1++x2) #[] (List.replicate m its.toArray)=(List.replicate m its).flatten.toArray:=λm=>by
   have:=foldl_rep its m [];rw[yR]at this;exact this
  rw[f0]
  cases its with
  |nil=>simp
  |cons a r'=>rw[zk (by simp)]
 refine wpAny_binaryOp_repeat_ref (T:= "list") (U:= "int") (by decide) ⟨_,e,rfl⟩ (λs'=>typeIs_int s' k t) noFill_list_mul F.fills_int_mul F.slot_int_rmul repeat_list F.slot_int_index.lookup
  (zzv F.slot_int_rmul (typeIs_int s k t) F.entry_int_rmul (F.args_int_rmul_2 _ _) (int___rmul___int_list k t l its.toArray n)
   ⟨e,rfl,⟨_,e,rfl⟩,zzv F.slot_list_mul ⟨_,e,rfl⟩ F.entry_list_mul (F.args_list_mul_2 _ _) (AutoListH.list___mul___list_int_3 l its.toArray n k t ab ad aa) ⟨e,?_⟩⟩)
 rw[ae];exact⟨.ref _,_,I.lnew (t':=s.toks) (r.rep k.toNat) (by rw[len_rep,Nat.mul_comm];exact hz),rfl,q _ I.fresh⟩
end
section
variable{prog:Program}{w:World}{A:Around}{E:Value->Shared->Prop}{s:Shared}
set_option maxRecDepth 100000 in
end
end L2
namespace Att
open PySem PySem.W PySem.Calls PyProof.Rows
def Ft{P:Params}{h:Heap}:∀(ns:List Int)(vs:List Value),WellAll P h vs (ns.map WData.int)->IntsAre vs ns:=by
 intro ns
 induction ns with
 |nil=>
  intro vs w;rw[yo]at w;cases w;exact .nil
 |cons n ns ih=>
  intro vs w;rw[zj]at w
  cases w with
  |cons a b=>
   cases a;exact .cons _ _ (ih _ b)
def Vx{l:OpenLaw}{n:Nat}(hn:l.most=some n){P:Params}{h:Heap}{args:List WData}{z:List Value}
  (aa:l.row.toRowW.claim.pre args=true) (ad:WellAll P h z args):
  ∃a vs ns,z=[Value.ref a]/\args=[WData.list (ns.map WData.int)]/\h.get? a=some {cls:=.type "list",data:=.seq vs.toArray}/\IntsAre vs ns/\ns.length<=n:=by
 have ac:WShape.hasAll [] args [.list .int]=true:=(pre_splitW aa).1;have hc:l.pre.holds [] {args:=args}=true:=(pre_splitW aa).2;obtain⟨d,r,rfl,h1,h2⟩:=hasAllW_cons ac;obtain rfl:=hasAllW_nil h2;obtain⟨xs,rfl,h3⟩:=hasW_list h1;obtain⟨ns,rfl⟩:=items_int h3
 have ab:ns.length<=n:=by
  unfold OpenLaw.pre at hc
  have h4:(WTm.not (.lt (.lit (.int (n:Int))) (.len (.arg 0)))).holds [] {args:=[.list (ns.map .int)]}=true:=by
   have h4:=(holds_andW hc).1;rw[hn]at h4;exact h4
  have h5:=condW_of h4 (w_not (w_lt w_lit (w_len_list (w_arg rfl))));rw[za]at h5;refine Nat.le_of_not_lt λq=>?_;have q':(n:Int)<((ns.length:Nat):Int):=by lia
  first
   |(rw[zS q']at h5;exact absurd h5 (by decide))
   |(simp at h5;lia)
 cases ad with
 |cons w1 w2=>
  cases w2
  cases w1 with
  |list ho hall=>exact⟨_,_,ns,rfl,rfl,ho,Ft ns _ hall,ab⟩
def SN(l:OpenLaw)(args:List WData):l.row.toRowW.claim.post args (.bool true) args=true:=
 postW_of (r:=l.row.toRowW) (X:=(true==true))
  (show WShape.has [] (.bool true) .bool=true by first|rfl|decide|simp[WShape.has,WShape.arms,WShape.armsAll])
  (show(WTm.eq .res (.lit (.bool true))).value [] {args:=args,res:=some (.bool true),after:=args}=some (.bool (true==true))from w_eq_bool (w_res rfl) w_lit) rfl
def attach_call{l:OpenLaw}{n:Nat}{q:Program}{aa:List Str}{XP:(Str->Option Value)->Heap->Prop}{YP:World->Heap->Prop}{d:DefRec}
  (hn:l.most=some n) (ak:d.params.defaults=[])
  (ae:∀(w:World)(s₀ z:Shared)(mg mb:Str->Option Value)(fa:Addr)(o:Obj)(pm cd ac:Value)(a:Addr)(vs:List Value)(ns:List Int),
   Ground q aa [] XP w s₀ mg mb z.heap->YP w z.heap->
   z.heap.get? fa=some o->o.data=.func (docDef d.name d.params d.body d.scope pm cd ac)->z.heap.CodeRec cd d.name->mg d.name=some (.ref fa)->
   z.heap.get? a=some {cls:=.type "list",data:=.seq vs.toArray}->IntsAre vs ns->ns.length<=n->z.gens= #[]->
   codeAny (model l.prog w) callerA (.call (.ref fa) ⟨[.ref a],[]⟩) (λr s'=>r=.ok (.ret (.bool true))/\OldK z.heap s'.heap/\s'.os=z.os/\AllBare s'.gens) z):
  WalkO q aa XP YP l.row.toRowW d [] (λf vs=>PySem.call f vs):=by
 intro w s₀ z mg mb G Y fa o pm cd ac dV kV ho hd aj hD ah hg args al as ag am an ai ao;obtain rfl:dV=.none:=Dflts.none hD ak;obtain rfl:kV=.none:=Dflts.noKw hD;obtain⟨a,vs,ns,rfl,rfl,af,ab,ad⟩:=Vx hn ag ai;refine enter_call (codeAny_mono (ae w s₀ z mg mb fa o pm cd ac a vs ns G Y ho (fd_plain hd) aj ah af ab ad hg) λr s' hq=>?_);obtain⟨rfl,h2,h3,h4⟩:=hq;exact⟨.inl ⟨.bool true,.bool true,[],rfl,λ_=>rfl,.bool true,SN l _,λ_=>⟨List.Pairwise.nil,λ_ hm=>(nomatch hm)⟩⟩,h2,h3,h4⟩
end Att
namespace L2
open PySem PySem.Spec PyProof.Rows
theorem Nk:∀{vs:List Value}{ns:List Int},IntsAre vs ns->Vals (ns.map V.int) vs
 |_,_,.nil=> .nil
 |_,_,.cons n t h=> .cons ⟨t,rfl⟩ (Nk h)
noncomputable def Only(H:Hp):Prop:=∀b,H b=none\/∃o xs,H b=some (.frz o (.lst xs))
def Yk{P:Program}{w:World}{K:Fg_}{mg mb:Str->Option Value}{CX:CXT}{k:Nat}{fa a:Addr}{fd:FuncData}{x:Str}{sp:Sp}{s₁:Shared}{vs:List Value}{ns:List Int}
  (KX:K.In s₁.heap) (ag:s₁.heap.Ns mainGlobals mg) (hb:s₁.heap.Ns builtinsNs mb) (ai:∀x:Str,x≠ "__name__" ->mb x=bootBuiltins x) (ae:s₁.heap.NoLimit) (hg:s₁.gens= #[])
  (ha:s₁.heap.get? a=some {cls:=.type "list",data:=.seq vs.toArray}) (hi:IntsAre vs ns) (hl:ns.length<=sizeLine) (hr:nY k callerA)
  (F:∀base:Heap,K.In base->base.Ns mainGlobals mg->ji P w K mg base CX k fa fd [x] sp) (hbind:∀(s:Shared)(u:Value),BindsTo s fd ⟨[u],[]⟩ [(x,u)])
  (hsp:∀H:Hp,Only H->SqL K H a (ns.map V.int)->sp [.ref a] H (λv _=>v=.bl true) λ_ _ _=>False)
  (hCX:∀H e s',CX [] H s₁ (λ_ _ _=>False) e s'->False):
  codeAny (model P w) callerA (.call (.ref fa) ⟨[.ref a],[]⟩) (λr s'=>r=.ok (.ret (.bool true))/\OldK s₁.heap s'.heap/\s'.os=s₁.os/\AllBare s'.gens) s₁:=by
 have rv:=Nk hi;have af:=hi.length
 have ac:∀H:Hp,Only H->SqL K H a (ns.map V.int)->HOk P w H s₁.heap->(∀b,H b≠none->b=a)->(H a≠none->K.lookup a=none)->
   codeAny (model P w) callerA (.call (.ref fa) ⟨[.ref a],[]⟩) (λr s'=>r=.ok (.ret (.bool true))/\OldK s₁.heap s'.heap/\s'.os=s₁.os/\AllBare s'.gens) s₁:=by
  intro H hO hS hok hA hK;have aa:∀{b:Addr}{o:Obj},s₁.heap.get? b=some o->H b=none->(Xl s₁.heap H).get? b=some o:=λe n=>Yl e n
  have aj:∀{b:Addr}{o:Obj}{es:Array DictEntry}{ep:Nat},s₁.heap.get? b=some o->o.data=.dict es ep->H b=none:=fun{b o es ep} e d=>by
   cases q:H b with
   |none=>rfl
   |some u=>
    have e':b=a:=hA b (by rw[q];simp);subst e';rw[ha]at e;cases e;have d':Data.seq vs.toArray _=Data.dict es ep:=d;cases d'
  have ab:∀{b:Addr}{m:Str->Option Value},s₁.heap.Ns b m->(Xl s₁.heap H).Ns b m:=fun{b m}⟨o,es,ep,e,d,r⟩=>⟨o,es,ep,aa e (aj e d),d,r⟩
  have ah:K.In (Xl s₁.heap H):=λb o e=>aa (KX b o e) (by
   cases q:H b with
   |none=>rfl
   |some u=>
    have e':b=a:=hA b (by rw[q];simp);subst e';rw[hK (by rw[q];simp)]at e;cases e)
  have hM:Mod K mg (Xl s₁.heap H):=⟨ah,ab ag,⟨mb,ab hb,ai⟩,let⟨mc,h1,h2⟩:=ae;⟨mc,ab h1,h2⟩⟩;have e0:Zh P w K mg (Xl s₁.heap H) callerA [] s₁ H:=⟨rfl,hM,λb o e=>aai e,yyh (Ut _ _),trivial,λb hb=>absurd (show b∈([]:List Addr)from hb) (by simp),hok,.of_eq hg⟩;refine codeAny_mono ((F _ ah (ab ag)).run callerA [] s₁ H ⟨[.ref a],[]⟩ [.ref a] [.ref a] _ _ hr e0 (hbind s₁ (.ref a)) (.cons rfl .nil) (hsp H hO hS)) λr s' h=>?_
  cases r with
  |error e=>exact(hCX H e s' h).elim
  |ok fl=>
   cases fl with
   |next=>exact False.elim h
   |brk=>exact False.elim h
   |cont=>exact False.elim h
   |ret u=>
    obtain⟨v,H',os,bare,un,ad,r',q⟩:=h;have q':v=.bl true:=q;subst q';obtain rfl:u=Value.bool true:=r';refine⟨rfl,OldK.of_keep λb o e=>?_,os,bare⟩
    cases q:H b with
    |none=>exact un.keep b o e q (by intro z;exact absurd (show b∈([]:List Addr)from z) (by simp)) (by simp)
    |some u=>
     rcases hO b with z|⟨ob,xs,z⟩
     ·rw[q]at z;cases z
     ·have z2:=un.frzs b ob _ z
      obtain⟨e1,_⟩:=hok b _ z;obtain⟨e2,_⟩:=ad b _ z2;rw[e]at e1;cases e1;exact e2
 cases hk:K.lookup a with
 |some o=>
  have e:=KX a o hk;rw[ha]at e;cases e;refine ac (λ_=>none) (λ_=> .inl rfl) (.inr ⟨_,vs.toArray,_,hk,rfl,rfl,rfl,by rw[zn,af];exact hl,by simpa using rv⟩) (λb u z=>by have z':(none:Option HO)=some u:=z;cases z') (λb z=>absurd rfl z) λz=>absurd rfl z
 |none=>
  refine ac (λb=>if b=a then some (.frz {cls:=.type "list",data:=.seq vs.toArray} (.lst (ns.map V.int)))else none) (λb=>?_) (.inl (.inr ⟨{cls:=.type "list",data:=.seq vs.toArray},zp rfl⟩)) (λb u z=>?_) (λb z=>?_) λ_=>hk
  ·by_cases hb:b=a
   ·exact .inr ⟨_,_,zp hb⟩
   ·exact .inl (zk hb)
  ·by_cases hb:b=a
   ·have z':=(zp hb).symm.trans z
    cases z';subst hb;exact⟨ha,by rw[za];exact hl,vs,_,rv,ha⟩
   ·have z':=(zk hb).symm.trans z
    cases z'
  ·by_cases hb:b=a
   ·exact hb
   ·exact absurd (zk hb) z
end L2
namespace L2
open PySem PySem.Spec PyProof.Rows
def walk_of{l:PySem.W.OpenLaw}{n k:Nat}{q:Program}{ab:List Str}{XP:(Str->Option Value)->Heap->Prop}{YP:World->Heap->Prop}{d:DefRec}{K:Params->Fg_}{CX:World->CXT}{sp:World->Sp}{x:Str}
  (hn:l.most=some n) (ae:n<=sizeLine) (ah:d.params.defaults=[]) (hr:nY k callerA)
  (hY:∀(w:World)(h:Heap),YP w h->(K w.params).In h)
  (F:∀(w:World)(mg:Str->Option Value)(fa:Addr)(h:Heap),(K w.params).In h->h.Ns mainGlobals mg->mg d.name=some (.ref fa)->
   ∃fd:FuncData,(∀(s:Shared)(u:Value),BindsTo s fd ⟨[u],[]⟩ [(x,u)])/\
    ∀base:Heap,(K w.params).In base->base.Ns mainGlobals mg->ji l.prog w (K w.params) mg base (CX w) k fa fd [x] (sp w))
  (af:∀(w:World)(H:Hp)(a:Addr)(ns:List Int),ns.length<=n->Only H->SqL (K w.params) H a (ns.map V.int)->sp w [.ref a] H (λv _=>v=.bl true) λ_ _ _=>False)
  (ag:∀(w:World)(H:Hp)(s:Shared)(e:Value)(s':Shared),CX w [] H s (λ_ _ _=>False) e s'->False):
  PySem.W.WalkO q ab XP YP l.row.toRowW d [] (λf vs=>PySem.call f vs):=by
 refine Att.attach_call hn ah λw s₀ s₁ mg mb fa o pm cd ai a vs ns G Y ho hd aj ad ac aa z hg=>?_;have KX:=hY w _ Y;obtain⟨fd,hb,hF⟩:=F w mg fa _ KX G.T.g ad;exact Yk KX G.T.g G.T.b G.T.builtins G.T.nolimit hg ac aa (zF z ae) hr hF hb (λH hO hS=>af w H a ns z hO hS) λH e s'=>ag w H s₁ e s'
end L2
namespace L2
open PySem PySem.Spec PyProof.Rows
noncomputable def inClass(s:Stmt)(j:Nat):Stmt:=match s with
 |.ClassDef _ _ _ body _ _ _ _ _ _ _=>body.getD j (.Pass ⟨0,0,0,0⟩)
 |_=> .Pass ⟨0,0,0,0⟩
noncomputable def jR(s:Stmt):Arguments:=match s with
 |.FunctionDef _ a _ _ _ _ _ _ _ _=>a
 |_=>{posonlyargs:=[],args:=[],vararg:=none,kwonlyargs:=[],kw_defaults:=[],kwarg:=none,defaults:=[]}
noncomputable def iK(s:Stmt):List Stmt:=match s with
 |.FunctionDef _ _ b _ _ _ _ _ _ _=>b
 |_=>[]
noncomputable def fP(s:Stmt):Scope:=match s with
 |.FunctionDef _ _ _ _ _ _ sc _ _ _=>sc
 |_=>{kind:=.function,names:=[],isGenerator:=false,isCoroutine:=false}
abbrev CX0:CXT:=λ_ _ _ _ _ _=>False
abbrev E0:XK:=λ_ _ _=>False
def Jv{X:Cx}:xO CX0 X E0:=λ_ _ _ _ _ _ _ h=>h.elim
structure Fun(K:Fg_)(x qual:Str)(st:Stmt)(f:Addr)(fd:FuncData):Prop where
 ex:∃(oc:Value)(od:Option Addr)(kV doc pm:Value)(an:Option Addr)(cdv ct:Value)(osl:Array (Option Value)),
  fd=PySem.W.fnOf x qual (jR st) (iK st) (fP st) .none kV doc pm an cdv ct/\K.lookup f=some ⟨oc,od,.func fd,osl⟩/\PySem.W.codeIn K cdv qual=true
 kp:PySem.W.keepIn K (.ref f)=true
section
variable{P:Program}{w:World}{K:Fg_}{mg:Str->Option Value}{base:Heap}
def Fun.ok{x qual:Str}{st:Stmt}{f:Addr}{fd:FuncData}{N ps:List Str}{k:Nat}{sp:Sp}(F:Fun K x qual st f fd)(S:gb N ps (fP st))(len:∀vs H Q E,sp vs H Q E->vs.length=ps.length)
  (aa:∀(z:Value)(A:Around)(outer:List Env)(s:Shared)(H:Hp)(vs:List V)(Q:VK)(E:XK),nY k (A.deeper (envOfC qual (fP st) s.heap.objs.size f z))->sp vs H Q E->
   ∃t,PSs (pJ CX0 P w K mg base N qual (fP st) f z A outer s H E).nox (iK st) t/\t {nx:=λ_ H'=>Q .non H',rt:=Q} (start N vs) H):ji P w K mg base CX0 (k+1) f fd ps sp:=by
 obtain⟨oc,od,kV,ae,pm,an,z,ct,ad,rfl,lk,ac⟩:=F.ex;refine Yt lk ac S len λA outer s H vs Q E hr ab=>?_;obtain⟨t,h,q⟩:=aa z A outer s H vs Q E hr ab;exact⟨t,h.nox,q⟩
def Fun.binds{x qual:Str}{st:Stmt}{f:Addr}{fd:FuncData}{ps:List Str}(F:Fun K x qual st f fd)
  (h:∀(kV q pm:Value)(an:Option Addr)(z ct:Value)(us:List Value),us.length=ps.length->bindArgs (PySem.W.fnOf x qual (jR st) (iK st) (fP st) .none kV q pm an z ct) ⟨us,[]⟩=pure (ps.zip us)):Binds K fd ps []:=by
 obtain⟨oc,od,kV,q,pm,an,z,ct,aa,rfl,lk,ab⟩:=F.ex;exact .all (h kV q pm an z ct)
def Wd{x qual:Str}{st:Stmt}{f:Addr}{oc:Value}{od an:Option Addr}{aa:Array (Option Value)}{kV z pm q ct:Value}(l:K.lookup f=some ⟨oc,od,.func (PySem.W.fnOf x qual (jR st) (iK st) (fP st) .none kV z pm an q ct),aa⟩)
  (c:PySem.W.codeIn K q qual=true) (k:PySem.W.keepIn K (.ref f)=true):Fun K x qual st f (PySem.W.fnOf x qual (jR st) (iK st) (fP st) .none kV z pm an q ct):=⟨⟨oc,od,kV,z,pm,an,q,ct,aa,rfl,l,c⟩,k⟩
end
def Bg{A:Around}{k:Nat}(q:nY k A):A.units+1<cLine:=zW (Nat.add_le_add_left (by decide:1<=64) _) q.units
def Vi{n:Nat}(h:n<=1000):n<sizeLine:=zW h (by decide)
section
variable{X:Cx}
def pv(i:Nat){x:Str}{pos:Pos}(q:X.N[i]? =some x:=by rfl)(hv:Vis X.env.scope x:=by walk_at "o") (hd:(x==("__debug__" :Str))=false:=by decide)
  (hcd:(x==("__classdict__" :Str))=false:=by decide):PE X (.Name x pos) (Ny i):=abn q hv hd hcd
end
noncomputable def Same(H H':Hp):Prop:=∀b o,H b=some o->H' b=some o
def same_refl(H:Hp):Same H H:=λ_ _ h=>h
def Same.trans{H H1 H2:Hp}(a:Same H H1)(b:Same H1 H2):Same H H2:=λc o h=>b c o (a c o h)
def Same.free{H H':Hp}(e:Same H H'){l:Addr}(h:H' l=Option.none):H l=Option.none:=by
 cases q:H l with
 |none=>rfl
 |some o=>
  rw[e l o q]at h;cases h
def Same.seq{K:Fg_}{H H':Hp}{a:Addr}{xs:List V}(e:Same H H')(h:SqL K H a xs):SqL K H' a xs:=by
 rcases h with(h|⟨o,h⟩)|h
 ·exact .inl (.inl (e _ _ h))
 ·exact .inl (.inr ⟨o,e _ _ h⟩)
 ·exact .inr h
end L2
namespace L2
open PySem PySem.Spec PyProof.Rows
noncomputable def AllIn:List (Str×Addr)->List (Str×Addr)->Prop
 |[],_=>True
 |(x,c)::r,cells=>cells.lookup x=some c/\AllIn r cells
theorem AllIn.look{aa:List (Str×Addr)}:∀{cl:List (Str×Addr)},AllIn cl aa->∀{x:Str}{c:Addr},cl.lookup x=some c->aa.lookup x=some c
 |[],_,x,c,e=>by simp at e
 |(y,d)::r,h,x,c,e=>by
  rw[List.lookup_cons]at e
  cases q:x==y with
  |true=>
   rw[q]at e;have z:d=c:=zt e;have z2:x=y:=beq_iff_eq.mp q;subst z z2;exact h.1
  |false=>
   rw[q]at e;exact AllIn.look h.2 e
noncomputable def Ej(cells:List (Str×Addr)):List (Str×NameKind)->List (Str×Addr)->List (Str×Addr)
 |[],cs=>cs
 |(n,k)::r,cs=>Ej cells r (match k with
  |.free=>match cells.lookup n with
   |some c=>(n,c)::cs
   |Option.none=>cs
  |_=>cs)
abbrev Dl(scope:Scope)(env:Env):List (Str×Addr):=Ej env.cells scope.names []
theorem Eu(z:List (Str×Addr)):∀(names:List (Str×NameKind))(cs:List (Str×Addr)),AllIn cs z->AllIn (Ej z names cs) z
 |[],_,h=>h
 |(n,k)::r,cs,h=>by
  unfold Ej;refine Eu z r _ ?_
  cases k with
  |free=>
   cases q:z.lookup n with
   |none=>exact h
   |some c=>exact⟨q,h⟩
  |_=>exact h
def oY(scope:Scope)(env:Env):AllIn (Dl scope env) env.cells:=Eu _ _ _ trivial
noncomputable def CapOk(X:Cx)(sc:Scope)(cl:List (Str×Addr)):List Str->List (Option Nat)->Prop
 |[],[]=>True
 |_::N,Option.none::r=>CapOk X sc cl N r
 |x::N,some j::r=>X.N[j]? =some x/\(X.env.kindOf x=some .cell\/X.env.kindOf x=some .free)/\(sc.names.lookup x=some .cell\/sc.names.lookup x=some .free)/\(∃c,cl.lookup x=some c)/\CapOk X sc cl N r
 |_,_=>False
noncomputable def pM(σ:St)(cap:List (Option Nat)):St:=cap.map λo=>match o with
 |Option.none=>Option.none
 |some j=>match σ[j]? with
  |some v=>v
  |Option.none=>Option.none
def CapOk.nil{X:Cx}{q:Scope}{cl:List (Str×Addr)}:CapOk X q cl [] []:=trivial
def CapOk.own{X:Cx}{q:Scope}{cl:List (Str×Addr)}{x:Str}{N:List Str}{r:List (Option Nat)}(h:CapOk X q cl N r):CapOk X q cl (x::N) (Option.none::r):=h
def CapOk.take{X:Cx}{q:Scope}{cl:List (Str×Addr)}{x:Str}{N:List Str}{j:Nat}{r:List (Option Nat)}(h1:X.N[j]? =some x)(h2:X.env.kindOf x=some .cell\/X.env.kindOf x=some .free)
  (z:q.names.lookup x=some .cell\/q.names.lookup x=some .free) (h4:(cl.lookup x).isSome=true) (h:CapOk X q cl N r):CapOk X q cl (x::N) (some j::r):=⟨h1,h2,z,yX.mp h4,h⟩
theorem CapOk.len{X:Cx}{q:Scope}{cl:List (Str×Addr)}:∀{N:List Str}{cap:List (Option Nat)},CapOk X q cl N cap->cap.length=N.length
 |[],[],_=>rfl
 |_::N,Option.none::r,h=>congrArg (·+1) (CapOk.len (N:=N) (cap:=r) h)
 |_::N,some _::r,h=>congrArg (·+1) (CapOk.len (N:=N) (cap:=r) h.2.2.2.2)
 |[],_::_,h=>h.elim
 |_::_,[],h=>h.elim
theorem CapOk.get{X:Cx}{sc:Scope}{cl:List (Str×Addr)}{σ:St}:∀{N:List Str}{cap:List (Option Nat)}{i:Nat}{x:Str}{v:V},CapOk X sc cl N cap->N[i]? =some x->(pM σ cap)[i]? =some (some v)->
  ∃j:Nat,X.N[j]? =some x/\σ[j]? =some (some v)/\(X.env.kindOf x=some .cell\/X.env.kindOf x=some .free)/\(sc.names.lookup x=some .cell\/sc.names.lookup x=some .free)/\∃c,cl.lookup x=some c
 |[],[],i,x,v,_,e,_=>by simp at e
 |y::N,Option.none::r,0,x,v,h,e1,e2=>by
  have z:(some (Option.none:Option V))=some (some v):=e2;cases z
 |y::N,Option.none::r,i+1,x,v,h,e1,e2=>CapOk.get (N:=N) (cap:=r) (i:=i) h (by simpa using e1) (by simpa [pM] using e2)
 |y::N,some j::r,0,x,v,h,e1,e2=>by
  have z:y=x:=by simpa using e1
  subst z;obtain⟨h1,h2,h3,h4,_⟩:=h;refine⟨j,h1,?_,h2,h3,h4⟩;have z2:some (match σ[j]? with|some v=>v|Option.none=>Option.none)=some (some v):=e2
  cases q:σ[j]? with
  |none=>rw[q]at z2;cases z2
  |some o=>rw[q]at z2;exact z2
 |y::N,some j::r,i+1,x,v,h,e1,e2=>CapOk.get (N:=N) (cap:=r) (i:=i) h.2.2.2.2 (by simpa using e1) (by simpa [pM] using e2)
 |[],_::_,_,_,_,h,_,_=>h.elim
 |_::_,[],_,_,_,h,_,_=>h.elim
noncomputable def cxC(X:Cx)(N':List Str)(scope:Scope)(s:Shared)(H:Hp)(fp:List Addr)(xe:Value->Shared->Prop):Cx:=
 {X with N:=N',s₀:=s,H₀:=H,env:=compEnvC scope (Dl scope X.env) s.heap.objs.size X.env,outer:=X.stack,ex:=fp,fn:=λ_=>false,pn:=[],xe:=xe}
noncomputable def PTs(X:Cx)(ifs:List Expr)(t:TT):Prop:=
 ∀(pins:List (Addr×Obj)) (s:Shared) (σ:St) (H:Hp) (Q:Bool->Hp->Prop),Inv X pins σ H s->t σ H Q->
  wpAny (model X.prog X.w) X.A (forIn ifs true λc r=>if r=true then do let ok<-isTrue c X.env (eval c X.env);pure (ForInStep.yield ok)else pure (ForInStep.yield r)) (TP X pins σ Q) X.xe s
noncomputable def Eb:TT:=λ_ H Q=>Q true H
def jD{X:Cx}:PTs X [] Eb:=λ_ _ _ H _ I h=>wpAny_tests_nil ⟨H,I,h⟩
def Pj{X:Cx}{c:Expr}{t:TT}(h:PT X c t):PTs X [c] t:=λpins s σ H Q I hw=>wpAny_tests_one (h pins s σ H Q I hw)
noncomputable def ZM(cap:List (Option Nat))(wi:TI)(g:TG)(tt:TT)(te:TE):TE:=λσ H Q=>wi σ H λJ H1=>∀D,H1 D=Option.none->
 ∃W:Nat->Nat->List V->St->Hp->Prop,(∃m,W 0 m [] (pM σ cap) (upd H1 D (.lst [])))/\∀i m acc σ1 H2,W i m acc σ1 H2->H2 D=some (.lst acc)->
  (J.stop i H2/\Q (.ref D) H2)\/(J.go i H2/\∀x H3,J.yld i H2 x H3->g x σ1 H3 λσ4 H4=>tt σ4 H4 λb H5=>
   if b=true then te σ4 H5 λv H6=>∃acc',H6 D=some (.lst acc')/\acc'.length<sizeLine/\∃m',m'<m/\W (i+1) m' (acc'++[v]) σ4 (upd H6 D (.lst (acc'++[v])))
   else∃m',m'<m/\∃acc',H5 D=some (.lst acc')/\W (i+1) m' acc' σ4 H5)
section
variable{X:Cx}{elt tg iter:Expr}{ifs:List Expr}{scope:Scope}{pos:Pos}{cap:List (Option Nat)}{N':List Str}{wi:TI}{g:TG}{tt:TT}{te:TE}
structure Vc(X:Cx)(iter:Expr)(scope:Scope)(N':List Str)(cap:List (Option Nat)):Prop where
 clos:closureFor scope X.env=pure (Dl scope X.env)
 cap:CapOk X (relabel scope X.env) (Dl scope X.env) N' cap
 kind:scope.kind=.function
 nocell:∀y∈scope.names,y.2≠.cell
 names:∀y∈scope.names,y.2=.local->scope.names.lookup y.1=some .local
 has:(scope.names.all λy=>y.2 !=.free||((Dl scope X.env).lookup y.1).isSome)=true
 fold:∀x,foldedSetIterable iter X.env x=pure x
theorem Uw{f:Str×NameKind->Str×NameKind}(h1:∀y,(f y).1=y.1)(h2:∀y,y.2≠NameKind.cell->((f y).2=NameKind.cell\/(f y).2=NameKind.free)->y.2=NameKind.free){cl:List (Str×Addr)}:
  ∀{names:List (Str×NameKind)}{x:Str},(∀y∈names,y.2≠NameKind.cell)->(names.all λy=>y.2 !=NameKind.free||(cl.lookup y.1).isSome)=true->((names.map f).lookup x=some NameKind.cell\/(names.map f).lookup x=some NameKind.free)->∃c,cl.lookup x=some c
 |[],x,_,_,h=>by rcases h with h|h<;>simp at h
 |y::r,x,hc,ha,h=>by
  rw[yz,zU]at ha;rw[zj]at h;have e0:f y=(y.1,(f y).2):=by rw[<-h1 y]
  rw[e0,List.lookup_cons]at h
  cases q:x==y.1 with
  |true=>
   rw[q]at h;have e:x=y.1:=beq_iff_eq.mp q
   have hf:y.2=NameKind.free:=h2 y (hc y zi) (by
    rcases h with h|h
    ·exact .inl (zt h)
    ·exact .inr (zt h))
   have h3:(cl.lookup y.1).isSome=true:=by
    have:=ha.1;rw[hf]at this
    simpa using this
   rw[e];exact yX.mp h3
  |false=>
   rw[q]at h;exact Uw h1 h2 (λz hz=>hc z (zr _ hz)) ha.2 h
def ace{env:Env}{scope:Scope}{cl:List (Str×Addr)}{x:Str}(hc:∀y∈scope.names,y.2≠NameKind.cell)(ha:(scope.names.all λy=>y.2 !=NameKind.free||(cl.lookup y.1).isSome)=true)
  (h:(relabel scope env).names.lookup x=some NameKind.cell\/(relabel scope env).names.lookup x=some NameKind.free):∃c,cl.lookup x=some c:=by
 refine Uw (f:=fun(n,k)=>if(k==NameKind.free && env.scope.kind==.function && env.kindOf n==some .cell)then(n,NameKind.cell)else(n,k)) (λy=>?_) (λy z q=>?_) hc ha h
 ·obtain⟨n,k⟩:=y
  dsimp only;split<;>rfl
 ·obtain⟨n,k⟩:=y
  dsimp only at q⊢z;by_cases hb:(k==NameKind.free && env.scope.kind==.function && env.kindOf n==some .cell)=true
  ·simp only[zU]at hb
   exact beq_iff_eq.mp hb.1.1
  ·rw[zk hb]at q
   rcases q with q|q
   ·exact absurd q z
   ·exact q
def Li{P:Program}{w:World}{A:Around}{R:Result->Shared->Prop}{s:Shared}{it acc:Value}{env:Env}(I:Nat->Shared->Prop)
  (q:∀n s,I n s->wpAny (model P w) A (pyNext it) (λr s₁=>match r with
   |none=>R (.ok .next) s₁
   | some v=>wpAny (model P w) A (letOwnedTupleGo tg it v) (λ_ z=>wpAny (model P w) A (assign tg env v) (λ_ s₂=>
     wpAny (model P w) A (forIn ifs true λc r=>if r=true then do let ok<-isTrue c env (eval c env);pure (ForInStep.yield ok)else pure (ForInStep.yield r)) (λok s₃=>
      if ok=true then wpAny (model P w) A (eval elt env) (λx s₄=>
       wpAny (model P w) A (call (.builtin "list.append") [acc,x]) (λ_ s₅=>∃m,m<n/\I m s₅) (notedBy (model P w) A env λe s'=>R (.error e) s') s₄) (notedBy (model P w) A env λe s'=>R (.error e) s') s₃
      else∃m,m<n/\I m s₃) (notedBy (model P w) A env λe s'=>R (.error e) s') s₂) (notedBy (model P w) A env λe s'=>R (.error e) s') z) (notedBy (model P w) A env λe s'=>R (.error e) s') s₁)
    (notedBy (model P w) A env λe s'=>R (.error e) s') s)
  (n:Nat) (h:I n s):
  codeAny (model P w) A (.compLoop (.ListComp elt [⟨tg,iter,ifs,0⟩] scope pos) 0 it acc env) R s:=by
 refine codeAny_loop rfl I (λn s hI=>?_) n h;show wpAny _ A ((compTurn (.ListComp elt [⟨tg,iter,ifs,0⟩] scope pos) 0 it acc env).onRaise (λx=>do noteFrame x env;theTreesLotGoes x)) _ _ s;refine wpAny_noted ?_;rw[compTurn_list];refine zf (yA (zf (zR (q n s hI) (λr s₁ h₁=>?_) λ_ _ h'=>h')))
 cases r with
 |none=>exact zq h₁
 |some v=>
  refine zf (zR h₁ (λ_ z h₁=>?_) λ_ _ h'=>h');refine zf (zR h₁ (λ_ s₂ h₂=>zf (zR h₂ (λok s₃ h₃=>?_) λ_ _ h'=>h')) λ_ _ h'=>h')
  cases ok with
  |false=>exact zq ⟨rfl,h₃⟩
  |true=>
   exact zf (zf (zR h₃ (λx s₄ h₄=>zf (zR h₄ (λ_ s₅ h₅=>zq (zq ⟨rfl,h₅⟩)) λ_ _ h'=>h')) λ_ _ h'=>h'))
def Mh{pins:List (Addr×Obj)}{σ:St}{H2:Hp}{s2:Shared}{Q:VK}{it:Addr}{fp:List Addr}{tn:Nat->Heap->Prop}{J:It}{R:Value->Addr->Result->Shared->Prop}{E:Value->Shared->Prop}
  (hc:X.calm=true) (C:Vc X iter scope N' cap)
  (hg:∀s H fp xe,PG (cxC X N' scope s H fp xe) tg g) (ht:∀s H fp xe,PTs (cxC X N' scope s H fp xe) ifs tt) (he:∀s H fp xe,PE (cxC X N' scope s H fp xe) elt te)
  (I2:Inv X pins σ H2 s2) (T:Turn X.prog X.w X.K tg J fp it tn) (ag:tn 0 s2.heap) (f2:∀b∈fp,UV X pins H2 b)
  (hR:∀D Cl H' s',Inv X pins σ H' s'->(∃m,s'.heap.Ns Cl m)->H' Cl=Option.none->Cl≠X.env.locals->X.s₀.heap.objs.size<=Cl->(∀x c,X.env.cells.lookup x=some c->c≠Cl)->(∀p∈X.pn++pins,p.1≠Cl)->Q (.ref D) H'->R (.ref D) Cl (.ok .next) s')
  (hw:∀D,H2 D=Option.none->∃W:Nat->Nat->List V->St->Hp->Prop,(∃m,W 0 m [] (pM σ cap) (upd H2 D (.lst [])))/\∀i m acc σ1 H2,W i m acc σ1 H2->H2 D=some (.lst acc)->
   (J.stop i H2/\Q (.ref D) H2)\/(J.go i H2/\∀x H3,J.yld i H2 x H3->g x σ1 H3 λσ4 H4=>tt σ4 H4 λb H5=>
    if b=true then te σ4 H5 λv H6=>∃aa,H6 D=some (.lst aa)/\aa.length<sizeLine/\∃m',m'<m/\W (i+1) m' (aa++[v]) σ4 (upd H6 D (.lst (aa++[v])))
    else∃m',m'<m/\∃aa,H5 D=some (.lst aa)/\W (i+1) m' aa σ4 H5)):
  wpAny (model X.prog X.w) X.A (newList []) (λacc s₃=>wpAny (model X.prog X.w) X.A (newFunctionEnv scope X.env.globals (Dl scope X.env) [] X.env.qual none .none (some X.env)) (λak s₄=>
   codeAny (model X.prog X.w) X.A (.compStart (.ListComp elt [⟨tg,iter,ifs,0⟩] scope pos) 0 (.ref it) acc {ak with scope:=relabel scope X.env}) (R acc ak.locals) s₄) E s₃) E s2:=by
 refine zzi (wpAny_newFunctionEnv C.nocell (by intro y hy;simp at hy) (λh₁ ah al=>?_) C.kind);obtain⟨W,⟨m0,w0⟩,ai⟩:=hw s2.heap.objs.size I2.fresh;have I3:Inv X pins σ (upd H2 s2.heap.objs.size (.lst [])) {s2 with heap:=s2.heap.push {cls:=.type "list",data:=.seq ([]:List Value).toArray}}:=I2.lnew (t':=s2.toks) .nil (zQ _);generalize am:({s2 with heap:=s2.heap.push {cls:=.type "list",data:=.seq ([]:List Value).toArray}}:Shared)=s3 at I3 ah al⊢;generalize hD:s2.heap.objs.size=D at I3 w0 ai⊢;have bh:H2 D=Option.none:=by rw[<-hD];exact I2.fresh
 have av:s3.os=s2.os:=by rw[<-am]
 have aw:Un (frs X.stack) fp H2 (upd H2 D (.lst [])) s2.heap s3.heap:=by
  rw[<-am,<-hD];exact Un.laid (λb u q=>zd _ q) (ze _) I2.fresh
 have ab:∀b o,s3.heap.get? b=some o->h₁.get? b=some o:=λb o e=>(al.2 b (zK (zu e))).trans (zd _ e);have ae:∀b o,s2.heap.get? b=some o->s3.heap.get? b=some o:=λb o e=>by rw[<-am];exact zd _ e
 have hR':∀(r:Result)(s':Shared),R (.ref D) s3.heap.objs.size r s'->R (.ref D) s3.heap.objs.size r s':=λ_ _ h=>h
 have f3:∀b∈fp,UV X pins (upd H2 D (.lst [])) b:=λb hb=>by
  obtain⟨q0,q1⟩:=f2 b hb;refine⟨?_,q1⟩;obtain⟨o,e,_⟩:=T.obj _ _ ag b hb;rw[fX (by rw[<-hD];exact zK (zu e))];exact q0
 let XC:Cx:=cxC X N' scope s3 (upd H2 D (.lst [])) fp (notedBy (model X.prog X.w) X.A (compEnvC scope (Dl scope X.env) s3.heap.objs.size X.env) λe s'=>R (.ref D) s3.heap.objs.size (.error e) s')
 have ok:XC.Ok:=by
  refine⟨I3.ok.mod,C.kind,I3.ok.glob,I3.ok.blt,ze _,λx y c e1 e2=>I3.ok.inj x y c ((oY scope X.env).look e1) ((oY scope X.env).look e2),λx hx=>ace C.nocell C.has hx,λx c hf=>(nomatch hf),λ_=>I3.ok.hd hc,I3.ok.frames,.inl rfl,λb hb=>?_,I3.bs,zF I3.ok.bsz I3.sz,λb o e hb=>?_,λb hb hf=>?_,I3.stack,I3.stkFree⟩
  ·obtain⟨q0,q1,q2,q3,q4,q5⟩:=f3 b hb
   refine⟨?_,λx c e=>q4 x c ((oY scope X.env).look e)⟩;obtain⟨o,e,_⟩:=T.obj _ _ ag b hb;exact zK (zu (ae _ _ e))
  ·obtain⟨q0,q1,q2,q3,q4,q5⟩:=f3 b hb
   rcases q3 with q3|q3
   ·exact I3.ok.noex b o e q3
   ·exact absurd (zL (zu e) (zF I3.ok.bsz q3)) (yh _)
  ·obtain⟨q0,q1,q2,q3,q4,q5⟩:=f3 b hb
   rcases zh.mp (I3.stkSub b hf)with z|z
   ·exact q1 z
   ·exact q2 z
 have I4:Inv XC [] (pM σ cap) (upd H2 D (.lst [])) {s3 with heap:=h₁,toks:=s3.toks+([]:List (Str×Value)).length}:=by
  refine⟨ok,rfl,I3.bare,Un.kept ab,⟨_,ah,λi x v e1 e2 e3=>?_⟩,λx c e=>?_,I3.hok.fresh (ze _),λx c e=>I3.freeC x c ((oY scope X.env).look e),λp hp=>absurd (show p∈([]:List (Addr×Obj))from hp) (by simp),I3.hok.kept ab,by rw[show(pM σ cap).length=cap.length from by simp[pM]];exact C.cap.len⟩
  ·obtain⟨j,g1,g2,g3,g4,c,g5⟩:=C.cap.get e1 e2
   obtain⟨m,_,hl⟩:=I3.loc
   obtain ⟨u,r,l⟩:=hl j x v g1 g2 (by
    rcases g3 with z|z
    ·exact .inr (.inl z)
    ·exact .inr (.inr z))
   refine⟨u,r,.inr ⟨g4,c,g5,?_⟩⟩;rcases l with⟨k,_⟩|⟨_,c',e,z⟩
   ·rcases g3 with q|q
    ·rw[k]at q;cases q
    ·rw[k]at q;cases q
   ·have e':=(oY scope X.env).look g5
    rw[e]at e';cases e';obtain⟨o,ho,hd⟩:=z;exact⟨o,ab _ _ ho,hd⟩
  ·obtain⟨v,o,ho,hd⟩:=I3.cell x c ((oY scope X.env).look e)
   exact⟨v,o,ab _ _ ho,hd⟩
 have as:tn 0 h₁:=T.keep _ _ _ ag λb _ o e=>ab b o (ae b o e)
 have an:∀{ac:List (Addr×Obj)}{H':Hp},(∀b∈fp,H' b=Option.none)->(∀p∈ac,p.1∉fp)->∀b∈fp,UV XC ac H' b:=fun{ac H'} hn hp b hb=>by
  obtain⟨q1,q2⟩:=ok.exf b hb;exact⟨hn b hb,q1,ok.exfs b hb,.inl hb,q2,λp bd z=>hp p (by simpa [XC,cxC] using bd) (by rw[z];exact hb)⟩
 have bg:D∉fp:=λhb=>by
  obtain⟨o,e,_⟩:=T.obj _ _ ag D hb;rw[<-hD]at e;exact absurd (zu e) (yh _)
 have out:∀{σ':St}{H':Hp}{s':Shared},Inv XC [] σ' H' s'->Inv X pins σ H' s':=fun{σ' H' s'} J'=>
  I2.call' (ch:=fp) (J'.os.trans av) (aw.trans J'.base) J'.hok J'.bare λb hb=>by
   obtain⟨q0,q1,q2,q3,q4,q5⟩:=f2 b hb;exact⟨q3,q1,q4,q5⟩
 have aj:∀s₄:Shared,s₄={s3 with heap:=h₁,toks:=s3.toks+([]:List (Str×Value)).length}->
   codeAny (model X.prog X.w) X.A (.compLoop (.ListComp elt [⟨tg,iter,ifs,0⟩] scope pos) 0 (.ref it) (.ref D) (compEnvC scope (Dl scope X.env) s3.heap.objs.size X.env)) (R (.ref D) s3.heap.objs.size) s₄:=by
  rintro s₄ rfl
  refine Li (λn s'=>∃i acc σ' H',Inv XC [] σ' H' s'/\tn i s'.heap/\(∀b∈fp,H' b=Option.none)/\H' D=some (.lst acc)/\W i n acc σ' H') ?_ m0
   ⟨0,[],pM σ cap,upd H2 D (.lst []),I4,as,λb hb=>(f3 b hb).1,fL,w0⟩
  rintro n s5 ⟨i,acc,σ5,H5,I5,ar,au,hA,w5⟩;rcases ai i n acc σ5 H5 w5 hA with⟨stop,q⟩|⟨go,aq⟩
  ·refine thn (T.done XC rfl rfl rfl hc i [] s5 σ5 H5 _ I5 (an au (by simp)) ar stop) λr s6 ⟨hr,I6⟩=>?_
   subst hr;obtain⟨m,hn,_⟩:=I6.loc
   exact hR D s3.heap.objs.size H5 s6 (out I6) ⟨m,hn⟩ I6.free (zzY I3.lt) I3.sz (λx c e z=>by
    obtain⟨v,o,ho,_⟩:=I3.cell x c e;rw[z]at ho;exact absurd (zu ho) (yh _)) (λp hp z=>by
    have e:=(I3.pin p hp).1;rw[z]at e;exact absurd (zu e) (yh _)) q
  ·refine thn (T.item XC rfl rfl rfl hc i [] s5 σ5 H5 _ I5 (an au (by simp)) ar go) λr s6 ⟨u,hr,h6⟩=>?_
   subst hr;refine thn h6 λ_ s7 ⟨x,H7,I7,r7,y7,ao,be⟩=>?_;have I7':=I7.pinned (an be (by simp)) (T.obj _ _ ao)
   have ad:∀{σ8:St}{H8:Hp}{s8:Shared},Inv XC ([]++Nt fp s7.heap) σ8 H8 s8->(∃aa,H8 D=some (.lst aa)/\∃m',m'<n/\W (i+1) m' aa σ8 H8)->
     ∃m,m<n/\∃i acc σ' H',Inv XC [] σ' H' s8/\tn i s8.heap/\(∀b∈fp,H' b=Option.none)/\H' D=some (.lst acc)/\W i m acc σ' H':=fun{σ8 H8 s8} I8⟨aa,af,m',hm,w8⟩=>by
    refine⟨m',hm,i+1,aa,σ8,H8,I8.unpinned,T.keep _ _ _ ao λb hb o e=>(I8.pin (b,o) (zM _ (zM _ (xg hb e)))).1,λb hb=>?_,af,w8⟩;obtain⟨o,e,d⟩:=T.obj _ _ ao b hb;exact(I8.pin (b,o) (zM _ (zM _ (xg hb e)))).2.1
   refine thn (hg s3 _ fp _ _ s7 σ5 H7 x u _ I7' r7 (aq x H7 y7)) λ_ s8 ⟨σ8,H8,I8,q8⟩=>?_;refine thn (ht s3 _ fp _ _ s8 σ8 H8 _ I8 q8) λb s9 ⟨H9,I9,q9⟩=>?_
   cases b with
   |false=>
    rw[zk zw]at q9⊢;obtain⟨m',hm,aa,af,w9⟩:=q9;exact ad I9 ⟨aa,af,m',hm,w9⟩
   |true=>
    rw[zp rfl]at q9⊢;refine thn (he s3 _ fp _ _ s9 σ8 H9 _ I9 q9) λv ax ⟨y,ap,bc,ay,aa,af,hz,m',hm,ba⟩=>?_;refine thn (mj (X:=XC) _ ax σ8 ap (.ref D) [y] (.ref D) [v] (λ_ Hz=>Hz=upd ap D (.lst (aa++[y]))) bc rfl (.cons ay .nil) ⟨D,aa,y,rfl,rfl,af,hz,rfl⟩) λ_ bi ⟨_,bf,bb,_,az⟩=>?_;subst az;exact ad bb ⟨aa++[y],fL,m',hm,ba⟩
 exact codeAny_compStart_list (aj _ rfl) (T.self _ 0 _ _ _ as (aj _ rfl))
def jA(hc:X.calm=true)(C:Vc X iter scope N' cap)(hi:PI X tg iter wi)
  (hg:∀s H z xe,PG (cxC X N' scope s H z xe) tg g) (ht:∀s H z xe,PTs (cxC X N' scope s H z xe) ifs tt) (he:∀s H z xe,PE (cxC X N' scope s H z xe) elt te):
  PE X (.ListComp elt [⟨tg,iter,ifs,0⟩] scope pos) (ZM cap wi g tt te):=by
 intro pins s σ H Q I h;rw[eval_ListComp];refine wpAny_comprehension_free (use:=none) rfl C.fold C.clos C.kind C.names (thn (hi pins s σ H _ I h) λv s1 h1=>thn h1 λac s2 h2=>?_);obtain⟨it,z,tn,J,H2,e,I2,T,ab,f2,hw⟩:=h2;subst e;refine Mh (R:=λacc Cl=>compPost (model X.prog X.w) X.A X.xe none (EP X pins σ Q) acc Cl) hc C hg ht he I2 T ab f2 ?_ hw;intro D Cl H' s' I' ⟨m,hn⟩ hf h1 h2 h3 h4 q;exact⟨m,hn,λh' aa=>⟨.ref D,H',I'.turned (t':=s'.toks) (λb o hb e=>(aa.2 b hb).trans e) hf h1 (.inr h2) h3 h4,rfl,q⟩⟩
def Cg{i:Nat}{y:Str}{py aa:Pos}(hN:X.N.Nodup)(ae:X.N[i]? =some y)(hy:X.env.scope.names.lookup y=some .local)
  (hc:X.calm=true) (C:Vc X iter scope N' cap) (hi:PI X tg iter wi)
  (hg:∀s H fp xe,PG (cxC X N' scope s H fp xe) tg g) (ht:∀s H fp xe,PTs (cxC X N' scope s H fp xe) ifs tt) (he:∀s H fp xe,PE (cxC X N' scope s H fp xe) elt te)
  (ab:swapsWith (.ListComp elt [⟨tg,iter,ifs,0⟩] scope pos) (some (.Name y py)) aa.line X.env=pure true:=by rfl):
  PS X (.Assign [.Name y py] (.ListComp elt [⟨tg,iter,ifs,0⟩] scope pos) aa) (abz (ZM cap wi g tt te) (Fy i)):=by
 intro pins s σ H D I h;rw[exec_Assign_Name_used _ _ _ _ ab];refine zf (yA (zf ?_));show wpAny _ X.A (do let _<-comprehension (.ListComp elt [⟨tg,iter,ifs,0⟩] scope pos) scope X.env _ (newList []) false (eval iter X.env) (some (assign (.Name y py) X.env))) _ _ s
 refine zf (zR (wpAny_comprehension_free (use:=some (assign (.Name y py) X.env)) (Q:=λ_ s'=>SP X pins D .next s') rfl C.fold C.clos C.kind C.names (thn (hi pins s σ H _ I h) λv s1 h1=>thn h1 λai s2 h2=>?_))
  (λ_ s' hq=>zq (zq hq)) λ_ _ e=>e)
 obtain⟨it,fp,tn,J,H2,e,I2,T,ac,f2,hw⟩:=h2;subst e;refine Mh (Q:=λx H1=>Fy i x σ H1 D.nx) (R:=λacc Cl=>compPost (model X.prog X.w) X.A X.xe (some (assign (.Name y py) X.env)) (λ_ s'=>SP X pins D .next s') acc Cl) hc C hg ht he I2 T ac f2 ?_ hw;intro Da Cl H' s' I' ⟨m,hn⟩ hf h1 h2 h3 h4 q;show wpAny _ _ (assign (.Name y py) X.env (.ref Da)) _ _ s';refine wpAny_assign_Name (Lg I' hN ae (.inl hy) (v:=.ref Da) rfl (λad I'' ⟨a,af,ha⟩=>?_) (.inr hy))
 have ah:Cl≠a:=by
  rcases ha with z|z
  ·rw[z];exact h1
  ·exact Ne.symm (h3 y a z)
 exact⟨m,hn.sameBut af ah,λh' ag=>⟨_,H',I''.turned (t':=ad.toks) (λb o hb e=>(ag.2 b hb).trans e) hf h1 (.inr h2) h3 h4,q⟩⟩
end
end L2
namespace L2
open PySem PySem.Spec PyProof.Rows
section
variable{X:Cx}{a b c:Expr}{ta tb tc:TE}{pos:Pos}
noncomputable def ZQ(i j:Int):Prop:=i.natAbs<2^2000/\j.natAbs<2^2000
def ZQ.ok{i j:Int}(h:ZQ i j):IntMulOk i j:=
 IntMulOk.of_bits (zF (intBits_le h.1) (by decide)) (zF (intBits_le h.2) (by decide))
noncomputable def Jh(_ j:Int):Prop:=0<j/\j.natAbs<2^2000
def je:OpR X (binaryOp .FloorDiv) (rI Jh λi j=> .int (i/j)):=opI λi j _ _ _ _ _ z q=>by
 have h1:(0:Int)<j:=z.1;have h0:j.natAbs≠0:=by lia
 have h2:j.natAbs.log2<2000:=(Nat.log2_lt h0).mpr z.2;exact floordiv_int (by lia) (by rw[Int.fdiv_eq_ediv_of_nonneg i (by lia)];exact q) (.inl (PyProof.noPylong_of_log2 (by lia)))
def Uz(hc:X.calm=true):lX X (.builtin "sum") (λxs H Q=>∃(a:Addr)(ns:List Int),xs=[.ref a]/\SqL X.K H a (ns.map V.int)/\Q (.int ns.sum) H):=by
 intro pins s σ H xs us Q I r h;obtain⟨a,ns,rfl,hq,q⟩:=h;obtain⟨u,rfl,r1⟩:=vals1 r;cases r1;obtain⟨its,rv,pl,hz⟩:=I.list hq;have hi:IntsAre its ns:=intsAre_of rv;obtain⟨xs,e⟩:=hi.allInts.items;have hl:=pl.isList;rw[e]at hl;refine sum_intListG (I.ok.hd hc) hl λh' tk t' hk=>?_;have e1:its=(intItems xs).toList:=by rw[<-e]
 have z:xs.toList.map (·.1)=ns:=by rw[<-nums_intItems,<-e1,hi.numsOf]
 have es:preSum (numAt xs) xs.size=ns.sum:=by rw[preSum_eq,zX (by simp),z]
 rw[es];exact⟨.int ns.sum,H,I.kept hk,⟨_,rfl⟩,q⟩
def Rh{pins:List (Addr×Obj)}{σ:St}{H:Hp}{s:Shared}{l:Addr}{bs:List Bool}(I:Inv X pins σ H s)(z:SqL X.K H l (bs.map V.bl)):
  ∃its:List Value,its.length=bs.length/\s.heap.IsList l its.toArray/\l≠s.heap.objs.size/\∀(i:Nat)(v:Value),its.toArray[i]? =some v->v=.bool (bs.getD i false):=by
 obtain⟨its,q,pl,hz⟩:=I.list z;refine⟨its,by rw[<-q.length,za],pl.isList,?_,λi v e=>?_⟩
 ·obtain⟨o,n,e,_⟩:=pl
  exact zK (zu e)
 ·have e':its[i]? =some v:=by simpa using e
  have hi:i<its.length:=(zv.mp e').1;have hb:i<bs.length:=by have:=q.length;rw[za]at this;lia
  obtain⟨u,hu,ru⟩:=q.get (i:=i) (x:=.bl bs[i]) (by simp[hb]);rw[e']at hu;cases hu;have:v=Value.bool bs[i]:=ru;rw[this];simp[List.getD,hb]
def range_all(bs:List Bool):(List.range bs.length).all (λi=>bs.getD i false)=bs.all id:=by
 rw[yP];simp only[y6,zzB,id];constructor
 ·intro h x q
  obtain⟨i,hi,rfl⟩:=List.mem_iff_getElem.mp q
  simpa [List.getD,hi] using h i hi
 ·intro h i hi
  have:=h bs[i] (List.getElem_mem hi)
  simpa [List.getD,hi] using this
def Wb(hc:X.calm=true):lX X (.builtin "all") (λxs H Q=>∃(a:Addr)(bs:List Bool),xs=[.ref a]/\SqL X.K H a (bs.map V.bl)/\Q (.bl (bs.all id)) H):=by
 intro pins s σ H xs us Q I r h;obtain⟨a,bs,rfl,hq,q⟩:=h;obtain⟨u,rfl,r1⟩:=vals1 r;cases r1;obtain⟨its,aa,hl,ac,ab⟩:=Rh I hq;refine call_all_walk (yW hl ?_);refine⟨s.heap.objs.size,_,_,_,_,_,λi=>bs.getD i false,rfl,Walks.list (A:=X.A.in1) (I.ok.hd hc) s.heap.objs.size a ac its.toArray,⟨⟨_,zN _ rfl,rfl,rfl⟩,hl.at λo e=>zd _ e⟩,λi v s' Q' E' e hQ=>?_,λh' tk hk=>?_⟩
 ·rw[ab i v e]
  exact yt hQ
 ·have e:(List.range its.toArray.size).all (λi=>bs.getD i false)=bs.all id:=by rw[zn,aa];exact range_all bs
  rw[e];refine⟨.bl (bs.all id),H,I.kept λb o e=>hk b o ?_ (zd _ e),rfl,q⟩;intro z;have z':b=s.heap.objs.size:=by simpa using z
  rw[z']at e;exact absurd (zu e) (yh _)
end
section
variable{prog:Program}{w:World}{A:Around}{E:Value->Shared->Prop}
theorem Kw{q t:Addr}{items:Array Value}(ad:t≠q):∀(n i:Nat)(s:Shared)(Q:List Value->Shared->Prop),s.heap.IsListIter q t i->s.heap.IsList t items->i+n<=items.size->
  (∀h',h'.IsListIter q t (i+n)->Heap.SameBut q s.heap h'->Q ((items.toList.drop i).take n) {s with heap:=h'})->wpAny (model prog w) A (draw (.ref q) n) Q E s
 |0,i,s,Q,hit,_,_,hQ=>by
  show wpAny _ _ (pure []) Q E s;exact zq (by simpa using hQ s.heap hit (Heap.SameBut.refl ..))
 |n+1,i,s,Q,hit,ht,hle,hQ=>by
  have aa:i<items.size:=by lia
  show wpAny _ _ (pyNext (.ref q)>>=_) Q E s;refine zf (wpAny_pyNext_list_item hit ht (x:=items[i]) (by simp[aa]) λh₁ ac z=>?_);refine zf (ym (Kw ad n (i+1) _ _ ac (ht.extBut z.extBut ad) (by lia) λh₂ ab ae=>zq ?_));have hd:items.toList.drop i=items[i]::items.toList.drop (i+1):=by simp[List.drop_eq_getElem_cons,aa]
  have:=hQ h₂ (by rw[show i+(n+1)=i+1+n by lia];exact ab) (z.trans ae);rw[hd,zzV]at this;exact this
def Dv{s:Shared}{t:Addr}{items:Array Value}{Q:List Value->Shared->Prop}(hh:A.handled=none)(ht:s.heap.IsList t items)
  (hQ:∀h',Heap.ExtBut s.heap.objs.size s.heap h'->Q items.toList {s with heap:=h'}):wpAny (model prog w) A (unpackItems (.ref t) items.size none) Q E s:=by
 have ab:t≠s.heap.objs.size:=by obtain⟨o,ho,_⟩:=ht;exact zK (zu ho)
 unfold unpackItems;refine zf ?_
 ·unfold notIterableAtAll
  refine zf (wpAny_specialOf ht.typeIs slot_list_iter.lookup ?_);refine zq ?_;simp only[yx,if_false];refine zf (ym (yW ht ?_));have q:(s.heap.push {cls:=.type "list_iterator",data:=.fields #[.ref t,.int 0 0]}).IsList t items:=ht.at λo e=>zd _ e;refine zf (ym (Kw ab items.size 0 _ _ ⟨_,zN _ rfl,rfl,rfl⟩ q (by lia) λh₁ ac aa=>?_))
  have z:List.take items.size (List.drop 0 items.toList)=items.toList:=by
   rw[List.drop_zero];exact zX (by simp)
  rw[z];rw[zk (by simp)];have ae:h₁.IsList t items:=q.extBut aa.extBut ab;refine zf (ym (wpAny_pyNext_list_end hh ac ae (by simp) λh₂ ad=>?_));simp only[Option.isSome_none,yx,if_false];refine zq (hQ h₂ λb o hb e=>ad b o hb (aa.extBut b o hb (zd _ e)))
def Cr{env:Env}{elts:List Expr}{x1}{pos:Pos}{s:Shared}{t:Addr}{items:Array Value}{Q:Unit->Shared->Prop}(z:A.handled=none)(ht:s.heap.IsList t items)
  (hn:(assignEach elts env).length=items.size) (q:(assignEach elts env).findIdx? (·.1)=none)
  (h:∀h',Heap.ExtBut s.heap.objs.size s.heap h'->wpAny (model prog w) A (assignInOrder ((assignEach elts env).map (·.2)) items.toList) Q E {s with heap:=h'}):
  wpAny (model prog w) A (assign (.Tuple elts x1 pos) env (.ref t)) Q E s:=by
 rw[assign_Tuple];refine zf (yA ?_);unfold unpack;rw[hn,q];exact zf (ym (Dv z ht h))
end
section
variable{X:Cx}{pos:Pos}
noncomputable def adF(K:Fg_)(n:Nat)(t:TGs):TG:=λv σ H Q=>∃a xs,v=.ref a/\SqL K H a xs/\xs.length=n/\t xs σ H Q
def abC{es:List Expr}{k:Nat}{t:TGs}{n:Nat}(z:X.calm=true)(h:PGs X es t)
  (hn:(assignEach es X.env).length=n:=by rfl) (hst:(assignEach es X.env).findIdx? (·.1)=none:=by rfl):PG X (.Tuple es k pos) (adF X.K n t):=by
 intro pins s σ H v u Q I r hw;obtain⟨a,xs,e1,hq,hl,hw⟩:=hw;subst e1;cases r;obtain⟨its,q,ht,hz⟩:=I.list hq;refine Cr (I.ok.hd z) ht.isList (by simp[hn,<-hl,q.length]) hst λh' hx=>?_;have I1:Inv X pins σ H {s with heap:=h'}:=I.kept (t':=s.toks) λb o e=>hx b o (zK (zu e)) e;exact h pins _ σ H xs _ Q I1 (by simpa using q) hw
end
end L2
namespace L2
open PySem PySem.Spec PyProof.Rows
section
variable{X:Cx}{a b c:Expr}{ta tb tc:TE}{pos:Pos}
noncomputable def Ol(i j:Int):Prop:=adI i j\/ZQ i j
def mJ:OpR X (binaryOp .Mult) (rI Ol λi j=> .int (i*j)):=opI λ_ _ _ _ _ _ _ z q=>mul_int q (z.elim (λh=>h.ok) λh=>h.ok)
def Ia{i j:Int}(h1: -(2^64)<i)(h2:i<2^64):Ol i j:=.inl (.inl ⟨h1,h2⟩)
def QT{i j:Int}(h1: -(2^64)<j)(h2:j<2^64):Ol i j:=.inl (.inr ⟨h1,h2⟩)
def Ol.big{i j:Int}(h1:i.natAbs<2^2000)(h2:j.natAbs<2^2000):Ol i j:=.inr ⟨h1,h2⟩
def KJ:lX X (.builtin "isinstance") (λxs H Q=>∃x n t k,xs=[x,.ty n]/\Nv X.K H x t/\PySem.W.kitOne X.K t (.type n)=some k/\Q (.bl k) H):=by
 intro pins s σ H xs us Q I r h;obtain⟨x,n,t,k,rfl,ty,e,q⟩:=h;obtain⟨u,w',rfl,z,rc⟩:=vals2 r;cases rc;exact Vy I z ty e λtk=>⟨.bl k,H,I.tok _,rfl,q⟩
def XS{x:Str}(T:String)(q:Gl X x)(hm:X.mg x=none)(z:bootBuiltins x=some (.type T))(hn:x≠ "__name__" :=by decide) (hd:(x==("__debug__" :Str))=false:=by decide):PE X (.Name x pos) (tC (.ty T)):=aaO q hm z rfl hn hd
end
section
variable{D:Ends}{σ:St}{H:Hp}{t u:TS}{te ta tb tc:TE}{tt tu:TT}{Q:VK}{QB:Bool->Hp->Prop}{QA:List V->Hp->Prop}{QG:St->Hp->Prop}{v x y:V}{vs:List V}{i j:Nat}{g:TG}{gs:TGs}{A:TA}{K:Fg_}
def ap_seq:aaX t u D σ H=t {D with nx:=u D} σ H:=rfl
def ap_next:abL D σ H=D.nx σ H:=rfl
def ap_asg:abz te g D σ H=te σ H λx H1=>g x σ H1 D.nx:=rfl
def ap_name:Fy i v σ H QG=QG (σ.set i (some v)) H:=rfl
def ap_var:Ny i σ H Q=∃v,σ[i]? =some (some v)/\Q v H:=rfl
def ap_c:tC v σ H Q=Q v H:=rfl
def ap_op{r:R2}:tOp r ta tb σ H Q=ta σ H λx H1=>tb σ H1 λy H2=>r x y H2 Q:=rfl
def ap_un{r:V->Hp->VK->Prop}:tUn r ta σ H Q=ta σ H λx H1=>r x H1 Q:=rfl
def ap_rI{C:Int->Int->Prop}{f:Int->Int->V}:rI C f x y H Q=∃i j,x=.int i/\y=.int j/\C i j/\Q (f i j) H:=rfl
def ap_rI0{f:Int->Int->V}:rI0 f x y H Q=∃i j,x=.int i/\y=.int j/\Q (f i j) H:=rfl
def ap_rU{f:Int->V}:rU f x H Q=∃i,x=.int i/\Q (f i) H:=rfl
def ap_rEq:rEq x y H Q=(aat x y=true/\Q (.bl (decide (x=y))) H):=rfl
def ap_rNe:rNe x y H Q=(aat x y=true/\Q (.bl (!decide (x=y))) H):=rfl
def ap_ret:aef te D σ H=te σ H D.rt:=rfl
def ap_retN:abu D σ H=D.rt .non H:=rfl
def ap_drop:abt te D σ H=te σ H λ_ H1=>D.nx σ H1:=rfl
def ap_if:acS tt t u D σ H=tt σ H λb H1=>if b=true then t D σ H1 else u D σ H1:=rfl
def ap_test:ZK te σ H QB=te σ H λx H'=>∃k,x=.bl k/\QB k H':=rfl
def ap_tB:tB te σ H QB=te σ H λx H1=>∃c,x=.bl c/\QB c H1:=rfl
def ap_and:aej tt tu σ H QB=tt σ H λc H1=>if c=true then tu σ H1 QB else QB false H1:=rfl
def ap_or:tOr tt tu σ H QB=tt σ H λc H1=>if c=true then QB true H1 else tu σ H1 QB:=rfl
def ap_not:adU tt σ H QB=tt σ H λc H1=>QB (!c) H1:=rfl
def ap_andV:acO ta tb σ H Q=ta σ H λx H1=>∃c,x=.bl c/\if c=true then tb σ H1 Q else Q (.bl false) H1:=rfl
def ap_notV:acE ta σ H Q=ta σ H λx H1=>∃c,x=.bl c/\Q (.bl (!c)) H1:=rfl
def ap_ifE:tIf tt ta tb σ H Q=tt σ H λc H1=>if c=true then ta σ H1 Q else tb σ H1 Q:=rfl
def ap_call{sp:Sp}{dvs:List V}{E:XK}:Rc sp dvs E A σ H Q=A σ H λvs H1=>sp (vs++dvs) H1 Q E:=rfl
def ap_nil:Ka σ H QA=QA [] H:=rfl
def ap_cons:jW ta A σ H QA=ta σ H λx H1=>A σ H1 λxs H2=>QA (x::xs) H2:=rfl
def ap_cb{r:List V->Hp->VK->Prop}:tCB r A σ H Q=A σ H λvs H1=>r vs H1 Q:=rfl
def ap_lst:WM A σ H Q=A σ H λxs H1=>xs.length<=sizeLine/\∀p,H1 p=none->Q (.ref p) (upd H1 p (.lst xs)):=rfl
def ap_tup:ade A σ H Q=A σ H λxs H1=>xs.length<=sizeLine/\∀p,H1 p=none->Q (.ref p) (upd H1 p (.tup xs)):=rfl
def ap_chain{r r':R2}:Qq r r' ta tb tc σ H Q=ta σ H λx H1=>tb σ H1 λy H2=>r x y H2 λz q=>∃k,z=.bl k/\(if k=true then tc σ q λw' H4=>r' y w' H4 Q else Q (.bl false) q):=rfl
def ap_sl{r:V->Option Int->Option Int->Hp->VK->Prop}{tl th:TO}:tSl r te tl th σ H Q=te σ H λx H1=>tl σ H1 λl H2=>th σ H2 λu q=>r x l u q Q:=rfl
def ap_noPart{QO:Option Int->Hp->Prop}:WK σ H QO=QO none H:=rfl
def ap_part{QO:Option Int->Hp->Prop}:abb te σ H QO=te σ H λx H1=>∃i,x=.int i/\QO (some i) H1:=rfl
def ap_gNil:adP vs σ H QG=(vs=[]/\QG σ H):=rfl
def ap_gCons{u:TGs}:acg g u vs σ H QG=∃v r,vs=v::r/\g v σ H λq H'=>u r q H' QG:=rfl
def ap_gLst{n:Nat}:adF K n gs v σ H QG=∃a xs,v=.ref a/\SqL K H a xs/\xs.length=n/\gs xs σ H QG:=rfl
def ap_gTup{n:Nat}:ady K n gs v σ H QG=∃a xs,v=.ref a/\SqT K H a xs/\xs.length=n/\gs xs σ H QG:=rfl
def ap_bm{T:String}{r:V->List V->Hp->VK->Prop}:tBM K T r te A σ H Q=te σ H λx H1=>tyV K T x H1/\A σ H1 λxs H2=>r x xs H2 Q:=rfl
def ap_bm0{T:String}{r:V->List V->Hp->VK->Prop}:adp K T r te σ H Q=te σ H λx H1=>tyV K T x H1/\r x [] H1 Q:=rfl
def ap_ixL{x y:V}:aaj K x y H Q=∃p xs i v,x=.ref p/\y=.int i/\SqL K H p xs/\atI xs i=some v/\Q v H:=rfl
def ap_slL{lo hi:Option Int}:adH K x lo hi H Q=∃a xs,x=.ref a/\SqL K H a xs/\∀p,H p=none->Q (.ref p) (upd H p (.lst (CK xs lo hi))):=rfl
def scal_int(i j:Int):aat (.int i) (.int j)=true:=rfl
def scal_str(i j:Str):aat (.str i) (.str j)=true:=rfl
def scal_bl(i j:Bool):aat (.bl i) (.bl j)=true:=rfl
def start_eq(N:List Str)(vs:List V):start N vs=vs.map some++List.replicate (N.length - vs.length) none:=rfl
end
end L2
namespace L2
open PySem PySem.Spec PyProof.Rows
def lu{α:Type}(l:List α):l.filter (λ_=>true)=l:=by simp
theorem Same.upd{H H':Hp}{a:Addr}{o:HO}(h:Same H H')(hn:H a=Option.none):Same H (upd H' a o):=λb u e=>by
 rw[fX (gP e hn)];exact h b u e
def fO{H:Hp}{a:Addr}{o:HO}(hn:H a=Option.none):Same H (L2.upd H a o):=Same.upd (same_refl H) hn
section
variable{K:Fg_}{a D:Addr}{xs:List V}{g:TG}{tt:TT}{te:TE}{σ0:St}{H1:Hp}{Q:VK}
def Ar{xs:List V}(J:It)(Sσ:St->Prop)(p:V->Bool)(F:V->V)(hD:H1 D=Option.none)(h0:Sσ σ0)(hz:xs.length<=sizeLine)
  (ae:∀(i:Nat) x H,xs[i]? =some x->Same H1 H->J.go i H/\∀y H',J.yld i H y H'->y=x/\H'=H) (ad:∀H,Same H1 H->J.stop xs.length H)
  (hs:∀x∈xs,∀(σ:St)(H:Hp)(R1:St->VK)(R2:St->Hp->Prop),Sσ σ->Same H1 H->(p x=true->∀z H6,Sσ z->Same H H6->R1 z (F x) H6)->(p x=false->∀z H6,Sσ z->Same H H6->R2 z H6)->
   g x σ H λz H4=>tt z H4 λb H5=>if b=true then te z H5 (R1 z)else R2 z H5)
  (k:∀H',Same H1 H'->H' D=some (.lst ((xs.filter p).map F))->Q (.ref D) H'):
  ∃W:Nat->Nat->List V->St->Hp->Prop,(∃m,W 0 m [] σ0 (upd H1 D (.lst [])))/\∀i m acc σ1 H2,W i m acc σ1 H2->H2 D=some (.lst acc)->
   (J.stop i H2/\Q (.ref D) H2)\/(J.go i H2/\∀x H3,J.yld i H2 x H3->g x σ1 H3 λz H4=>tt z H4 λb H5=>
    if b=true then te z H5 λv H6=>∃q,H6 D=some (.lst q)/\q.length<sizeLine/\∃m',m'<m/\W (i+1) m' (q++[v]) z (upd H6 D (.lst (q++[v])))
    else∃m',m'<m/\∃q,H5 D=some (.lst q)/\W (i+1) m' q z H5):=by
 refine⟨λi m acc σ H=>m=xs.length - i/\i<=xs.length/\Sσ σ/\Same H1 H/\acc=((xs.take i).filter p).map F,⟨xs.length,rfl,zQ _,h0,fO hD,by simp⟩,?_⟩;rintro i m acc σ H ⟨rfl,hi,hσ,sm,rfl⟩ hA;by_cases ab:i<xs.length
 ·have hx:xs[i]? =some xs[i]:=by simp[ab]
  obtain⟨go,yl⟩:=ae i xs[i] H hx sm;refine .inr ⟨go,λy H' hy=>?_⟩;obtain⟨rfl,rfl⟩:=yl y H' hy;have aa:xs.take (i+1)=xs.take i++[xs[i]]:=by rw[yq,hx];rfl
  have af:(((xs.take i).filter p).map F).length<=i:=by
   rw[za];exact zF (List.length_filter_le _ _) (by rw[zx];exact Nat.min_le_left _ _)
  refine hs xs[i] (List.getElem_mem ab) σ H' _ _ hσ sm (λhp z H6 ac s6=>?_) (λhp z H6 ac s6=>?_)
  ·refine⟨_,s6 _ _ hA,by lia,xs.length - (i+1),by lia,rfl,ab,ac,(sm.trans s6).upd hD,?_⟩
   rw[aa,List.filter_append,zo];simp[hp]
  ·refine⟨xs.length - (i+1),by lia,_,s6 _ _ hA,rfl,ab,ac,sm.trans s6,?_⟩
   rw[aa,List.filter_append,zo];simp[hp]
 ·have e:i=xs.length:=by lia
  subst e;refine .inl ⟨ad H sm,k H sm ?_⟩;rw[hA,zzn]
def VJ(Sσ:St->Prop)(p:V->Bool)(F:V->V)(hS:SqL K H1 a xs)(hD:H1 D=Option.none)(h0:Sσ σ0)(hz:xs.length<=sizeLine)
  (hs:∀x∈xs,∀(σ:St)(H:Hp)(R1:St->VK)(R2:St->Hp->Prop),Sσ σ->Same H1 H->(p x=true->∀z H6,Sσ z->Same H H6->R1 z (F x) H6)->(p x=false->∀z H6,Sσ z->Same H H6->R2 z H6)->
   g x σ H λz H4=>tt z H4 λb H5=>if b=true then te z H5 (R1 z)else R2 z H5)
  (k:∀H',Same H1 H'->H' D=some (.lst ((xs.filter p).map F))->Q (.ref D) H'):
  ∃W:Nat->Nat->List V->St->Hp->Prop,(∃m,W 0 m [] σ0 (upd H1 D (.lst [])))/\∀i m acc σ1 H2,W i m acc σ1 H2->H2 D=some (.lst acc)->
   ((Itl K a).stop i H2/\Q (.ref D) H2)\/((Itl K a).go i H2/\∀x H3,(Itl K a).yld i H2 x H3->g x σ1 H3 λz H4=>tt z H4 λb H5=>
    if b=true then te z H5 λv H6=>∃q,H6 D=some (.lst q)/\q.length<sizeLine/\∃m',m'<m/\W (i+1) m' (q++[v]) z (upd H6 D (.lst (q++[v])))
    else∃m',m'<m/\∃q,H5 D=some (.lst q)/\W (i+1) m' q z H5):=
 Ar (Itl K a) Sσ p F hD h0 hz (λi x H hx sm=>⟨⟨xs,x,sm.seq hS,hx⟩,λy H' hy=>⟨zt ((hy.2 xs (sm.seq hS)).symm.trans hx),hy.1⟩⟩) (λH sm=>⟨xs,sm.seq hS,ze _⟩) hs k
def Rv{lo:Int}{n:Nat}(Sσ:St->Prop)(p:V->Bool)(F:V->V)(hD:H1 D=Option.none)(h0:Sσ σ0)(hz:n<=sizeLine)
  (hs:∀i:Nat,i<n->∀(σ:St)(H:Hp)(R1:St->VK)(R2:St->Hp->Prop),Sσ σ->Same H1 H->(p (.int (lo+i))=true->∀z H6,Sσ z->Same H H6->R1 z (F (.int (lo+i))) H6)->(p (.int (lo+i))=false->∀z H6,Sσ z->Same H H6->R2 z H6)->
   g (.int (lo+i)) σ H λz H4=>tt z H4 λb H5=>if b=true then te z H5 (R1 z)else R2 z H5)
  (k:∀H',Same H1 H'->H' D=some (.lst ((((List.range n).map fun(i:Nat)=>V.int (lo+i)).filter p).map F))->Q (.ref D) H'):
  ∃W:Nat->Nat->List V->St->Hp->Prop,(∃m,W 0 m [] σ0 (upd H1 D (.lst [])))/\∀i m acc σ1 H2,W i m acc σ1 H2->H2 D=some (.lst acc)->
   ((Itr lo n).stop i H2/\Q (.ref D) H2)\/((Itr lo n).go i H2/\∀x H3,(Itr lo n).yld i H2 x H3->g x σ1 H3 λz H4=>tt z H4 λb H5=>
    if b=true then te z H5 λv H6=>∃q,H6 D=some (.lst q)/\q.length<sizeLine/\∃m',m'<m/\W (i+1) m' (q++[v]) z (upd H6 D (.lst (q++[v])))
    else∃m',m'<m/\∃q,H5 D=some (.lst q)/\W (i+1) m' q z H5):=by
 refine Ar (xs:=(List.range n).map fun(i:Nat)=>V.int (lo+i)) (Itr lo n) Sσ p F hD h0 (by simpa using hz) (λi x H hx sm=>?_) (λH sm=>?_) (λx hx σ H R1 R2 h1 h2 h3 h4=>?_) k
 ·have hi:i<n:=by simpa using (zv.mp hx).1
  have e:x=.int (lo+i):=by
   rw[zE,zzW hi]at hx;exact(zt hx).symm
  exact⟨hi,λy H' hy=>⟨hy.2.trans e.symm,hy.1⟩⟩
 ·show n<=_
  simp
 ·obtain⟨i,hi,rfl⟩:=zC.mp hx
  exact hs i (zzB.mp hi) σ H R1 R2 h1 h2 h3 h4
end
end L2
namespace L2
open PySem PySem.Spec PyProof.Rows
inductive DV where
 |non|bl (b:Bool)|int (i:Int)|str (x:Str)|lst (xs:List DV)|tup (xs:List DV)
mutual
inductive Dd(K:Fg_)(H:Hp):V->DV->Prop
 |non:Dd K H .non .non
 |bl (b:Bool):Dd K H (.bl b) (.bl b)
 |int (i:Int):Dd K H (.int i) (.int i)
 |str (x:Str):Dd K H (.str x) (.str x)
 |lst {a:Addr} {vs:List V} {ds:List DV} (h:SqL K H a vs) (hs:mX K H vs ds):Dd K H (.ref a) (.lst ds)
 |tup {a:Addr} {vs:List V} {ds:List DV} (h:SqT K H a vs) (hs:mX K H vs ds):Dd K H (.ref a) (.tup ds)
inductive mX(K:Fg_)(H:Hp):List V->List DV->Prop
 |nil:mX K H [] []
 |cons {v:V} {d:DV} {vs:List V} {ds:List DV} (h:Dd K H v d) (hs:mX K H vs ds):mX K H (v::vs) (d::ds)
end
mutual
noncomputable def jd:DV->DV->Bool
 |.non,.non=>true
 |.bl a,.bl b=>a==b
 |.int a,.int b=>a==b
 |.bl a,.int b=>(if a then 1 else 0)==b
 |.int a,.bl b=>a==(if b then 1 else 0)
 |.str a,.str b=>a==b
 |.lst xs,.lst ys=>Az xs ys
 |.tup xs,.tup ys=>Az xs ys
 |_,_=>false
noncomputable def Az:List DV->List DV->Bool
 |[],[]=>true
 |x::xs,y::ys=>jd x y && Az xs ys
 |_,_=>false
end
mutual
noncomputable def pF:DV->Nat
 |.lst xs=>mz xs+1
 |.tup xs=>mz xs+1
 |_=>0
noncomputable def mz:List DV->Nat
 |[]=>0
 |x::xs=>max (pF x) (mz xs)
end
theorem mX.length{K:Fg_}{H:Hp}:∀{vs:List V}{ds:List DV},mX K H vs ds->vs.length=ds.length
 |_,_,.nil=>rfl
 |_,_,.cons _ hs=>congrArg (·+1) (mX.length hs)
theorem mX.get{K:Fg_}{H:Hp}:∀{vs:List V}{ds:List DV}{j:Nat}{v:V}{d:DV},mX K H vs ds->vs[j]? =some v->ds[j]? =some d->Dd K H v d
 |_,_,_,_,_,.nil,h,_=>by simp at h
 |_,_,0,_,_,.cons h _,e1,e2=>by simp at e1 e2;subst e1 e2;exact h
 |_,_,j+1,_,_,.cons _ hs,e1,e2=>mX.get (j:=j) hs (by simpa using e1) (by simpa using e2)
theorem Ly:∀{ds:List DV}{j:Nat}{d:DV},ds[j]? =some d->pF d<=mz ds
 |[],_,_,h=>by simp at h
 |x::xs,0,d,h=>by simp at h;subst h;unfold mz;exact Nat.le_max_left _ _
 |x::xs,j+1,d,h=>by unfold mz;exact zF (Ly (j:=j) (by simpa using h)) (Nat.le_max_right _ _)
theorem nq:∀(xs ys:List DV),xs.length=ys.length->Az xs ys=(List.range xs.length).all λj=>jd (xs.getD j .non) (ys.getD j .non)
 |[],[],_=>rfl
 |x::xs,y::ys,h=>by
  unfold Az;rw[nq xs ys (by simpa using h),zy,List.range_succ_eq_map,yz,List.all_map];rfl
 |[],_::_,h=>by simp at h
 |_::_,[],h=>by simp at h
theorem nO:∀(xs ys:List DV),xs.length≠ys.length->Az xs ys=false
 |[],[],h=>absurd rfl h
 |x::xs,y::ys,h=>by
  unfold Az;rw[nO xs ys (by simpa using h),yJ]
 |[],_::_,_=>by unfold Az;rfl
 |_::_,[],_=>by unfold Az;rfl
def Qv(xs ys:List DV):jd (.lst xs) (.lst ys)=Az xs ys:=by unfold jd;rfl
def QV(xs ys:List DV):jd (.tup xs) (.tup ys)=Az xs ys:=by unfold jd;rfl
mutual
theorem Es:∀d:DV,jd d d=true
 |.non=>by unfold jd;rfl
 |.bl a=>by unfold jd;simp
 |.int a=>by unfold jd;simp
 |.str a=>by unfold jd;simp
 |.lst xs=>by unfold jd;exact oZ xs
 |.tup xs=>by unfold jd;exact oZ xs
theorem oZ:∀ds:List DV,Az ds ds=true
 |[]=>by unfold Az;rfl
 |x::xs=>by unfold Az;rw[Es x,oZ xs];rfl
end
section
variable{X:Cx}{pins:List (Addr×Obj)}{σ:St}{H:Hp}{s:Shared}
def Inv.noboth(I:Inv X pins σ H s){a:Addr}{xs ys:List V}(h:SqL X.K H a xs)(h':SqT X.K H a ys):False:=by
 obtain⟨its,r,⟨o,n,e,c,_⟩,_⟩:=I.list h;obtain⟨its',r',⟨o',q,z,_⟩,_⟩:=I.tuple h';rw[e]at q;cases q;rw[c]at z;exact absurd z (by decide)
mutual
theorem Dd.inj(I:Inv X pins σ H s):∀{v:V}{d d':DV},Dd X.K H v d->Dd X.K H v d'->d=d'
 |_,_,_,.non,.non=>rfl
 |_,_,_,.bl _,.bl _=>rfl
 |_,_,_,.int _,.int _=>rfl
 |_,_,_,.str _,.str _=>rfl
 |_,_,_,.lst h hs,.lst h' hs'=>by
  have e:=I.list_inj h h';subst e;rw[mX.inj I hs hs']
 |_,_,_,.tup h hs,.tup h' hs'=>by
  have e:=I.tuple_inj h h';subst e;rw[mX.inj I hs hs']
 |_,_,_,.lst h _,.tup h' _=>(I.noboth h h').elim
 |_,_,_,.tup h _,.lst h' _=>(I.noboth h' h).elim
theorem mX.inj(I:Inv X pins σ H s):∀{vs:List V}{ds ds':List DV},mX X.K H vs ds->mX X.K H vs ds'->ds=ds'
 |_,_,_,.nil,.nil=>rfl
 |_,_,_,.cons h hs,.cons h' hs'=>by rw[Dd.inj I h h',mX.inj I hs hs']
end
def in1_units(A:Around):A.in1.units=A.units+1:=rfl
def pq(I:Inv X pins σ H s){A:Around}{d1 d2:DV}{v1 v2:V}{u1 z:Value}(hd:pF d1<=0)(aa:A.units<cLine)(h1:Dd X.K H v1 d1)(h2:Dd X.K H v2 d2)(r1:RelV v1 u1)(q:RelV v2 z):SeqAt.EqAt A s u1 z (jd d1 d2):=by
 cases h1 with
 |lst h hs=>unfold pF at hd;lia
 |tup h hs=>unfold pF at hd;lia
 |non=>
  cases (show u1=Value.none from r1)
  cases h2 with
  |non=>cases (show z=Value.none from q);unfold jd;exact SeqAt.EqAt.same _
  |bl b=>cases (show z=Value.bool b from q);unfold jd;exact SeqAt.EqAt.none_bool b
  |int i=>obtain⟨t,e⟩:=(show∃t,z=Value.int i t from q);subst e;unfold jd;exact SeqAt.EqAt.none_int i t
  |str x=>obtain⟨t,e⟩:=(show∃t,z=Value.str x t from q);subst e;unfold jd;exact SeqAt.EqAt.none_str x t
  |lst h hs=>obtain⟨its,_,p,_⟩:=I.list h;cases q;unfold jd;exact SeqAt.EqAt.none_list p.isList aa
  |tup h hs=>obtain⟨its,_,p,_⟩:=I.tuple h;cases q;unfold jd;exact SeqAt.EqAt.none_tuple p aa
 |bl a=>
  cases (show u1=Value.bool a from r1)
  cases h2 with
  |non=>cases (show z=Value.none from q);unfold jd;exact SeqAt.EqAt.bool_none a
  |bl b=>cases (show z=Value.bool b from q);unfold jd;exact SeqAt.EqAt.bool_bool a b
  |int i=>obtain⟨t,e⟩:=(show∃t,z=Value.int i t from q);subst e;unfold jd;exact SeqAt.EqAt.bool_int a i t
  |str x=>obtain⟨t,e⟩:=(show∃t,z=Value.str x t from q);subst e;unfold jd;exact SeqAt.EqAt.bool_str a x t
  |lst h hs=>obtain⟨its,_,p,_⟩:=I.list h;cases q;unfold jd;exact SeqAt.EqAt.bool_list a p.isList aa
  |tup h hs=>obtain⟨its,_,p,_⟩:=I.tuple h;cases q;unfold jd;exact SeqAt.EqAt.bool_tuple a p aa
 |int a=>
  obtain⟨t1,e1⟩:=(show∃t,u1=Value.int a t from r1);subst e1
  cases h2 with
  |non=>cases (show z=Value.none from q);unfold jd;exact SeqAt.EqAt.int_none a t1
  |bl b=>cases (show z=Value.bool b from q);unfold jd;exact SeqAt.EqAt.int_bool a t1 b
  |int i=>obtain⟨t,e⟩:=(show∃t,z=Value.int i t from q);subst e;unfold jd;exact SeqAt.EqAt.int_int a t1 i t
  |str x=>obtain⟨t,e⟩:=(show∃t,z=Value.str x t from q);subst e;unfold jd;exact SeqAt.EqAt.int_str a t1 x t
  |lst h hs=>obtain⟨its,_,p,_⟩:=I.list h;cases q;unfold jd;exact SeqAt.EqAt.int_list a t1 p.isList aa
  |tup h hs=>obtain⟨its,_,p,_⟩:=I.tuple h;cases q;unfold jd;exact SeqAt.EqAt.int_tuple a t1 p aa
 |str a=>
  obtain⟨t1,e1⟩:=(show∃t,u1=Value.str a t from r1);subst e1
  cases h2 with
  |non=>cases (show z=Value.none from q);unfold jd;exact SeqAt.EqAt.str_none a t1
  |bl b=>cases (show z=Value.bool b from q);unfold jd;exact SeqAt.EqAt.str_bool a t1 b
  |int i=>obtain⟨t,e⟩:=(show∃t,z=Value.int i t from q);subst e;unfold jd;exact SeqAt.EqAt.str_int a t1 i t
  |str x=>obtain⟨t,e⟩:=(show∃t,z=Value.str x t from q);subst e;unfold jd;exact SeqAt.EqAt.str_str a t1 x t
  |lst h hs=>obtain⟨its,_,p,_⟩:=I.list h;cases q;unfold jd;exact SeqAt.EqAt.str_list a t1 p.isList aa
  |tup h hs=>obtain⟨its,_,p,_⟩:=I.tuple h;cases q;unfold jd;exact SeqAt.EqAt.str_tuple a t1 p aa
def ni{A:Around}{ac ad:List V}{aa ab:List DV}{q z:List Value}(r1:Vals ac q)(r2:Vals ad z)(h1:mX X.K H ac aa)(h2:mX X.K H ad ab)
  (ih:∀(d1 d2:DV)(v1 v2:V)(u1 u2:Value),pF d1<=mz aa->Dd X.K H v1 d1->Dd X.K H v2 d2->RelV v1 u1->RelV v2 u2->SeqAt.EqAt A s u1 u2 (jd d1 d2)):
  ∀(j:Nat)(a:j<q.toArray.size)(b:j<z.toArray.size),SeqAt.EqAt A s q.toArray[j] z.toArray[j] (jd (aa.getD j .non) (ab.getD j .non)):=by
 intro j a b;have l1:=r1.length;have l2:=r2.length;have m1:=h1.length;have m2:=h2.length;simp only[zn]at a b;have a1:j<ac.length:=by lia
 have a2:j<ad.length:=by lia
 have b1:j<aa.length:=by lia
 have b2:j<ab.length:=by lia
 obtain⟨w1,e1,q1⟩:=r1.get (i:=j) (x:=ac[j]) (by simp[a1]);obtain⟨w2,e2,q2⟩:=r2.get (i:=j) (x:=ad[j]) (by simp[a2]);have z1:q.toArray[j]=w1:=by simpa [a] using e1
 have z2:z.toArray[j]=w2:=by simpa [b] using e2
 have y1:aa.getD j .non=aa[j]:=by simp[List.getD,b1]
 have y2:ab.getD j .non=ab[j]:=by simp[List.getD,b2]
 rw[z1,z2,y1,y2];exact ih _ _ _ _ _ _ (Ly (j:=j) (by simp[b1])) (h1.get (j:=j) (by simp[a1]) (by simp[b1])) (h2.get (j:=j) (by simp[a2]) (by simp[b2])) q1 q2
def Qz(I:Inv X pins σ H s):∀(n:Nat)(A:Around)(d1 d2:DV)(v1 v2:V)(u1 q:Value),pF d1<=n->A.units+n<cLine->Dd X.K H v1 d1->Dd X.K H v2 d2->RelV v1 u1->RelV v2 q->SeqAt.EqAt A s u1 q (jd d1 d2):=by
 intro n
 induction n with
 |zero=>exact λA d1 d2 v1 v2 u1 q hd hu h1 h2 r1 z=>pq I hd (by lia) h1 h2 r1 z
 |succ n ih=>
  intro A d1 d2 v1 v2 u1 q hd hu h1 h2 r1 z;have hu':A.units<cLine:=by lia
  have ad:A.in1.units+n<cLine:=by rw[in1_units];lia
  cases h1 with
  |non=>exact pq I (by unfold pF;lia) hu' .non h2 r1 z
  |bl a=>exact pq I (by unfold pF;lia) hu' (.bl a) h2 r1 z
  |int a=>exact pq I (by unfold pF;lia) hu' (.int a) h2 r1 z
  |str a=>exact pq I (by unfold pF;lia) hu' (.str a) h2 r1 z
  | @lst a vs ds h hs=>
   obtain⟨its,rv,p,_⟩:=I.list h;cases (show u1=Value.ref a from r1);have hd':mz ds<=n:=by unfold pF at hd;lia
   cases h2 with
   |non=>cases (show q=Value.none from z);unfold jd;exact SeqAt.EqAt.list_none p.isList hu'
   |bl b=>cases (show q=Value.bool b from z);unfold jd;exact SeqAt.EqAt.list_bool b p.isList hu'
   |int i=>obtain⟨t,e⟩:=(show∃t,q=Value.int i t from z);subst e;unfold jd;exact SeqAt.EqAt.list_int i t p.isList hu'
   |str x=>obtain⟨t,e⟩:=(show∃t,q=Value.str x t from z);subst e;unfold jd;exact SeqAt.EqAt.list_str x t p.isList hu'
   | @lst a2 vs2 ds2 h' hs'=>
    obtain⟨aa,ab,p2,_⟩:=I.list h';cases (show q=Value.ref a2 from z);unfold jd;by_cases ac:a=a2
    ·subst ac
     have e:=I.list_inj h h';subst e;rw[mX.inj I hs hs',oZ];exact SeqAt.EqAt.same _
    ·have l1:=rv.length
     have l2:=ab.length;have m1:=hs.length;have m2:=hs'.length;by_cases hz:ds.length=ds2.length
     ·rw[nq _ _ hz]
      have:=SeqAt.EqAt.of_refs ac (SeqAt.RcAt.lists (A:=A) (e:=λj=>jd (ds.getD j .non) (ds2.getD j .non)) p.isList p2.isList (by simp only[zn];lia) hu'
       (ni rv ab hs hs' λd1 d2 v1 v2 u1 q ae g1 g2 q1 q2=>ih A.in1 d1 d2 v1 v2 u1 q (by lia) ad g1 g2 q1 q2))
      rw[zn,show its.length=ds.length by lia]at this;exact this
     ·rw[nO _ _ hz]
      exact SeqAt.EqAt.of_refs ac (SeqAt.RcAt.lists_lengths p.isList p2.isList (by simp only[zn,bne_iff_ne];lia) hu')
   | @tup a2 vs2 ds2 h' hs'=>
    obtain⟨aa,ab,p2,_⟩:=I.tuple h';cases (show q=Value.ref a2 from z);unfold jd;exact SeqAt.EqAt.list_tuple p.isList p2 hu'
  | @tup a vs ds h hs=>
   obtain⟨its,rv,p,_⟩:=I.tuple h;cases (show u1=Value.ref a from r1);have hd':mz ds<=n:=by unfold pF at hd;lia
   cases h2 with
   |non=>cases (show q=Value.none from z);unfold jd;exact SeqAt.EqAt.tuple_none p hu'
   |bl b=>cases (show q=Value.bool b from z);unfold jd;exact SeqAt.EqAt.tuple_bool b p hu'
   |int i=>obtain⟨t,e⟩:=(show∃t,q=Value.int i t from z);subst e;unfold jd;exact SeqAt.EqAt.tuple_int i t p hu'
   |str x=>obtain⟨t,e⟩:=(show∃t,q=Value.str x t from z);subst e;unfold jd;exact SeqAt.EqAt.tuple_str x t p hu'
   | @lst a2 vs2 ds2 h' hs'=>
    obtain⟨aa,ab,p2,_⟩:=I.list h';cases (show q=Value.ref a2 from z);unfold jd;exact SeqAt.EqAt.tuple_list p p2.isList hu'
   | @tup a2 vs2 ds2 h' hs'=>
    obtain⟨aa,ab,p2,_⟩:=I.tuple h';cases (show q=Value.ref a2 from z);unfold jd;by_cases ac:a=a2
    ·subst ac
     have e:=I.tuple_inj h h';subst e;rw[mX.inj I hs hs',oZ];exact SeqAt.EqAt.same _
    ·have l1:=rv.length
     have l2:=ab.length;have m1:=hs.length;have m2:=hs'.length
     have:=SeqAt.EqAt.of_refs ac (SeqAt.RcAt.tuples (A:=A) (e:=λj=>jd (ds.getD j .non) (ds2.getD j .non)) p p2 hu'
       (ni rv ab hs hs' λd1 d2 v1 v2 u1 q ae g1 g2 q1 q2=>ih A.in1 d1 d2 v1 v2 u1 q (by lia) ad g1 g2 q1 q2))
     simp only[zn]at this;by_cases hz:ds.length=ds2.length
     ·rw[nq _ _ hz]
      rw[show its.length=ds.length by lia,show aa.length=ds.length by lia,Nat.min_self,beq_self_eq_true,yH]at this;exact this
     ·rw[nO _ _ hz]
      rw[show(its.length==aa.length)=false from beq_eq_false_iff_ne.mpr (by lia),yJ]at this;exact this
noncomputable def acV(K:Fg_):R2:=λx y H Q=>∃d1 d2,Dd K H x d1/\Dd K H y d2/\1<=pF d1/\pF d1<=20/\Q (.bl (jd d1 d2)) H
noncomputable def acQ(K:Fg_):R2:=λx y H Q=>∃d1 d2,Dd K H x d1/\Dd K H y d2/\1<=pF d1/\pF d1<=20/\Q (.bl (!jd d1 d2)) H
def acJ{k:Nat}(hr:nY k X.A):OpR X (compareOp .Eq) (acV X.K):=by
 intro pins s σ H x y v u Q I rx ry h;obtain⟨d1,d2,h1,h2,ad,hd,q⟩:=h;have hr':=hr.units;have hu':X.A.units<cLine:=by lia
 have ae:X.A.in1.units+20<cLine:=by rw[in1_units];lia
 have aa:∀b,SeqAt.RcAt X.A s v u b->b=(jd d1 d2)->wpAny (model X.prog X.w) X.A (compareOp .Eq v u) (EP X pins σ Q) X.xe s:=λb hb e=>by
  subst e;exact hb X.prog X.w X.xe _ ⟨.bl _,H,I,rfl,q⟩
 cases h1 with
 |non=>unfold pF at ad;lia
 |bl a=>unfold pF at ad;lia
 |int a=>unfold pF at ad;lia
 |str a=>unfold pF at ad;lia
 | @lst a vs ds h hs=>
  obtain⟨its,rv,p,_⟩:=I.list h;cases (show v=Value.ref a from rx);have hd':mz ds<=20:=by unfold pF at hd;lia
  cases h2 with
  |non=>cases (show u=Value.none from ry);exact aa _ (SeqAt.RcAt.list_none p.isList hu') (by unfold jd;rfl)
  |bl b=>cases (show u=Value.bool b from ry);exact aa _ (SeqAt.RcAt.list_bool b p.isList hu') (by unfold jd;rfl)
  |int i=>obtain⟨t,e⟩:=(show∃t,u=Value.int i t from ry);subst e;exact aa _ (SeqAt.RcAt.list_int i t p.isList hu') (by unfold jd;rfl)
  |str z=>obtain⟨t,e⟩:=(show∃t,u=Value.str z t from ry);subst e;exact aa _ (SeqAt.RcAt.list_str z t p.isList hu') (by unfold jd;rfl)
  | @tup a2 vs2 ds2 h' hs'=>
   obtain⟨ab,ac,p2,_⟩:=I.tuple h';cases (show u=Value.ref a2 from ry);exact aa _ (SeqAt.RcAt.list_tuple p.isList p2 hu') (by unfold jd;rfl)
  | @lst a2 vs2 ds2 h' hs'=>
   obtain⟨ab,ac,p2,_⟩:=I.list h';cases (show u=Value.ref a2 from ry);have l1:=rv.length;have l2:=ac.length;have m1:=hs.length;have m2:=hs'.length;by_cases hz:ds.length=ds2.length
   ·refine aa _ (SeqAt.RcAt.lists (A:=X.A) (e:=λj=>jd (ds.getD j .non) (ds2.getD j .non)) p.isList p2.isList (by simp only[zn];lia) hu'
     (ni rv ac hs hs' λd1 d2 v1 v2 u1 u2 af g1 g2 q1 q2=>Qz I 20 X.A.in1 d1 d2 v1 v2 u1 u2 (by lia) ae g1 g2 q1 q2)) ?_
    rw[Qv,nq _ _ hz,zn,show its.length=ds.length by lia]
   ·refine aa _ (SeqAt.RcAt.lists_lengths p.isList p2.isList (by simp only[zn,bne_iff_ne];lia) hu') ?_
    unfold jd;rw[nO _ _ hz]
    all_goals rfl
 | @tup a vs ds h hs=>
  obtain⟨its,rv,p,_⟩:=I.tuple h;cases (show v=Value.ref a from rx);have hd':mz ds<=20:=by unfold pF at hd;lia
  cases h2 with
  |non=>cases (show u=Value.none from ry);exact aa _ (SeqAt.RcAt.tuple_none p hu') (by unfold jd;rfl)
  |bl b=>cases (show u=Value.bool b from ry);exact aa _ (SeqAt.RcAt.tuple_bool b p hu') (by unfold jd;rfl)
  |int i=>obtain⟨t,e⟩:=(show∃t,u=Value.int i t from ry);subst e;exact aa _ (SeqAt.RcAt.tuple_int i t p hu') (by unfold jd;rfl)
  |str z=>obtain⟨t,e⟩:=(show∃t,u=Value.str z t from ry);subst e;exact aa _ (SeqAt.RcAt.tuple_str z t p hu') (by unfold jd;rfl)
  | @lst a2 vs2 ds2 h' hs'=>
   obtain⟨ab,ac,p2,_⟩:=I.list h';cases (show u=Value.ref a2 from ry);exact aa _ (SeqAt.RcAt.tuple_list p p2.isList hu') (by unfold jd;rfl)
  | @tup a2 vs2 ds2 h' hs'=>
   obtain⟨ab,ac,p2,_⟩:=I.tuple h';cases (show u=Value.ref a2 from ry);have l1:=rv.length;have l2:=ac.length;have m1:=hs.length;have m2:=hs'.length
   refine aa _ (SeqAt.RcAt.tuples (A:=X.A) (e:=λj=>jd (ds.getD j .non) (ds2.getD j .non)) p p2 hu'
     (ni rv ac hs hs' λd1 d2 v1 v2 u1 u2 af g1 g2 q1 q2=>Qz I 20 X.A.in1 d1 d2 v1 v2 u1 u2 (by lia) ae g1 g2 q1 q2)) ?_
   rw[QV];simp only[zn];by_cases hz:ds.length=ds2.length
   ·rw[nq _ _ hz,show its.length=ds.length by lia,show ab.length=ds.length by lia,Nat.min_self,beq_self_eq_true,yH]
   ·rw[nO _ _ hz,show(its.length==ab.length)=false from beq_eq_false_iff_ne.mpr (by lia),yJ]
def abT{k:Nat}(hr:nY k X.A):OpR X (compareOp .NotEq) (acQ X.K):=by
 intro pins s σ H x y v u Q I rx ry h;obtain⟨d1,d2,h1,h2,ad,hd,q⟩:=h;have hr':=hr.units;have hu':X.A.units<cLine:=by lia
 have ae:X.A.in1.units+20<cLine:=by rw[in1_units];lia
 have aa:∀b,SeqAt.RcNeAt X.A s v u b->b=(!jd d1 d2)->wpAny (model X.prog X.w) X.A (compareOp .NotEq v u) (EP X pins σ Q) X.xe s:=λb hb e=>by
  subst e;exact hb X.prog X.w X.xe _ ⟨.bl _,H,I,rfl,q⟩
 cases h1 with
 |non=>unfold pF at ad;lia
 |bl a=>unfold pF at ad;lia
 |int a=>unfold pF at ad;lia
 |str a=>unfold pF at ad;lia
 | @lst a vs ds h hs=>
  obtain⟨its,rv,p,_⟩:=I.list h;cases (show v=Value.ref a from rx);have hd':mz ds<=20:=by unfold pF at hd;lia
  cases h2 with
  |non=>cases (show u=Value.none from ry);exact aa _ (SeqAt.RcNeAt.list_none p.isList hu') (by unfold jd;rfl)
  |bl b=>cases (show u=Value.bool b from ry);exact aa _ (SeqAt.RcNeAt.list_bool b p.isList hu') (by unfold jd;rfl)
  |int i=>obtain⟨t,e⟩:=(show∃t,u=Value.int i t from ry);subst e;exact aa _ (SeqAt.RcNeAt.list_int i t p.isList hu') (by unfold jd;rfl)
  |str z=>obtain⟨t,e⟩:=(show∃t,u=Value.str z t from ry);subst e;exact aa _ (SeqAt.RcNeAt.list_str z t p.isList hu') (by unfold jd;rfl)
  | @tup a2 vs2 ds2 h' hs'=>
   obtain⟨ab,ac,p2,_⟩:=I.tuple h';cases (show u=Value.ref a2 from ry);exact aa _ (SeqAt.RcNeAt.list_tuple p.isList p2 hu') (by unfold jd;rfl)
  | @lst a2 vs2 ds2 h' hs'=>
   obtain⟨ab,ac,p2,_⟩:=I.list h';cases (show u=Value.ref a2 from ry);have l1:=rv.length;have l2:=ac.length;have m1:=hs.length;have m2:=hs'.length;by_cases hz:ds.length=ds2.length
   ·refine aa _ (SeqAt.RcNeAt.lists (A:=X.A) (e:=λj=>jd (ds.getD j .non) (ds2.getD j .non)) p.isList p2.isList (by simp only[zn];lia) hu'
     (ni rv ac hs hs' λd1 d2 v1 v2 u1 u2 af g1 g2 q1 q2=>Qz I 20 X.A.in1 d1 d2 v1 v2 u1 u2 (by lia) ae g1 g2 q1 q2)) ?_
    rw[Qv,nq _ _ hz,zn,show its.length=ds.length by lia]
   ·refine aa _ (SeqAt.RcNeAt.lists_lengths p.isList p2.isList (by simp only[zn,bne_iff_ne];lia) hu') ?_
    unfold jd;rw[nO _ _ hz]
    all_goals rfl
 | @tup a vs ds h hs=>
  obtain⟨its,rv,p,_⟩:=I.tuple h;cases (show v=Value.ref a from rx);have hd':mz ds<=20:=by unfold pF at hd;lia
  cases h2 with
  |non=>cases (show u=Value.none from ry);exact aa _ (SeqAt.RcNeAt.tuple_none p hu') (by unfold jd;rfl)
  |bl b=>cases (show u=Value.bool b from ry);exact aa _ (SeqAt.RcNeAt.tuple_bool b p hu') (by unfold jd;rfl)
  |int i=>obtain⟨t,e⟩:=(show∃t,u=Value.int i t from ry);subst e;exact aa _ (SeqAt.RcNeAt.tuple_int i t p hu') (by unfold jd;rfl)
  |str z=>obtain⟨t,e⟩:=(show∃t,u=Value.str z t from ry);subst e;exact aa _ (SeqAt.RcNeAt.tuple_str z t p hu') (by unfold jd;rfl)
  | @lst a2 vs2 ds2 h' hs'=>
   obtain⟨ab,ac,p2,_⟩:=I.list h';cases (show u=Value.ref a2 from ry);exact aa _ (SeqAt.RcNeAt.tuple_list p p2.isList hu') (by unfold jd;rfl)
  | @tup a2 vs2 ds2 h' hs'=>
   obtain⟨ab,ac,p2,_⟩:=I.tuple h';cases (show u=Value.ref a2 from ry);have l1:=rv.length;have l2:=ac.length;have m1:=hs.length;have m2:=hs'.length
   refine aa _ (SeqAt.RcNeAt.tuples (A:=X.A) (e:=λj=>jd (ds.getD j .non) (ds2.getD j .non)) p p2 hu'
     (ni rv ac hs hs' λd1 d2 v1 v2 u1 u2 af g1 g2 q1 q2=>Qz I 20 X.A.in1 d1 d2 v1 v2 u1 u2 (by lia) ae g1 g2 q1 q2)) ?_
   rw[QV];simp only[zn];by_cases hz:ds.length=ds2.length
   ·rw[nq _ _ hz,show its.length=ds.length by lia,show ab.length=ds.length by lia,Nat.min_self,beq_self_eq_true,yH]
   ·rw[nO _ _ hz,show(its.length==ab.length)=false from beq_eq_false_iff_ne.mpr (by lia),yJ]
end
end L2
namespace L2
open PySem PySem.Spec PyProof.Rows
section
variable{X:Cx}{K:Fg_}{a b o e:Expr}{ta tb to te:TE}{pos:Pos}{tg:Expr}
def fV(q:X.K=K:=by rfl):IxR X (aaj K):=q▸aaE
def jP(q:X.K=K:=by rfl):IxR X (adB K):=q▸abd
def iG(q:X.K=K:=by rfl):SlR X (adH K):=q▸Zx
def Vb(q:X.K=K:=by rfl):SlR X (adg K):=q▸aco
def acG(q:X.K=K:=by rfl):OpR X (compareOp .In) (rIn K false):=q▸Uo
def Lf(q:X.K=K:=by rfl):OpR X (compareOp .NotIn) (rIn K true):=q▸Le
def Ju{k:Nat}(z:nY k X.A)(q:X.K=K:=by rfl):OpR X (compareOp .Eq) (acV K):=q▸acJ z
def Ue{k:Nat}(z:nY k X.A)(q:X.K=K:=by rfl):OpR X (compareOp .NotEq) (acQ K):=q▸abT z
def Ba(q:X.K=K:=by rfl):OpR X (binaryOp .Add) (aaA K):=q▸ZD
noncomputable def adl(K:Fg_):List V->Hp->VK->Prop:=λxs H Q=>∃p ys,xs=[.ref p]/\(SqL K H p ys\/SqT K H p ys)/\Q (.int ys.length) H
def gW(q:X.K=K:=by rfl):lX X (.builtin "len") (adl K):=q▸Mx
noncomputable def adE(K:Fg_):List V->Hp->VK->Prop:=λxs H Q=>∃(a:Addr)(ns:List Int),xs=[.ref a]/\SqL K H a (ns.map V.int)/\Q (.int ns.sum) H
def Nf(z:X.calm=true)(q:X.K=K:=by rfl):lX X (.builtin "sum") (adE K):=q▸Uz z
noncomputable def acT(K:Fg_):List V->Hp->VK->Prop:=λxs H Q=>∃(a:Addr)(bs:List Bool),xs=[.ref a]/\SqL K H a (bs.map V.bl)/\Q (.bl (bs.all id)) H
def Ks(z:X.calm=true)(q:X.K=K:=by rfl):lX X (.builtin "all") (acT K):=q▸Wb z
noncomputable def NQ(K:Fg_):List V->Hp->VK->Prop:=λxs H Q=>∃p ys,xs=[.ref p]/\(SqL K H p ys\/SqT K H p ys)/\∀l,H l=none->Q (.ref l) (upd H l (.lst ys))
def Hw(q:X.K=K:=by rfl):lX X (.type "list") (NQ K):=q▸Lw
noncomputable def VG(K:Fg_):List V->Hp->VK->Prop:=λxs H Q=>∃p ys,xs=[.ref p]/\((SqL K H p ys/\∀l,H l=none->Q (.ref l) (upd H l (.tup ys)))\/(SqT K H p ys/\Q (.ref p) H))
def pL(q:X.K=K:=by rfl):lX X (.type "tuple") (VG K):=q▸JQ
noncomputable def adT(K:Fg_):List V->Hp->VK->Prop:=λxs H Q=>∃x n t k,xs=[x,.ty n]/\Nv K H x t/\PySem.W.kitOne K t (.type n)=some k/\Q (.bl k) H
def Ax(q:X.K=K:=by rfl):lX X (.builtin "isinstance") (adT K):=q▸KJ
noncomputable def aed:List V->Hp->VK->Prop:=λxs H Q=>∃i j,xs=[.int i,.int j]/\Q (.int (if j>i then j else i)) H
def LQ(q:X.calm=true):lX X (.builtin "max") aed:=Wi q
noncomputable def adY:List V->Hp->VK->Prop:=λxs H Q=>∃i j,xs=[.int i,.int j]/\Q (.int (if j<i then j else i)) H
def Fi(q:X.calm=true):lX X (.builtin "min") adY:=VH q
def lU(hl:PE X o to)(q:X.K=K:=by rfl):PI X tg o (SQ K to):=q▸aar hl
def aaT(hl:PE X o to)(q:X.K=K:=by rfl):PI X tg o (adA K to):=q▸acD hl
def Pa{es:List Expr}{k:Nat}{t:TGs}{n:Nat}(q:X.calm=true)(h:PGs X es t)(hn:(assignEach es X.env).length=n:=by rfl)(hst:(assignEach es X.env).findIdx? (·.1)=none:=by rfl)(hK:X.K=K:=by rfl):PG X (.Tuple es k pos) (adF K n t):=hK▸abC q h hn hst
def wG{es:List Expr}{k:Nat}{t:TGs}{n:Nat}(q:X.calm=true)(h:PGs X es t)(hn:(assignEach es X.env).length=n:=by rfl)(hst:(assignEach es X.env).findIdx? (·.1)=none:=by rfl)(hK:X.K=K:=by rfl):PG X (.Tuple es k pos) (ady K n t):=hK▸abx q h hn hst
def ZP{f:Str}(q:PE X e ta)(hb:attributeBase e f X.env (eval e X.env)=eval e X.env)(z:X.K=K:=by rfl):PE X (.Attribute e f pos) (abS K ta f):=z▸acn q hb
def jV{T:String}{name:Str}{id:String}{r:V->List V->Hp->VK->Prop}{es:List Expr}{t:TA}{apos cpos:Pos}(pa:PlainAttrs T)(slot:Slot T name id)(z:typeOf (.builtin id)=pure (.type "method_descriptor")) (hm:MtR X id r) (ho:PE X o to) (ha:PA X (e::es) t)
  (q:attributeBase o name X.env (eval o X.env)=eval o X.env:=by rfl)
  (hfew:((backTo cpos (starEach (e::es) X.env)).all (λx=>!x.1) && (backToKw cpos (keywordEach [] X.env)).all (λx=>x.1.isSome)
   && decide ((e::es).length+([]:List Keyword).length+(if([]:List Keyword).isEmpty then 0 else 1)<30))=true:=by rfl)
  (hline:(apos.endLine==cpos.line)=true:=by rfl) (hs:starEach (e::es) X.env=(false,eval e X.env)::starEach es X.env:=by rfl) (hplain:(backTo cpos (starEach es X.env)).any (·.1)=false:=by rfl) (hK:X.K=K:=by rfl):
  PE X (.Call (.Attribute o name apos) (e::es) [] cpos) (tBM K T r to t):=hK▸ado pa slot z hm ho ha q hfew hline hs hplain
def Vh{T:String}{name:Str}{id:String}{r:V->List V->Hp->VK->Prop}{apos cpos:Pos}(pa:PlainAttrs T)(slot:Slot T name id)(z:typeOf (.builtin id)=pure (.type "method_descriptor")) (hm:MtR X id r) (ho:PE X o to)
  (q:attributeBase o name X.env (eval o X.env)=eval o X.env:=by rfl) (hline:(apos.endLine==cpos.line)=true:=by rfl) (hK:X.K=K:=by rfl):PE X (.Call (.Attribute o name apos) [] [] cpos) (adp K T r to):=hK▸acM pa slot z hm ho q hline
end
section
variable{K:Fg_}{H:Hp}{Q:VK}{p:Addr}{x y:V}
def ap_noIf{σ:St}{QB:Bool->Hp->Prop}:Eb σ H QB=QB true H:=rfl
def ap_rLen:adl K [.ref p] H Q=∃ys,(SqL K H p ys\/SqT K H p ys)/\Q (.int (ys.length:Int)) H:=by simp[adl]
def ap_rSum:adE K [.ref p] H Q=∃ns:List Int,SqL K H p (ns.map V.int)/\Q (.int ns.sum) H:=by simp[adE]
def ap_rAll:acT K [.ref p] H Q=∃bs:List Bool,SqL K H p (bs.map V.bl)/\Q (.bl (bs.all id)) H:=by simp[acT]
def ap_rListOf:NQ K [.ref p] H Q=∃ys,(SqL K H p ys\/SqT K H p ys)/\∀l,H l=none->Q (.ref l) (upd H l (.lst ys)):=by simp[NQ]
def ap_rIsT{n:String}:adT K [x,.ty n] H Q=∃t k,Nv K H x t/\PySem.W.kitOne K t (.type n)=some k/\Q (.bl k) H:=propext ⟨fun⟨q,z,t,k,e,h⟩=>by
  injection e with e1 e2
  injection e2 with e2 _
  injection e2 with e2
  subst e1 e2;exact⟨t,k,h⟩,fun⟨t,k,h⟩=>⟨x,n,t,k,rfl,h⟩⟩
def ap_append:Oz (.ref p) [y] H Q=∃xs,H p=some (.lst xs)/\xs.length<sizeLine/\Q .non (upd H p (.lst (xs++[y]))):=by simp[Oz]
def ap_rCat{l b:Addr}:adK (.ref l) (.ref b) H Q=∃xs zs,H l=some (.lst xs)/\H b=some (.lst zs)/\xs.length+zs.length<=sizeLine/\∀p,H p=none->Q (.ref p) (upd H p (.lst (xs++zs))):=by simp[adK]
def ap_rMax{i j:Int}:aed [.int i,.int j] H Q=Q (.int (if j>i then j else i)) H:=propext ⟨fun⟨z,q,e,h⟩=>by cases e;exact h,λh=>⟨i,j,rfl,h⟩⟩
def ap_rMin{i j:Int}:adY [.int i,.int j] H Q=Q (.int (if j<i then j else i)) H:=propext ⟨fun⟨z,q,e,h⟩=>by cases e;exact h,λh=>⟨i,j,rfl,h⟩⟩
end
end L2
namespace L2
open PySem PySem.Spec PyProof.Rows
section
variable{K:Fg_}{a:Addr}{xs:List V}{g:TG}{tb:TS}{D:Ends}{σ:St}{H:Hp}{wi:TI}{cap:List (Option Nat)}{tt:TT}{te tl:TE}{Q:VK}{ta:TA}{R:It->Hp->Prop}
noncomputable def Dr(J:It)(g:TG)(tb:TS)(D:Ends)(σ:St)(H1:Hp):Prop:=∃W:Nat->Nat->St->Hp->Prop,(∃m,W 0 m σ H1)/\∀i m σ H,W i m σ H->
 (J.stop i H/\D.nx σ H)\/(J.go i H/\∃N:St->Hp->Prop,(∀σ' H',N σ' H'->∃m',m'<m/\W (i+1) m' σ' H')/\∀x H',J.yld i H x H'->g x σ H' λσ2 H2=>tb {D with nx:=N,ct:=N,bk:=D.nx} σ2 H2)
def ap_for:ada wi g tb D σ H=wi σ H λJ H1=>Dr J g tb D σ H1:=rfl
def wV(q:Nat->St->Hp->Prop)(h0:q 0 σ H)(hl:∀i σ H,i<=xs.length->q i σ H->SqL K H a xs)
  (z:∀i x σ H,xs[i]? =some x->q i σ H->g x σ H λσ2 H2=>tb {D with nx:=q (i+1),ct:=q (i+1),bk:=D.nx} σ2 H2) (hd:∀σ H,q xs.length σ H->D.nx σ H):Dr (Itl K a) g tb D σ H:=Xb q h0 hl z hd
def Dr.range{lo:Int}{n:Nat}(q:Nat->St->Hp->Prop)(h0:q 0 σ H)
  (z:∀i σ H,i<n->q i σ H->g (.int (lo+i)) σ H λσ2 H2=>tb {D with nx:=q (i+1),ct:=q (i+1),bk:=D.nx} σ2 H2) (hd:∀σ H,q n σ H->D.nx σ H):Dr (Itr lo n) g tb D σ H:=VB q h0 z hd
def ap_iList:SQ K tl σ H R=tl σ H λx H1=>∃a,x=.ref a/\(∃xs,SqL K H1 a xs)/\R (Itl K a) H1:=rfl
def ap_iTup:adA K tl σ H R=tl σ H λx H1=>∃a,x=.ref a/\(∃xs,SqT K H1 a xs)/\R (Itt K a) H1:=rfl
def ap_iRng1:abY ta σ H R=ta σ H λvs H1=>∃j:Int,vs=[.int j]/\ -(2^62)<=j/\j<2^62/\R (Itr 0 j.toNat) H1:=rfl
noncomputable def jC(cap:List (Option Nat))(J:It)(g:TG)(tt:TT)(te:TE)(σ:St)(H1:Hp)(Q:VK):Prop:=∀D,H1 D=Option.none->
 ∃W:Nat->Nat->List V->St->Hp->Prop,(∃m,W 0 m [] (pM σ cap) (upd H1 D (.lst [])))/\∀i m acc σ1 H2,W i m acc σ1 H2->H2 D=some (.lst acc)->
  (J.stop i H2/\Q (.ref D) H2)\/(J.go i H2/\∀x H3,J.yld i H2 x H3->g x σ1 H3 λσ4 H4=>tt σ4 H4 λb H5=>
   if b=true then te σ4 H5 λv H6=>∃acc',H6 D=some (.lst acc')/\acc'.length<sizeLine/\∃m',m'<m/\W (i+1) m' (acc'++[v]) σ4 (upd H6 D (.lst (acc'++[v])))
   else∃m',m'<m/\∃acc',H5 D=some (.lst acc')/\W (i+1) m' acc' σ4 H5)
def ap_comp:ZM cap wi g tt te σ H Q=wi σ H λJ H1=>jC cap J g tt te σ H1 Q:=rfl
def jC.list(Sσ:St->Prop)(p:V->Bool)(F:V->V)(hS:SqL K H a xs)(h0:Sσ (pM σ cap))(hz:xs.length<=sizeLine)
  (hs:∀x∈xs,∀(σ:St)(z:Hp)(R1:St->VK)(R2:St->Hp->Prop),Sσ σ->Same H z->(p x=true->∀q H6,Sσ q->Same z H6->R1 q (F x) H6)->(p x=false->∀q H6,Sσ q->Same z H6->R2 q H6)->
   g x σ z λq H4=>tt q H4 λb z=>if b=true then te q z (R1 q)else R2 q z)
  (k:∀D H',H D=Option.none->Same H H'->H' D=some (.lst ((xs.filter p).map F))->Q (.ref D) H'):jC cap (Itl K a) g tt te σ H Q:=
 λD hD=>VJ Sσ p F hS hD h0 hz hs λH' s e=>k D H' hD s e
theorem jC.range{lo:Int}{n:Nat}(Sσ:St->Prop)(p:V->Bool)(F:V->V)(h0:Sσ (pM σ cap))(hz:n<=sizeLine)
  (hs:∀i:Nat,i<n->∀(σ:St)(z:Hp)(R1:St->VK)(R2:St->Hp->Prop),Sσ σ->Same H z->(p (.int (lo+i))=true->∀q H6,Sσ q->Same z H6->R1 q (F (.int (lo+i))) H6)->(p (.int (lo+i))=false->∀q H6,Sσ q->Same z H6->R2 q H6)->
   g (.int (lo+i)) σ z λq H4=>tt q H4 λb z=>if b=true then te q z (R1 q)else R2 q z)
  (k:∀D H',H D=Option.none->Same H H'->H' D=some (.lst ((((List.range n).map fun(i:Nat)=>V.int (lo+i)).filter p).map F))->Q (.ref D) H'):jC cap (Itr lo n) g tt te σ H Q:=
 λD hD=>Rv Sσ p F hD h0 hz hs λH' s e=>k D H' hD s e
def kY(xs:List V)(n:Nat):CK xs none (some (n:Int))=xs.take n:=by
 unfold CK;rw[HT.sIx_none,HT.sIx_nat,List.drop_zero,Nat.sub_zero];rcases Nat.le_total n xs.length with h|h
 ·rw[yyj h]
 ·rw[Nat.min_eq_right h,zX h,zX (ze _)]
end
end L2
namespace L2
open PySem PySem.Spec PyProof.Rows
structure LeE(D D':Ends):Prop where
 nx:∀σ H,D.nx σ H->D'.nx σ H
 rt:∀v H,D.rt v H->D'.rt v H
 bk:∀σ H,D.bk σ H->D'.bk σ H
 ct:∀σ H,D.ct σ H->D'.ct σ H
end L2
namespace L2
open PySem PySem.Spec PyProof.Rows
section
variable{X:Cx}{pins:List (Addr×Obj)}{σ:St}{H:Hp}{s:Shared}{h':Heap}
def Inv.turnedN{t':Nat}{fp:List Addr}(I:Inv X pins σ H s)(hf:∀b∈fp,UV X pins H b)(k:∀b o,b∉fp->s.heap.get? b=some o->h'.get? b=some o):Inv X pins σ H {s with heap:=h',toks:=t'}:=by
 have aa:∀b u,H b=some u->b∉fp:=λb u e z=>by rw[(hf b z).1]at e;cases e
 refine I.step (g':=s.gens) (d':=s.drawn) (ch:=fp) (λb hb=>⟨(hf b hb).2.2.2.1,(hf b hb).2.1,(hf b hb).2.2.2.2.1,(hf b hb).2.2.2.2.2⟩) (λb o _ _ hc e _=>k b o hc e) (λb o _ _ hc e _=>⟨o.slots,k b o hc e⟩) (λ_ _ _ _ n=>n)
  (λb o hc e=>⟨o,k b o hc e⟩) (λ_ _ e=>e) (λ_ _ _ e=>e) (λb ps e=>⟨#[],by rw[e];simp⟩) (λm hm=>?_) (λb u e=>?_) I.bare
 ·obtain⟨o,es,ep,ho,r⟩:=hm
  exact⟨o,es,ep,k _ o (λz=>(hf _ z).2.1 rfl) ho,r⟩
 ·refine(I.hok b u e).stay (λc v hc q=>k c v ?_ q) (λ_ q=>q) λ_ _ q=>q
  rcases hc with z|z
  ·rw[z];exact aa b u e
  ·exact aa c _ z
def Inv.turnedT{t':Nat}{fp:List Addr}{T:Addr}{o:HO}(I:Inv X pins σ H s)(hf:∀b∈fp,UV X pins H b)(hT:s.heap.objs.size<=T)(k:∀b o,b∉fp->s.heap.get? b=some o->h'.get? b=some o)
  (ab:iZ X.prog X.w (upd H T o) h' T o):Inv X pins σ (upd H T o) {s with heap:=h',toks:=t'}:=by
 have aa:∀b u,H b=some u->b∉fp:=λb u e z=>by rw[(hf b z).1]at e;cases e
 have hn:H T=none:=I.hok.fresh hT
 refine I.step (g':=s.gens) (d':=s.drawn) (ch:=fp) (λb hb=>⟨(hf b hb).2.2.2.1,(hf b hb).2.1,(hf b hb).2.2.2.2.1,(hf b hb).2.2.2.2.2⟩) (λb o _ _ hc e _=>k b o hc e) (λb o _ _ hc e _=>⟨o.slots,k b o hc e⟩)
  (λb o _ e n=>by rw[fX (zK (zL (zu e) hT))];exact n)
  (λb o hc e=>⟨o,k b o hc e⟩) (λb xs e=>by rw[fX (gP e hn)];exact e) (λb o xs e=>by rw[fX (gP e hn)];exact e) (λb ps e=>⟨#[],by rw[fX (gP e hn),e];simp⟩) (λm hm=>?_) (λb u e=>?_) I.bare
 ·obtain⟨o,es,ep,ho,r⟩:=hm
  exact⟨o,es,ep,k _ o (λz=>(hf _ z).2.1 rfl) ho,r⟩
 ·by_cases hb:b=T
  ·subst hb;rw[fL]at e;cases e;exact ab
  ·rw[fX hb]at e
   refine(I.hok b u e).stay (λc v hc q=>k c v ?_ q) (λc q=>by rw[fX (gP q hn)];exact q) λc xs q=>by rw[fX (gP q hn)];exact q
   rcases hc with z|z
   ·rw[z];exact aa b u e
   ·exact aa c _ z
end
def mO{h:Heap}{a b:Addr}{oa q:Obj}{ca z:Value}(ha:h.get? a=some oa)(hb:h.get? b=some q)(ea:oa.cls=ca)(eb:q.cls=z)(hc:ca≠z):a≠b:=by
 intro e;subst e;rw[ha]at hb;cases hb;exact hc (ea.symm.trans eb)
noncomputable def Itz(K:Fg_)(a b:Addr):It:=
 ⟨λi H=>∃xs ys x y,SqL K H a xs/\SqL K H b ys/\xs[i]? =some x/\ys[i]? =some y,
   λi H v H'=>∃p x y,H p=none/\v=.ref p/\H'=upd H p (.tup [x,y])/\(∀xs,SqL K H a xs->xs[i]? =some x)/\∀ys,SqL K H b ys->ys[i]? =some y,
   λi H=>∃xs ys,SqL K H a xs/\SqL K H b ys/\(xs.length<=i\/ys.length<=i)⟩
def Fx{h:Heap}{z TI TO i1 i2 a b:Addr}{f0 u v:Value}{xs ys:Array Value}{j1 j2:Nat}(ab:TI≠TO)(ac:i1≠i2)(hz:IsZip h z TI TO f0)(aa:IsPair h TI (.ref i1) (.ref i2))(q:IsPair h TO u v)
  (h1:h.IsListIter i1 a j1) (h2:h.IsListIter i2 b j2) (p1:h.IsList a xs) (p2:h.IsList b ys):ZipApart z TI TO i1 i2 a b:=by
 obtain⟨o1,e1,c1,_⟩:=h1;obtain⟨o2,e2,c2,_⟩:=h2;obtain⟨l1,f1,d1,_⟩:=p1;obtain⟨l2,f2,d2,_⟩:=p2
 exact ⟨mO aa hz rfl rfl (by simp),mO q hz rfl rfl (by simp),mO e1 hz c1 rfl (by simp),mO e2 hz c2 rfl (by simp),ab,mO aa e1 rfl c1 (by simp),mO aa e2 rfl c2 (by simp),mO q e1 rfl c1 (by simp),mO q e2 rfl c2 (by simp),ac,
  mO f1 hz d1 rfl (by simp),mO f1 q d1 rfl (by simp),mO f1 e1 d1 c1 (by simp),mO f1 e2 d1 c2 (by simp),mO f2 hz d2 rfl (by simp),mO f2 q d2 rfl (by simp),mO f2 e1 d2 c1 (by simp),mO f2 e2 d2 c2 (by simp)⟩
def Yd{P:Program}{w:World}{K:Fg_}{elts:List Expr}{x1:Nat}{pos:Pos}(a b z TI TO i1 i2:Addr)(ag:TI≠TO)(ai:i1≠i2):
  Turn P w K (.Tuple elts x1 pos) (Itz K a b) [z,TI,TO,i1,i2] z (λi h=>IsZip h z TI TO .none/\IsPair h TI (.ref i1) (.ref i2)/\(∃u v,IsPair h TO u v)/\h.IsListIter i1 a i/\h.IsListIter i2 b i) where
 mem:=by simp
 obj:=λi h st c hb=>by
  obtain⟨hz,aa,⟨u,v,ab⟩,⟨o1,e1,c1,d1⟩,⟨o2,e2,c2,d2⟩⟩:=st;simp only[zh,zg,or_false]at hb;rcases hb with rfl|rfl|rfl|rfl|rfl
  ·exact⟨_,hz,λv z=>by cases z⟩
  ·exact⟨_,aa,λv z=>by cases z⟩
  ·exact⟨_,ab,λv z=>by cases z⟩
  ·exact⟨_,e1,λv z=>by rw[d1]at z;cases z⟩
  ·exact⟨_,e2,λv z=>by rw[d2]at z;cases z⟩
 keep:=λi h h' st k=>by
  obtain⟨hz,aa,⟨u,v,ab⟩,h1,h2⟩:=st;exact⟨k _ (by simp) _ hz,k _ (by simp) _ aa,⟨u,v,k _ (by simp) _ ab⟩,h1.at λo e=>k _ (by simp) o e,h2.at λo e=>k _ (by simp) o e⟩
 item:=by
  intro X hP hw hK hc i pins s σ H E I hf st hg;subst hP hw hK;obtain⟨xs,ys,x,y,ad,ac,hx,hy⟩:=hg;obtain⟨aj,ae,p1,_⟩:=I.list ad;obtain⟨al,af,p2,_⟩:=I.list ac;obtain⟨u1,an,ao⟩:=ae.get hx;obtain⟨u2,ap,am⟩:=af.get hy;obtain⟨hz,aa,⟨ua,ub,ab⟩,h1,h2⟩:=st;have D:=Fx ag ai hz aa ab h1 h2 p1.isList p2.isList;refine wpAny_pyNext_zip_item D hz aa ab h1 h2 p1.isList p2.isList (x:=u1) (y:=u2) (by simpa using an) (by simpa using ap) λh' a1 a2 a3 a4 a5 a6 a7=>?_;refine⟨_,rfl,wpAny_letOwnedTupleGo_zip (s:={s with heap:=h'}) a1 λah b1 b2=>?_⟩;have nz:s.heap.objs.size≠z:=zzY (zu hz)
  have k:∀c o,c∉[z,TI,TO,i1,i2]->s.heap.get? c=some o->ah.get? c=some o:=λc o hc e=>by
   simp only[zh,zg,or_false,not_or]at hc;exact(b2.2 c hc.1).trans (a7 c o hc.1 hc.2.2.1 hc.2.2.2.1 hc.2.2.2.2 e)
  have ak:ah.get? s.heap.objs.size=some {cls:=.type "tuple",data:=.seq #[u1,u2]}:=(b2.2 _ nz).trans a5
  refine ⟨.ref s.heap.objs.size,upd H s.heap.objs.size (.tup [x,y]),I.turnedT (t':=s.toks) hf (ze _) k ⟨by rw[zc];simp,[u1,u2],.cons ao (.cons am .nil),_,ak,rfl,_,rfl⟩,rfl,
   ⟨_,x,y,I.hok.fresh (ze _),rfl,rfl,λar q=>by rw[I.list_inj q ad];exact hx,λaq q=>by rw[I.list_inj q ac];exact hy⟩,?_,λc hb=>?_⟩
  ·exact⟨b1,(b2.2 _ D.TIz).trans (a7 _ _ D.TIz D.TITO D.TIi1 D.TIi2 aa),⟨_,_,(b2.2 _ D.TOz).trans a2⟩,a3.at λo e=>(b2.2 _ D.i1z).trans e,a4.at λo e=>(b2.2 _ D.i2z).trans e⟩
  ·obtain ⟨o,e⟩:∃o,s.heap.get? c=some o:=by
    simp only[zh,zg,or_false]at hb;rcases hb with rfl|rfl|rfl|rfl|rfl
    ·exact⟨_,hz⟩
    ·exact⟨_,aa⟩
    ·exact⟨_,ab⟩
    ·obtain⟨o,e,_⟩:=h1;exact⟨o,e⟩
    ·obtain⟨o,e,_⟩:=h2;exact⟨o,e⟩
   rw[fX (zK (zu e))];exact(hf c hb).1
 done:=by
  intro X hP hw hK hc i pins s σ H E I hf st hg;subst hP hw hK;obtain⟨xs,ys,ad,ac,hx⟩:=hg;obtain⟨aj,ae,p1,_⟩:=I.list ad;obtain⟨al,af,p2,_⟩:=I.list ac;obtain⟨hz,aa,⟨ua,ub,ab⟩,h1,h2⟩:=st;have D:=Fx ag ai hz aa ab h1 h2 p1.isList p2.isList;have l1:=ae.length;have l2:=af.length;refine wpAny_pyNext_zip_end (I.ok.hd hc) D hz aa ab h1 h2 p1.isList p2.isList (hx.elim (λh=> .inl (by simp;lia)) λh=> .inr (by simp;lia)) λh' k=>⟨rfl,I.turnedN (t':=s.toks) hf λc o hc e=>?_⟩;simp only[zh,zg,or_false,not_or]at hc;exact k c o hc.1 hc.2.2.1 hc.2.2.2.1 hc.2.2.2.2 e
 self:=λ_ _ _ _ _ st h=>wpAny_pyIter_zip st.1 h
noncomputable def Ite(K:Fg_)(a:Addr):It:=
 ⟨λi H=>∃xs x,SqL K H a xs/\xs[i]? =some x,
   λi H v H'=>∃p x,H p=none/\v=.ref p/\H'=upd H p (.tup [.int i,x])/\∀xs,SqL K H a xs->xs[i]? =some x,
   λi H=>∃xs,SqL K H a xs/\xs.length<=i⟩
def Ur{P:Program}{w:World}{K:Fg_}{elts:List Expr}{x1:Nat}{pos:Pos}(a e it:Addr)(ad:e≠it):
  Turn P w K (.Tuple elts x1 pos) (Ite K a) [e,it] e (λi h=>(∃aa,IsEnum h e it i aa)/\h.IsListIter it a i) where
 mem:=by simp
 obj:=λi h st c hb=>by
  obtain⟨⟨aa,he⟩,⟨o1,e1,c1,d1⟩⟩:=st;simp only[zh,zg,or_false]at hb;rcases hb with rfl|rfl
  ·exact⟨_,he,λv z=>by cases z⟩
  ·exact⟨_,e1,λv z=>by rw[d1]at z;cases z⟩
 keep:=λi h h' st k=>by
  obtain⟨⟨aa,he⟩,h1⟩:=st;exact⟨⟨aa,k _ (by simp) _ he⟩,h1.at λo e=>k _ (by simp) o e⟩
 item:=by
  intro X hP hw hK hc i pins s σ H E I hf st hg;subst hP hw hK;obtain⟨xs,x,ab,hx⟩:=hg;obtain⟨af,ac,p1,_⟩:=I.list ab;obtain⟨u1,ah,ai⟩:=ac.get hx;obtain⟨⟨aa,he⟩,h1⟩:=st;refine wpAny_pyNext_enum_item he h1 p1.isList (x:=u1) (by simpa using ah) ad λh' a1 a2 a3 a4 a5=>?_;refine⟨_,rfl,zz9 (s:={s with heap:=h',toks:=s.toks+1}) a1 λae b1 b2=>?_⟩;have ne:s.heap.objs.size≠e:=zzY (zu he)
  have k:∀c o,c∉[e,it]->s.heap.get? c=some o->ae.get? c=some o:=λc o hc q=>by
   simp only[zh,zg,or_false,not_or]at hc;exact(b2.2 c hc.1).trans (a5 c o hc.1 hc.2 q)
  have ag:ae.get? s.heap.objs.size=some {cls:=.type "tuple",data:=.seq #[.int i s.toks,u1]}:=(b2.2 _ ne).trans a3
  refine ⟨.ref s.heap.objs.size,upd H s.heap.objs.size (.tup [.int i,x]),I.turnedT (t':=s.toks+1) hf (ze _) k ⟨by rw[zc];simp,[.int i s.toks,u1],.cons ⟨_,rfl⟩ (.cons ai .nil),_,ag,rfl,_,rfl⟩,rfl,
   ⟨_,x,I.hok.fresh (ze _),rfl,rfl,λaj q=>by rw[I.list_inj q ab];exact hx⟩,⟨⟨u1,by simpa using b1⟩,a2.at λo q=>(b2.2 _ (Ne.symm ad)).trans q⟩,λc hb=>?_⟩
  obtain ⟨o,q⟩:∃o,s.heap.get? c=some o:=by
   simp only[zh,zg,or_false]at hb;rcases hb with rfl|rfl
   ·exact⟨_,he⟩
   ·obtain⟨o,q,_⟩:=h1;exact⟨o,q⟩
  rw[fX (zK (zu q))];exact(hf c hb).1
 done:=by
  intro X hP hw hK hc i pins s σ H E I hf st hg;subst hP hw hK;obtain⟨xs,ab,hx⟩:=hg;obtain⟨af,ac,p1,_⟩:=I.list ab;obtain⟨⟨aa,he⟩,h1⟩:=st;have l1:=ac.length;refine wpAny_pyNext_enum_end (I.ok.hd hc) he h1 p1.isList (by simp;lia) λh' k=>⟨rfl,I.turnedN (t':=s.toks) hf λc o hc q=>?_⟩;simp only[zh,zg,or_false,not_or]at hc;exact k c o hc.2 q
 self:=λ_ _ _ _ _ st h=>by
  obtain⟨⟨aa,he⟩,_⟩:=st;exact zzF he h
section
variable{X:Cx}{K:Fg_}{ta:TA}{elts:List Expr}{x1:Nat}{tpos:Pos}
noncomputable def adO(K:Fg_)(ta:TA):TI:=λσ H R=>ta σ H λvs H1=>∃a b,vs=[.ref a,.ref b]/\(∃xs,SqL K H1 a xs)/\(∃ys,SqL K H1 b ys)/\R (Itz K a b) H1
noncomputable def acq(K:Fg_)(ta:TA):TI:=λσ H R=>ta σ H λvs H1=>∃a,vs=[.ref a]/\(∃xs,SqL K H1 a xs)/\R (Ite K a) H1
def abg{a b:Expr}{p pos:Pos}(hg:Gl X "zip") (hm:X.mg "zip" =none) (ha:PA X [a,b] ta) (hs:starEach [a,b] X.env=[(false,eval a X.env),(false,eval b X.env)]:=by rfl) (hs2:starEach [b] X.env=[(false,eval b X.env)]:=by rfl) (hK:X.K=K:=by rfl):
  PI X (.Tuple elts x1 tpos) (.Call (.Name "zip" p) [a,b] [] pos) (adO K ta):=by
 subst hK;intro pins s σ H R I h;refine Call_ (Et I hg hm (by decide+kernel) (PyProof.Rows.callWith_type1 (T:= "zip") (thn (ha pos pins s σ H _ I h) λus z ⟨vs,H1,I1,r1,q1⟩=>?_) (by rw[hs,hs2]) (by rw[hs2];rfl)));obtain⟨l1,l2,e,⟨xs,hx⟩,⟨ys,hy⟩,q⟩:=q1;subst e;obtain⟨u,v,rfl,ru,rv⟩:=vals2 r1;cases ru;cases rv;obtain⟨ab,_,p1,_⟩:=I1.list hx;obtain⟨ac,_,p2,_⟩:=I1.list hy;refine call_zip_2 p1.isList p2.isList λh' g1 g2 g3 g4 g5 g6 k=>?_;have I2:Inv X pins σ H1 {z with heap:=h'}:=I1.kept (t':=z.toks) k;refine wpAny_pyIter_zip (s:={z with heap:=h'}) g1 ⟨_,[z.heap.objs.size+4,z.heap.objs.size+2,z.heap.objs.size+3,z.heap.objs.size,z.heap.objs.size+1],_,_,H1,rfl,I2,Yd l1 l2 _ _ _ _ _ (show((z.heap.objs.size:Nat)+2≠z.heap.objs.size+3) by lia) (show((z.heap.objs.size:Nat)≠z.heap.objs.size+1) by lia),⟨g1,g2,⟨_,_,g3⟩,g4,g5⟩,λc hc=>?_,q⟩
 have hc':z.heap.objs.size<=c:=by
  simp only[zh,zg,or_false]at hc
  have aa:∃k:Nat,c=z.heap.objs.size+k:=by
   rcases hc with rfl|rfl|rfl|rfl|rfl
   ·exact⟨4,rfl⟩
   ·exact⟨2,rfl⟩
   ·exact⟨3,rfl⟩
   ·exact⟨0,rfl⟩
   ·exact⟨1,rfl⟩
  obtain⟨k,rfl⟩:=aa;exact yyg _ k
 exact I1.fpOk hc' (I1.hok.fresh hc')
def Zz{a:Expr}{p pos:Pos}(hg:Gl X "enumerate") (hm:X.mg "enumerate" =none) (ha:PA X [a] ta) (hs:starEach [a] X.env=[(false,eval a X.env)]:=by rfl) (hK:X.K=K:=by rfl):
  PI X (.Tuple elts x1 tpos) (.Call (.Name "enumerate" p) [a] [] pos) (acq K ta):=by
 subst hK;intro pins s σ H R I h;refine Call_ (Et I hg hm (by decide+kernel) (PyProof.Rows.callWith_type1 (T:= "enumerate") (thn (ha pos pins s σ H _ I h) λus z ⟨vs,H1,I1,r1,q1⟩=>?_) (by rw[hs];rfl) rfl));obtain⟨l1,e,⟨xs,hx⟩,q⟩:=q1;subst e;obtain⟨u,rfl,ru⟩:=vals1 r1;cases ru;obtain⟨ab,_,p1,_⟩:=I1.list hx;refine call_enumerate_list p1.isList λh' g1 g2 g3 k=>?_;have I2:Inv X pins σ H1 {z with heap:=h'}:=I1.kept (t':=z.toks) k;refine zzF (s:={z with heap:=h'}) g1 ⟨_,[z.heap.objs.size+1,z.heap.objs.size],_,_,H1,rfl,I2,Ur l1 _ _ (show((z.heap.objs.size:Nat)+1≠z.heap.objs.size) by lia),⟨⟨_,g1⟩,g2⟩,λc hc=>?_,q⟩
 have hc':z.heap.objs.size<=c:=by
  simp only[zh,zg,or_false]at hc
  have aa:∃k:Nat,c=z.heap.objs.size+k:=by
   rcases hc with rfl|rfl
   ·exact⟨1,rfl⟩
   ·exact⟨0,rfl⟩
  obtain⟨k,rfl⟩:=aa;exact yyg _ k
 exact I1.fpOk hc' (I1.hok.fresh hc')
variable{σ:St}{H:Hp}{R:It->Hp->Prop}{g:TG}{tb:TS}{D:Ends}{a b:Addr}{xs ys:List V}
def ap_iZip:adO K ta σ H R=ta σ H λvs H1=>∃a b,vs=[.ref a,.ref b]/\(∃xs,SqL K H1 a xs)/\(∃ys,SqL K H1 b ys)/\R (Itz K a b) H1:=rfl
def ap_iEnum:acq K ta σ H R=ta σ H λvs H1=>∃a,vs=[.ref a]/\(∃xs,SqL K H1 a xs)/\R (Ite K a) H1:=rfl
def Dr.zip(q:Nat->St->Hp->Prop)(aa:xs.length=ys.length)(h0:q 0 σ H)(hl:∀i σ H,i<=xs.length->q i σ H->SqL K H a xs/\SqL K H b ys)
  (hs:∀i x y σ H p,xs[i]? =some x->ys[i]? =some y->q i σ H->H p=none->g (.ref p) σ (upd H p (.tup [x,y])) λσ2 H2=>tb {D with nx:=q (i+1),ct:=q (i+1),bk:=D.nx} σ2 H2) (hd:∀σ H,q xs.length σ H->D.nx σ H):Dr (Itz K a b) g tb D σ H:=by
 refine⟨λi m σ H=>m=xs.length - i/\i<=xs.length/\q i σ H,⟨xs.length,by simp,zQ _,h0⟩,?_⟩;rintro i m σ H ⟨rfl,hi,p⟩;obtain⟨q1,q2⟩:=hl i σ H hi p;by_cases z:i<xs.length
 ·refine .inr ⟨⟨xs,ys,xs[i],ys[i],q1,q2,by simp[z],by simp[aa▸z]⟩,q (i+1),λσ' H' p'=>⟨xs.length - (i+1),by lia,rfl,z,p'⟩,λv H' y=>?_⟩
  obtain⟨pp,x,y,hp,rfl,rfl,e1,e2⟩:=y;exact hs i x y σ _ pp (e1 xs q1) (e2 ys q2) p hp
 ·have e:i=xs.length:=by lia
  subst e;exact .inl ⟨⟨xs,ys,q1,q2,.inl (ze _)⟩,hd σ H p⟩
def Dr.enum(q:Nat->St->Hp->Prop)(h0:q 0 σ H)(hl:∀i σ H,i<=xs.length->q i σ H->SqL K H a xs)
  (hs:∀i x σ H p,xs[i]? =some x->q i σ H->H p=none->g (.ref p) σ (upd H p (.tup [.int i,x])) λσ2 H2=>tb {D with nx:=q (i+1),ct:=q (i+1),bk:=D.nx} σ2 H2) (hd:∀σ H,q xs.length σ H->D.nx σ H):Dr (Ite K a) g tb D σ H:=by
 refine⟨λi m σ H=>m=xs.length - i/\i<=xs.length/\q i σ H,⟨xs.length,by simp,zQ _,h0⟩,?_⟩;rintro i m σ H ⟨rfl,hi,p⟩;have q1:=hl i σ H hi p;by_cases z:i<xs.length
 ·refine .inr ⟨⟨xs,xs[i],q1,by simp[z]⟩,q (i+1),λσ' H' p'=>⟨xs.length - (i+1),by lia,rfl,z,p'⟩,λv H' y=>?_⟩
  obtain⟨pp,x,hp,rfl,rfl,e1⟩:=y;exact hs i x σ _ pp (e1 xs q1) p hp
 ·have e:i=xs.length:=by lia
  subst e;exact .inl ⟨⟨xs,q1,ze _⟩,hd σ H p⟩
end
end L2
namespace L2
open PySem PySem.Spec PyProof.Rows
noncomputable def C0(o:Obj):Prop:=∀vs,o.data=.fields vs->vs[2]? =some .none
noncomputable def DK(h h':Heap):Prop:=∀b o,h.get? b=some o->∃o',h'.get? b=some o'/\o'.dict=o.dict/\(C0 o->C0 o')
def DK.refl{h:Heap}:DK h h:=λb o e=>⟨o,e,rfl,λz=>z⟩
theorem DK.trans{h h1 h2:Heap}(a:DK h h1)(b:DK h1 h2):DK h h2:=λc o e=>by
 obtain⟨o1,e1,d1,c1⟩:=a c o e;obtain⟨o2,q,d2,c2⟩:=b c o1 e1;exact⟨o2,q,d2.trans d1,λz=>c2 (c1 z)⟩
structure KD{α:Type}(t:Sem α):Prop where
 out:∀(M:Model)(Γ:PySem.Ctx)(P:α->Pos->Shared->Prop)(E:Value->Pos->Shared->Prop)(p:Pos)(s:Shared),Sem.wp M Γ t P E p s->Sem.wp M Γ t (λa p' s'=>P a p' s'/\DK s.heap s'.heap) E p s
theorem KD.bind{α β:Type}{m:Sem α}{f:α->Sem β}(h:KD m)(k:∀a,KD (f a)):KD (m>>=f):=⟨λM Γ P E p s hw=>by
 have hw:Sem.wp M Γ (m.bind f) P E p s:=hw;show Sem.wp M Γ (m.bind f) _ E p s;rw[Sem.wp_bind]at hw⊢;refine Sem.wp_mono M Γ m (λa p1 q h1=>?_) (λ_ _ _ z=>z) p s (h.out M Γ _ E p s hw);exact Sem.wp_mono M Γ (f a) (λb p2 s2 h2=>⟨h2.1,h1.2.trans h2.2⟩) (λ_ _ _ z=>z) p1 q ((k a).out M Γ P E p1 q h1.1)⟩
theorem KD.pure{α:Type}(a:α):KD (Pure.pure a:Sem α):=⟨λM Γ P E p s h=>⟨h,DK.refl⟩⟩
def KD.uns{α:Type}(w:String):KD (unsupported w:Sem α):=⟨λM Γ P E p s h=>h⟩
theorem KD.load(a:Addr):KD (load a):=⟨λM Γ P E p s ⟨o,e,h⟩=>⟨o,e,h,DK.refl⟩⟩
theorem KD.stack:KD PySem.stack:=⟨λM Γ P E p s h=>⟨h,DK.refl⟩⟩
theorem KD.alloc(o:Obj):KD (alloc o):=⟨λM Γ P E p s h=>⟨h,λb o' e=>⟨o',zd o e,rfl,λz=>z⟩⟩⟩
def abO{h:Heap}{a:Addr}{o:Obj}(e:h.get? a=some o):o.isFreed=false:=by
 unfold Heap.get? at e;split at e
 ·cases e
 ·rename_i hn
  obtain⟨c,dd,q,z⟩:=o;cases q<;>first|rfl|exact(hn _ _ _ e).elim
theorem KD.update(a:Addr)(f:Obj->Obj)(hf:∀o,o.isFreed=false->(f o).isFreed=false/\(f o).dict=o.dict/\(C0 o->C0 (f o))):KD (update a f):=⟨λM Γ P E p s ⟨e,h⟩=>⟨e,h,λb o q=>by
 by_cases hb:b=a
 ·subst hb
  obtain⟨f1,f2⟩:=hf o (abO q);exact⟨f o,yg f q f1,f2⟩
 ·exact⟨o,y8 f (Ne.symm hb) q,rfl,λz=>z⟩⟩⟩
def kZ{α:Type}{M:Model}{A:Around}{t:Sem α}{Q:α->Shared->Prop}{E:Value->Shared->Prop}{s:Shared}(k:KD t)(h:wpAny M A t Q E s):wpAny M A t (λa s'=>Q a s'/\DK s.heap s'.heap) E s:=λΓ p q=>k.out M Γ _ _ p s (h Γ p q)
theorem KD.fieldsOf(v:Value):KD (fieldsOf v):=by
 unfold PySem.fieldsOf;split
 ·refine(KD.load _).bind λo=>?_
  split
  ·exact .pure _
  ·exact .uns _
 ·exact .uns _
theorem KD.field(v:Value)(i:Nat):KD (field v i):=by
 unfold PySem.field;refine(KD.fieldsOf v).bind λo=>?_;split
 ·exact .pure _
 ·exact .uns _
theorem KD.updateField(a:Addr)(i:Nat)(v:Value)(hi:i≠2):KD (updateField a i v):=by
 unfold PySem.updateField;refine(KD.load _).bind λo=>?_;split
 ·split
  ·refine KD.update _ _ λo h=>?_
   unfold Obj.mapFields;split
   ·exact ⟨rfl,rfl,λz ws hw=>by
     cases hw;rw[Array.getElem?_setIfInBounds_ne hi];exact z _ rfl⟩
   ·exact⟨h,rfl,λz=>z⟩
  ·exact .uns _
 ·exact .uns _
theorem KD.setField(v:Value)(i:Nat)(x:Value)(hi:i≠2:=by decide):KD (setField v i x):=by
 unfold PySem.setField;split
 ·exact KD.updateField _ _ _ hi
 ·exact .uns _
theorem KD.setFlight(e:Value)(f:Option Addr):KD (setFlight e f):=by
 unfold PySem.setFlight;refine(KD.field _ _).bind λtb=>?_;split
 ·exact KD.setField _ _ _
 ·exact .pure _
theorem KD.readyFrames:∀l,KD (readyFrames l)
 |[]=>by rw[readyFrames.eq_1];exact .pure _
 |env::l=>by
  rw[readyFrames.eq_2];split
  ·refine(KD.load _).bind λo=>?_
   split
   ·exact .pure _
   ·refine KD.bind ?_ λim=>KD.bind ?_ λbk=>KD.bind (KD.update _ _ λo h=>⟨by obtain⟨c,dd,q,sl⟩:=o;cases q<;>first|rfl|exact h,rfl,λz=>z⟩) λ_=>KD.readyFrames l
    ·unfold behindIsImport
     split
     ·exact .pure _
     ·split
      ·exact .pure _
      ·exact(KD.field _ _).bind λ_=> .pure _
    ·unfold keptBack
     split
     ·split
      ·exact .pure _
      ·refine KD.bind ?_ λ_=> .pure _
       unfold underTheClaimsCaller;exact KD.stack.bind λ_=> .pure _
     ·exact .pure _
  ·exact .uns _
theorem KD.frameOf(env:Env):KD (frameOf env):=by
 unfold PySem.frameOf;refine KD.bind ?_ λl=>KD.bind ?_ λf=>?_
 ·unfold frameEnvs
  exact KD.stack.bind λ_=> .pure _
 ·unfold frameObject
  split
  ·exact .pure _
  ·exact(KD.readyFrames _).bind λ_=> .pure _
 ·split
  ·exact .pure _
  ·exact .uns _
theorem KD.entryPlaceOf(f:Addr)(b:Bool):KD (entryPlaceOf f b):=by
 unfold PySem.entryPlaceOf;refine KD.stack.bind λq=>?_;split<;>exact .pure _
def KD.newRec(ty:String)(vs:Array Value):KD (newObj (.type ty) (.fields vs)):=by
 have h:KD (newObjAsIs (.type ty) (.fields vs)):=(KD.alloc _).bind λ_=> .pure _;unfold newObj;dsimp only;split
 ·exact KD.bind (.uns _) λ_=>h
 ·exact h
theorem KD.newEntry(a b c d e:Value)(l:List Value):KD (EntryCells.newEntry a b c d e l):=by
 unfold EntryCells.newEntry newFields;exact KD.newRec _ _
theorem KD.noteFrame(e:Value)(env:Env):KD (noteFrame e env):=by
 unfold PySem.noteFrame;split
 ·refine(KD.field _ _).bind λq=>?_
  have z:∀f,KD (do
   let a<-PySem.frameOf env
   let pl<-PySem.entryPlaceOf f (q !=Value.none)
   let b<-EntryCells.newEntry q a Value.none (rawInt f) Value.none pl
   PySem.setField e 1 b):=λf=>(KD.frameOf env).bind λ_=>(KD.entryPlaceOf _ _).bind λ_=>(KD.newEntry _ _ _ _ _ _).bind λ_=>KD.setField _ _ _
  dsimp only;split
  ·refine(KD.field _ _).bind λx=>?_
   split
   ·exact .pure _
   ·exact(KD.setField _ _ _).bind λ_=>z _
  ·exact z _
 ·exact .uns _
theorem KD.leaving(env:Env)(e:Value):KD (leaving env e):=by
 unfold PySem.leaving;exact(KD.noteFrame _ _).bind λ_=>KD.setFlight _ _
noncomputable def Bf(h:Heap)(e:Addr)(dd:Option Addr):Prop:=∃o,h.get? e=some o/\o.dict=dd/\(dd=none->C0 o)
def Bf.dk{h h':Heap}{e:Addr}{dd:Option Addr}(x:Bf h e dd)(k:DK h h'):Bf h' e dd:=by
 obtain⟨o,e1,q,c1⟩:=x;obtain⟨o',e3,e4,c2⟩:=k e o e1;exact⟨o',e3,e4.trans q,λz=>c2 (c1 z)⟩
end L2
namespace L2
open PySem PySem.Spec PyProof.Rows
def iZ.there{P:Program}{w:World}{H:Hp}{h:Heap}{a:Addr}{o:HO}(x:iZ P w H h a o):∃u,h.get? a=some u:=by
 induction o with
 |lst xs=>obtain⟨z,its,n,r,e⟩:=x;exact⟨_,e⟩
 |tup xs=>obtain⟨z,its,r,ob,e,c⟩:=x;exact⟨_,e⟩
 |dK kvs=>obtain⟨z,y,vs,r,ob,es,ep,e,c⟩:=x;exact⟨_,e⟩
 |dT kvs=>obtain⟨z,y,xs,r,ob,es,ep,e,c⟩:=x;exact⟨_,e⟩
 |set S n=>obtain⟨ob,es,ep,t,e,c⟩:=x;exact⟨_,e⟩
 |ins C dx fs=>obtain⟨d,z,ne,e,mA,_⟩:=x;exact⟨_,e⟩
 |own y=>exact x
 |xd fs=>obtain⟨mA,⟨od,es,ep,e,c⟩,r⟩:=x;exact⟨_,e⟩
 |rng lo hi=>obtain⟨t,u,v,e⟩:=x;exact⟨_,e⟩
 |frz ob u ih=>obtain⟨e,q⟩:=x;exact⟨_,e⟩
 |tbl ps=>exact⟨_,(show h.get? a=some _ from x)⟩
 |met f y=>exact⟨_,(show h.get? a=some _ from x)⟩
 |ext φ=>obtain⟨p,e,st⟩:=x;exact e
def Inv.untracked{X:Cx}{pins:List (Addr×Obj)}{σ:St}{H:Hp}{s:Shared}{a:Addr}(I:Inv X pins σ H s)(e:s.heap.get? a=none):H a=none:=by
 cases q:H a with
 |none=>rfl
 |some o=>
  obtain⟨u,z⟩:=(I.hok a o q).there;rw[e]at z;cases z
noncomputable def CX1(P:Program)(w:World):CXT:=λouter H s E e s'=>∃(ea C:Addr)(a0:Value)(H':Hp)(B:Heap)(dd:Option Addr),e=.ref ea/\s'.os=s.os/\AllBare s'.gens/\Un (frs outer) [] H H' s.heap s'.heap/\HOk P w H' B/\
 Heap.FlyingW B outer ea (.ref C) a0 s'.heap/\(∀b o,s.heap.get? b=some o->H b=none->b∉frs outer->B.get? b=some o)/\(∀b o,s.heap.get? b=some o->b∉frs outer->∃o',B.get? b=some o')/\H' ea=none/\Bf s'.heap ea dd/\E (.ref C) dd H'
section
variable{P:Program}{w:World}{K:Fg_}{mg:Str->Option Value}{base:Heap}{N:List Str}{qual:Str}{scope:Scope}{f:Addr}{cd:Value}{A:Around}{outer:List Env}{s₀:Shared}{H₀:Hp}{E:XK}
noncomputable def Raises(X:Cx)(E:XK):Prop:=∀(pins:List (Addr×Obj))(σ:St)(H:Hp)(s:Shared)(e C:Addr)(args:List Value)(h':Heap),Inv X pins σ H s->Heap.MadeExcOf s.heap h' e (.ref C) args->E (.ref C) none H->X.xe (.ref e) {s with heap:=h'}
def HB{pins:List (Addr×Obj)}{σ:St}{H:Hp}{s:Shared}{e C:Addr}{oe:Obj}{vs:Array Value}{a0:Value}{h2:Heap}(I:Inv (pJ (CX1 P w) P w K mg base N qual scope f cd A outer s₀ H₀ E) pins σ H s)(he:s.heap.get? e=some oe)(ac:oe.cls=.ref C)(aj:oe.data=.fields vs)(h1:vs[1]? =some .none)(h0:vs[0]? =some a0)
  (hH:H e=none) (ad:s₀.heap.get? e=none) (hE:E (.ref C) oe.dict H) (af:oe.dict=none->C0 oe) (z:Heap.LeftW (PySem.W.hideAll s.heap (e::frs (envOfC qual scope s₀.heap.objs.size f cd::outer))) (envOfC qual scope s₀.heap.objs.size f cd::outer) e oe.cls a0 s.heap h2) (dk:DK s.heap h2):CX1 P w outer H₀ s₀ E (.ref e) {s with heap:=h2}:=by
 have ai:(pJ (CX1 P w) P w K mg base N qual scope f cd A outer s₀ H₀ E).stack=envOfC qual scope s₀.heap.objs.size f cd::outer:=rfl;have fr:=I.ok.frames
 have ab:∀b o,s₀.heap.get? b=some o->b∉frs outer->b∉frs (envOfC qual scope s₀.heap.objs.size f cd::outer):=λb o q n hb=>by
  rcases zh.mp (I.stkSub b hb)with z|z
  ·exact absurd (zu q) (by rw[z];exact yh _)
  ·exact n z
 have ah:∀env∈(envOfC qual scope s₀.heap.objs.size f cd::outer),∀b,env.frame=some b->b∈e::frs (envOfC qual scope s₀.heap.objs.size f cd::outer):=λenv he b hb=>zr _ (yc.mpr ⟨env,he,hb⟩);have stk:s.heap.FunFrames (PySem.W.hideAll s.heap (e::frs (envOfC qual scope s₀.heap.objs.size f cd::outer))) (envOfC qual scope s₀.heap.objs.size f cd::outer):=zzC I.stack ah;have hB:∀b o,s.heap.get? b=some o->b≠e->b∉frs (envOfC qual scope s₀.heap.objs.size f cd::outer)->(PySem.W.hideAll s.heap (e::frs (envOfC qual scope s₀.heap.objs.size f cd::outer))).get? b=some o:=λb o q ne n=>PySem.W.hideAll_get _ q λz=>(zh.mp z).elim ne n;have ae:(PySem.W.hideAll s.heap (e::frs (envOfC qual scope s₀.heap.objs.size f cd::outer))).get? e=none:=zzj _ zi;obtain⟨st,ff,tr,ag⟩:=z;rw[ac]at tr;have aa:∀b o,s₀.heap.get? b=some o->b≠e:=λb o q z=>by rw[z,ad]at q;cases q
 have k1:∀b o,s₀.heap.get? b=some o->H₀ b=none->b∉frs outer->(PySem.W.hideAll s.heap (e::frs (envOfC qual scope s₀.heap.objs.size f cd::outer))).get? b=some o:=λb o q n hb=>hB b o (I.base.keep b o q n hb (by simp[pJ])) (aa b o q) (ab b o q hb)
 have k2:∀b o,s₀.heap.get? b=some o->b∉frs outer->∃o',(PySem.W.hideAll s.heap (e::frs (envOfC qual scope s₀.heap.objs.size f cd::outer))).get? b=some o':=λb o q hb=>by
  obtain⟨o',q'⟩:=I.base.there b o q (by simp[pJ]);exact⟨o',hB b o' q' (aa b o q) (ab b o q hb)⟩
 have k3:∀b o,s₀.heap.get? b=some o->b∈frs outer->∃o1,s.heap.get? b=some o1/\(H₀ b=none->∃sl,o1={o with slots:=sl})/\∃sl,h2.get? b=some {o1 with slots:=sl}:=λb o q hb=>by
  obtain⟨o1,q1⟩:=I.base.there b o q (by simp[pJ])
  have hm:b∈frs (envOfC qual scope s₀.heap.objs.size f cd::outer):=by
   obtain⟨env,he,hf⟩:=yc.mp hb;exact yc.mpr ⟨env,zr _ he,hf⟩
  obtain⟨_,o2,q2,nd⟩:=stk.mem hm;rw[q1]at q2;cases q2;refine⟨o1,q1,λn=>?_,ag b o1 q1 nd⟩;obtain⟨sl,q3⟩:=I.base.slot b o q n hb (by simp[pJ]);rw[q1]at q3;exact⟨sl,zt q3⟩
 have fo:h2.FunFrames (PySem.W.hideAll s.heap (e::frs (envOfC qual scope s₀.heap.objs.size f cd::outer))) outer:=ff.2.2;refine⟨e,C,a0,H,_,oe.dict,rfl,I.os,I.bare,⟨λb o q n hb _=>st b o (k1 b o q n hb),λb o q n hb _=>?_,λb o q n _=>I.base.free b o q n (by simp[pJ]),λb o q _=>?_,I.base.tups,I.base.frzs,I.base.tbls⟩,λa o q=>?_,⟨st,ae,fo,tr⟩,k1,k2,hH,Bf.dk ⟨oe,he,rfl,af⟩ dk,hE⟩
 ·obtain⟨o1,_,e1,sl,e2⟩:=k3 b o q hb
  obtain⟨ak,rfl⟩:=e1 n;exact⟨sl,e2⟩
 ·by_cases hb:b∈frs outer
  ·obtain⟨o1,_,_,sl,e2⟩:=k3 b o q hb
   exact⟨_,e2⟩
  ·obtain⟨o',q'⟩:=k2 b o q hb
   exact⟨o',st b o' q'⟩
 ·have nf:∀b u,H b=some u->b∉frs (envOfC qual scope s₀.heap.objs.size f cd::outer):=λb u z hb=>by
   have:=I.stkFree b hb;rw[this]at z;cases z
  have nn:∀b u,H b=some u->b≠e:=λb u z hb=>by rw[hb,hH]at z;cases z
  refine(I.hok a o q).stay (λb u hb z=>?_) (λ_ z=>z) λ_ _ z=>z;rcases hb with z1|z1
  ·subst z1;exact hB b u z (nn b o q) (nf b o q)
  ·exact hB b u z (nn b _ z1) (nf b _ z1)
def Ik{pins:List (Addr×Obj)}{σ:St}{H:Hp}{s:Shared}{e C:Addr}{oe:Obj}{vs:Array Value}{a0:Value}(I:Inv (pJ (CX1 P w) P w K mg base N qual scope f cd A outer s₀ H₀ E) pins σ H s)(he:s.heap.get? e=some oe)(ad:oe.cls=.ref C)(aa:oe.data=.fields vs)(h1:vs[1]? =some .none)(h0:vs[0]? =some a0)
  (hH:H e=none) (ac:s₀.heap.get? e=none) (hE:E (.ref C) oe.dict H) (ae:oe.dict=none->C0 oe):(pJ (CX1 P w) P w K mg base N qual scope f cd A outer s₀ H₀ E).xe (.ref e) s:=by
 have fr:=I.ok.frames;have ab:∀env∈(envOfC qual scope s₀.heap.objs.size f cd::outer),∀b,env.frame=some b->b∈e::frs (envOfC qual scope s₀.heap.objs.size f cd::outer):=λenv he b hb=>zr _ (yc.mpr ⟨env,he,hb⟩);have stk:s.heap.FunFrames (PySem.W.hideAll s.heap (e::frs (envOfC qual scope s₀.heap.objs.size f cd::outer))) (envOfC qual scope s₀.heap.objs.size f cd::outer):=zzC I.stack ab;have af:(PySem.W.hideAll s.heap (e::frs (envOfC qual scope s₀.heap.objs.size f cd::outer))).get? e=none:=zzj _ zi;refine zR (kZ (KD.leaving _ _) (wpAny_leaving_firstW (base:=PySem.W.hideAll s.heap (e::frs (envOfC qual scope s₀.heap.objs.size f cd::outer))) (Q:=λ_ s2=>∃h2,s2={s with heap:=h2}/\Heap.LeftW (PySem.W.hideAll s.heap (e::frs (envOfC qual scope s₀.heap.objs.size f cd::outer))) (envOfC qual scope s₀.heap.objs.size f cd::outer) e oe.cls a0 s.heap h2) fr stk rfl he (λb o q=>zz1 _ q) af aa h1 h0 λh2 lw=>⟨h2,rfl,lw⟩)) (λ_ s2 z=>?_) (λ_ _ z=>z);obtain⟨⟨h2,rfl,lw⟩,dk⟩:=z;exact HB I he ad aa h1 h0 hH ac hE ae lw dk
def mq:Raises (pJ (CX1 P w) P w K mg base N qual scope f cd A outer s₀ H₀ E) E:=by
 intro pins σ H s e C args h' I z hE;obtain⟨t,g1,g2,g3⟩:=z.there;have I':Inv (pJ (CX1 P w) P w K mg base N qual scope f cd A outer s₀ H₀ E) pins σ H {s with heap:=h'}:=I.kept (t':=s.toks) z.keeps;refine Ik I' g1 rfl rfl rfl rfl (I.untracked z.new) ?_ hE (λ_ vs hv=>by cases hv;rfl)
 cases q:s₀.heap.get? e with
 |none=>rfl
 |some o=>
  obtain⟨o',q'⟩:=I.base.there e o q (by simp[pJ]);have:=z.new;rw[q']at this;cases this
def gq:xO (CX1 P w) (pJ (CX1 P w) P w K mg base N qual scope f cd A outer s₀ H₀ E) E:=by
 intro pins σ H s e s' I h;obtain⟨ea,C,a0,H',B,dd,rfl,os,bare,un,hok,fl,k1,k2,hn,af,hE⟩:=h;have ad:(pJ (CX1 P w) P w K mg base N qual scope f cd A outer s₀ H₀ E).stack=envOfC qual scope s₀.heap.objs.size f cd::outer:=rfl;rw[ad]at un fl k1 k2
 have ac:∀b o,s₀.heap.get? b=some o->b∉frs outer->b∉frs (envOfC qual scope s₀.heap.objs.size f cd::outer):=λb o q n hb=>by
  rcases zh.mp (I.stkSub b hb)with z|z
  ·exact absurd (zu q) (by rw[z];exact yh _)
  ·exact n z
 refine zR (kZ (KD.leaving _ _) (wpAny_leaves_onW (Q:=λ_ s2=>∃h2,s2={s' with heap:=h2}/\Heap.FlyingW B outer ea (.ref C) a0 h2/\Heap.UpToSlots s'.heap h2) I.ok.frames rfl fl λh2 aa ab=>⟨h2,rfl,aa,ab⟩)) (λ_ s2 z=>?_) (λ_ _ z=>z);obtain⟨⟨h2,rfl,aa,ab⟩,dk⟩:=z;have st:∀b o,B.get? b=some o->h2.get? b=some o:=aa.1;have q1:∀b o,s₀.heap.get? b=some o->H₀ b=none->b∉frs outer->B.get? b=some o:=λb o q n hb=>k1 b o (I.base.keep b o q n hb (by simp[pJ])) (I.base.free b o q n (by simp[pJ])) (ac b o q hb)
 have q2:∀b o,s₀.heap.get? b=some o->b∉frs outer->∃o',B.get? b=some o':=λb o q hb=>by
  obtain⟨o',q'⟩:=I.base.there b o q (by simp[pJ]);exact k2 b o' q' (ac b o q hb)
 have q3:∀b o,s₀.heap.get? b=some o->b∈frs outer->∃o1,s'.heap.get? b=some o1/\(H₀ b=none->∃sl,o1={o with slots:=sl})/\∃sl,h2.get? b=some {o1 with slots:=sl}:=λb o q hb=>by
  have hm:b∈frs (envOfC qual scope s₀.heap.objs.size f cd::outer):=by
   obtain⟨env,he,hf⟩:=yc.mp hb;exact yc.mpr ⟨env,zr _ he,hf⟩
  obtain⟨_,o1,z1,nd⟩:=fl.2.2.1.mem hm;refine⟨o1,z1,λn=>?_,ab b o1 z1 nd⟩;obtain⟨sl,y1⟩:=I.base.slot b o q n hb (by simp[pJ]);obtain⟨ae,y2⟩:=un.slot b _ y1 (I.base.free b o q n (by simp[pJ])) hm (by simp);rw[z1]at y2;exact⟨ae,zt y2⟩
 refine⟨ea,C,a0,H',B,dd,rfl,os.trans I.os,bare,⟨λb o q n hb _=>st b o (q1 b o q n hb),λb o q n hb _=>?_,λb o q n _=>?_,λb o q _=>?_,λb xs z=>un.tups b xs (I.base.tups b xs z),λb o xs z=>un.frzs b o xs (I.base.frzs b o xs z),λb ps z=>?_⟩,hok,aa,q1,q2,hn,af.dk dk,hE⟩
 ·obtain⟨o1,_,e1,sl,e2⟩:=q3 b o q hb
  obtain⟨ag,rfl⟩:=e1 n;exact⟨sl,e2⟩
 ·obtain⟨o',q'⟩:=I.base.there b o q (by simp[pJ])
  exact un.free b o' q' (I.base.free b o q n (by simp[pJ])) (by simp)
 ·by_cases hb:b∈frs outer
  ·obtain⟨o1,_,_,sl,e2⟩:=q3 b o q hb
   exact⟨_,e2⟩
  ·obtain⟨o',q'⟩:=q2 b o q hb
   exact⟨o',st b o' q'⟩
 ·obtain⟨m1,e1⟩:=I.base.tbls b ps z
  obtain⟨m2,e2⟩:=un.tbls b _ e1;exact⟨m1++m2,by rw[e2,zzu]⟩
end
end L2
namespace L2
open PySem PySem.Spec PyProof.Rows
structure acv(K:Fg_)(C:Addr):Prop where
 ex:PySem.W.excIn K C [.type "ValueError",.type "Exception",.type "BaseException",.type "object"] "ValueError.__new__" =true
def acv.obj{K:Fg_}{C:Addr}{h:Heap}(c:acv K C)(X:K.In h):∃bm N nm qn bs ac sn sub ab col dd k0 k1 k2 k3 k5 mN,h.get? C=some (excClassObj nm qn C N bs bm ac sn sub ab col dd k0 k1 k2 k3 k5 "ValueError.__new__")/\h.Ns N mN/\mN "__init__" =none/\
  OwnTail h [.type "ValueError",.type "Exception",.type "BaseException",.type "object"] bm:=by
 have z:=c.ex;unfold PySem.W.excIn at z;split at z
 ·rename_i dd cd sl aa
  split at z
  ·rename_i C2 tl k0 k1 k2 k3 nn k5 q ad
   simp only[zU,beq_iff_eq,Bool.not_eq_true']at z;obtain⟨⟨⟨⟨⟨e1,e2⟩,e3⟩,e4⟩,e5⟩,e6⟩:=z;subst e1 e2;obtain⟨nm,bs,af,ns,qn,ac,sn,sub,ab,col,del⟩:=cd;dsimp only at q e3 e5 e6;subst q e3;obtain⟨ae⟩:=sl;dsimp only at ad;subst ad;exact⟨tl,ns,nm,qn,bs,ac,sn,sub,ab,col,dd,k0,k1,k2,k3,k5,_,X _ _ aa,.of_isNs (PySem.W.isNs_of_in X e5),PySem.W.nsMap_none_of_in X e5 e6,PySem.W.tail_of_in X e4⟩
  ·cases z
 ·cases z
noncomputable def YF(C:Addr)(E:XK)(t:TA):TS:=λ_ σ H=>t σ H λvs H1=>vs.length<=sizeLine/\E (.ref C) none H1
section
variable{X:Cx}{x:Str}{C:Addr}{E:XK}{e:Expr}{es:List Expr}{t:TA}{np cpos pos:Pos}
def ou(hr:Raises X E)(hc:X.calm=true)(c:acv X.K C)(hg:Gl X x)(hm:X.mg x=some (.ref C))(ha:PA X (e::es) t)(hd:(x==("__debug__" :Str))=false:=by decide)
  (he:starEach (e::es) X.env=(false,eval e X.env)::starEach es X.env:=by rfl) (hpl:(backTo cpos (starEach es X.env)).any (·.1)=false:=by rfl):
  PS X (.Raise (some (.Call (.Name x np) (e::es) [] cpos)) none pos) (YF C E t):=by
 intro pins s σ H D I h;obtain⟨bm,N,nm,qn,bs,aa,sn,sub,ab,col,dd,k0,k1,k2,k3,k5,mN,g1,g2,g3,g4⟩:=c.obj I.ok.mod.kin
 refine wpAny_Raise_call_subT (C:=C) (nm:=nm) (q:=qn) (N:=N) (bs:=bs) (bm:=bm) (hdct:=aa) (sn:=sn) (sub:=sub) (ab:=ab) (col:=col) (dd:=dd) (k0:=k0) (k1:=k1) (k2:=k2) (k3:=k3) (k5:=k5)
  yr (mN:=mN) (g4.hasType yr.hasBase) (I.ok.hd hc) (by rw[he];show(false||(backTo cpos (starEach es X.env)).any (·.1))=false;rw[hpl];rfl) g3 (nM I hg hm ⟨rfl,?_⟩ hd)
 have ha':=ha cpos pins s σ H _ I h;rw[he]at ha'⊢;refine Calls.evalArgs_plain (thn ha' λus s2 ⟨vs,H2,I2,rv,hz,hE⟩=>⟨rfl,by show us.length<=sizeLine;rw[<-rv.length];exact hz,I2.bk _ _ g1,g2.keeps I2.bk,g4.keeps I2.bk,λh' ea z=>?_⟩);exact hr pins σ H2 s2 ea C us h' I2 z hE
def Fun.okX{P:Program}{w:World}{K:Fg_}{mg:Str->Option Value}{base:Heap}{x qual:Str}{st:Stmt}{f:Addr}{fd:FuncData}{N ps:List Str}{k:Nat}{sp:Sp}(F:Fun K x qual st f fd)(S:gb N ps (fP st))(len:∀vs H Q E,sp vs H Q E->vs.length=ps.length)
  (z:∀(q:Value)(A:Around)(outer:List Env)(s:Shared)(H:Hp)(vs:List V)(Q:VK)(E:XK),nY k (A.deeper (envOfC qual (fP st) s.heap.objs.size f q))->sp vs H Q E->
   ∃t,PSs (pJ (CX1 P w) P w K mg base N qual (fP st) f q A outer s H E) (iK st) t/\t {nx:=λ_ H'=>Q .non H',rt:=Q} (start N vs) H):ji P w K mg base (CX1 P w) (k+1) f fd ps sp:=by
 obtain⟨oc,od,kV,ad,pm,an,q,ct,ac,rfl,lk,ab⟩:=F.ex;exact Yt lk ab S len λA outer s H vs Q E hr aa=>z q A outer s H vs Q E hr aa
end
end L2
namespace L2
open PySem PySem.Spec PyProof.Rows
section
variable{prog:Program}{w:World}{A:Around}{E:Value->Shared->Prop}{h:Heap}{g:Array GenState}{d:Drawn}{t:Nat}{os:OsState}{a:Addr}{o:Obj}
 {nm q:Str} {C N:Addr} {bs bm:List Value} {hdct:Bool} {sn:List Str} {sub:List Value} {ab:Bool} {col:Option Bool} {dd:Option Addr} {k0 k1 k2 k3 k5:Option Value} {newId:String} {K:Fg_}
structure acW(K:Fg_)(C:Addr):Prop where
 cl:PySem.W.findIn K (.ref C) "__class__" =some (some (.builtin "object.__class__"))
 ga:PySem.W.findIn K (.ref C) "__getattribute__" =some (some (.builtin "BaseException.__getattribute__"))
 gh:PySem.W.findIn K (.ref C) "__getattr__" =some none
end
end L2
namespace L2
open PySem PySem.Spec PyProof.Rows
abbrev TX:=St->Hp->VK->XK->Prop
noncomputable def PEx(X:Cx)(CX:CXT)(e:Expr)(t:TX):Prop:=
 ∀(pins:List (Addr×Obj))(s:Shared)(σ:St)(H:Hp)(Q:VK)(E:XK),Inv X pins σ H s->t σ H Q E->wpAny (model X.prog X.w) X.A (eval e X.env) (EP X pins σ Q) (λev s'=>∃H1 s1,Inv X pins σ H1 s1/\CX X.stack H1 s1 E ev s') s
noncomputable def abh(sp:Sp)(dvs:List V)(t:TA):TX:=λσ H Q E=>t σ H λvs H1=>sp (vs++dvs) H1 Q E
section
variable{X:Cx}{CX:CXT}{k:Nat}{f C:Addr}{fd:FuncData}{ps:List Str}{sp:Sp}{dvs:List V}{ds:List Value}{x:Str}{p pos:Pos}{e:Expr}{es:List Expr}{t:TA}
def aax{pins:List (Addr×Obj)}{σ:St}{H:Hp}{s:Shared}{Q:VK}{E:XK}{us:List Value}{vs:List V}(F:ji X.prog X.w X.K X.mg X.base CX k f fd ps sp)(hr:nY k X.A)(hb:Binds X.K fd ps ds)(hd:Vals dvs ds)
  (I:Inv X pins σ H s) (r:Vals vs us) (h:sp (vs++dvs) H Q E):wpAny (model X.prog X.w) X.A (call (.ref f) us) (EP X pins σ Q) (λev s'=>∃H1 s1,Inv X pins σ H1 s1/\CX X.stack H1 s1 E ev s') s:=by
 have z:Vals (vs++dvs) (us++ds):=r.append hd;have hl:(us++ds).length=ps.length:=by rw[<-z.length];exact F.len _ _ _ _ h
 refine zz7 (codeAny_mono (F.run X.A X.stack s H ⟨us,[]⟩ (us++ds) (vs++dvs) Q E hr I.env0 (hb s us I.kIn hl) z h) λr s' q=>?_)
 cases r with
 |error e=>exact⟨H,s,I,q⟩
 |ok fl=>
  cases fl with
  |ret u=>exact I.after q
  |next=>exact False.elim q
  |brk=>exact False.elim q
  |cont=>exact False.elim q
def Xr(F:ji X.prog X.w X.K X.mg X.base CX k f fd ps sp)(hr:nY k X.A)(hg:Gl X x)(hm:X.mg x=some (.ref f))(hk:PySem.W.keepIn X.K (.ref f)=true)(hb:Binds X.K fd ps ds)(hd:Vals dvs ds)
  (ha:PA X.nox (e::es) t) (aa:(x==("__debug__" :Str))=false:=by decide) (he:starEach (e::es) X.env=(false,eval e X.env)::starEach es X.env:=by rfl) (hpl:(backTo pos (starEach es X.env)).any (·.1)=false:=by rfl):
  PEx X CX (.Call (.Name x p) (e::es) [] pos) (abh sp dvs t):=by
 intro pins s σ H Q E I h;refine yi (nM I hg hm ?_ aa);refine yI (h₀:=X.base) I.ok.mod.kin hk (zR (ha pos pins s σ H _ (I.wish _) h) (λus s1 ⟨vs,H1,I1,r,q⟩=>⟨I1.unwish.kIn,?_⟩) λ_ _ z=>False.elim z) he hpl;exact aax F hr hb hd I1.unwish r q
noncomputable def aeb(C ea:Addr):HO:=.ext λh=>∃o,h.get? ea=some o/\o.cls=.ref C
abbrev Cx.inSuite(X:Cx)(ea:Addr):Cx:={X with A:=X.A.mark (some (.ref ea)),calm:=false,xe:=λ_ _=>False}
theorem Inv.inSuite{pins:List (Addr×Obj)}{σ:St}{H:Hp}{s:Shared}(I:Inv X pins σ H s)(ea:Addr):Inv (X.inSuite ea) pins σ H s:=
 ⟨⟨I.ok.mod,I.ok.kind,I.ok.glob,I.ok.blt,I.ok.above,I.ok.inj,I.ok.has,I.ok.cab,λz=>(nomatch z),I.ok.frames,I.ok.stk,I.ok.exf,I.ok.bs,I.ok.bsz,I.ok.noex,I.ok.exfs,I.ok.funs,I.ok.frf⟩,I.os,I.bare,I.base,I.loc,I.cell,I.free,I.freeC,I.pin,I.hok,I.len⟩
def Inv.outSuite{pins:List (Addr×Obj)}{σ:St}{H:Hp}{s:Shared}{ea:Addr}(ok:X.Ok)(I:Inv (X.inSuite ea) pins σ H s):Inv X pins σ H s:=
 ⟨ok,I.os,I.bare,I.base,I.loc,I.cell,I.free,I.freeC,I.pin,I.hok,I.len⟩
def Inv.gone{pins:List (Addr×Obj)}{σ:St}{H:Hp}{s:Shared}{i:Nat}{n:Str}{Q:Unit->Shared->Prop}{M:Model}{A:Around}{E:Value->Shared->Prop}{hpos:Pos}(I:Inv X pins σ H s)(hN:X.N.Nodup)(hi:X.N[i]? =some n)(hk:X.env.kindOf n=some .local)
  (h:∀s',Inv X pins (σ.set i none) H s'->Q () s'):wpAny M A (do bindName X.env n .none;unbindBehindTheSuite X.env n hpos) Q E s:=by
 obtain⟨m,hn,hl⟩:=id I.loc;obtain⟨oL,_,_,ab,_⟩:=id hn;refine wpAny_nameGoes_keeps hk hn (by rw[I.ok.kind];rfl) λh' v aa hs=>h _ ?_;have iL:∀b o,X.s₀.heap.get? b=some o->b≠X.env.locals:=λb o e=>zK (zL (zu e) I.ok.above);refine⟨I.ok,I.os,I.bare,⟨λb o e n hb hx=>(hs.2 b (iL b o e)).trans (I.base.keep b o e n hb hx),λb o e n hb hx=>?_,I.base.free,λb o e hx=>?_,I.base.tups,I.base.frzs,I.base.tbls⟩,⟨_,aa,λj y v' e1 e2 e3=>?_⟩,λy c e=>?_,I.free,I.freeC,λp hp=>?_,λb ob e=>?_,by simpa using I.len⟩
 ·obtain⟨sl,e1⟩:=I.base.slot b o e n hb hx
  exact⟨sl,(hs.2 b (iL b o e)).trans e1⟩
 ·obtain⟨o',e1⟩:=I.base.there b o e hx
  exact⟨o',(hs.2 b (iL b o e)).trans e1⟩
 ·by_cases hj:j=i
  ·subst hj
   by_cases hz:j<σ.length
   ·rw[zzx hz]at e2;cases e2
   ·rw[yL (by simpa using hz)]at e2;cases e2
  ·rw[zzN (Ne.symm hj)]at e2
   obtain⟨u',r',q⟩:=hl j y v' e1 e2 e3;refine⟨u',r',?_⟩;have ny:y≠n:=λe=>hj (Il hN e1 (e▸hi));rcases q with⟨k,e⟩|⟨k,c,e,z⟩
   ·exact .inl ⟨k,by show(if y=n then v else m y)=some u';rw[zk ny];exact e⟩
   ·exact .inr ⟨k,c,e,z.sameBut hs (I.cne y c e)⟩
 ·obtain⟨w',z⟩:=I.cell y c e
  exact⟨w',z.sameBut hs (I.cne y c e)⟩
 ·obtain⟨e,n,ne,nf,d⟩:=I.pin p hp
  exact⟨(hs.2 p.1 ne).trans e,n,ne,nf,d⟩
 ·refine(I.hok b ob e).stay (λc w' hc q=>(hs.2 c ?_).trans q) (λ_ q=>q) λ_ _ q=>q
  rintro rfl;rcases hc with z|z
  ·rw[<-z,I.free]at e;cases e
  ·rw[I.free]at z;cases z
def Inv.landed{pins:List (Addr×Obj)}{σ:St}{H1 H':Hp}{s1 s':Shared}{ea C:Addr}{a0:Value}{B h6:Heap}(I:Inv X pins σ H1 s1)(os:s'.os=s1.os)(bare:AllBare s'.gens)(un:Un (frs X.stack) [] H1 H' s1.heap s'.heap)(hok:HOk X.prog X.w H' B)
  (fl:Heap.FlyingW B X.stack ea (.ref C) a0 s'.heap) (k1:∀b o,s1.heap.get? b=some o->H1 b=none->b∉frs X.stack->B.get? b=some o) (k2:∀b o,s1.heap.get? b=some o->b∉frs X.stack->∃o',B.get? b=some o') (hn:H' ea=none)
  (aa:Heap.FlyingW B X.stack ea (.ref C) a0 h6) (ad:s'.heap.UpToSlots h6):Inv X pins σ (upd H' ea (aeb C ea)) {s' with heap:=h6}:=by
 have st:∀b o,B.get? b=some o->h6.get? b=some o:=aa.1
 have ab:∀b o,s1.heap.get? b=some o->b≠ea:=λb o q z=>by
  subst z;by_cases hb:b∈frs X.stack
  ·obtain⟨_,o2,q2,nd⟩:=aa.2.2.1.mem hb
   obtain⟨oe,vs,q3,_,dd,_⟩:=aa.first
   rw[q2]at q3;cases q3;exact nd vs dd
  ·obtain⟨o',q'⟩:=k2 b o q hb
   rw[aa.2.1]at q';cases q'
 have q3:∀b o,s1.heap.get? b=some o->b∈frs X.stack->∃o1,s'.heap.get? b=some o1/\(H1 b=none->∃sl,o1={o with slots:=sl})/\∃sl,h6.get? b=some {o1 with slots:=sl}:=λb o q hb=>by
  obtain⟨_,o1,z1,nd⟩:=fl.2.2.1.mem hb;refine⟨o1,z1,λn=>?_,ad b o1 z1 nd⟩;obtain⟨ac,y2⟩:=un.slot b _ q n hb (by simp);rw[z1]at y2;exact⟨ac,zt y2⟩
 refine I.call' (ch:=[]) (s':={s' with heap:=h6}) os ⟨λb o q n hb _=>st b o (k1 b o q n hb),λb o q n hb _=>?_,λb o q n _=>?_,λb o q _=>?_,λb xs z=>?_,λb o xs z=>?_,λb ps z=>?_⟩ (λb u q=>?_) bare (λb hb=>absurd hb (by simp))
 ·obtain⟨o1,_,e1,sl,e2⟩:=q3 b o q hb
  obtain⟨ae,rfl⟩:=e1 n;exact⟨sl,e2⟩
 ·rw[fX (ab b o q)]
  exact un.free b o q n (by simp)
 ·by_cases hb:b∈frs X.stack
  ·obtain⟨o1,_,_,sl,e2⟩:=q3 b o q hb
   exact⟨_,e2⟩
  ·obtain⟨o',q'⟩:=k2 b o q hb
   exact⟨o',st b o' q'⟩
 ·have z':=un.tups b xs z
  rw[fX (gP z' hn)];exact z'
 ·have z':=un.frzs b o xs z
  rw[fX (gP z' hn)];exact z'
 ·obtain⟨mo,z'⟩:=un.tbls b ps z
  exact⟨mo,by rw[fX (gP z' hn)];exact z'⟩
 ·by_cases hb:b=ea
  ·subst hb
   rw[fL]at q;cases q;obtain⟨oe,vs,q3,cc,dd,_⟩:=aa.first
   exact⟨⟨oe,q3,cc⟩,⟨oe,q3⟩,λh1 h2 ⟨o,e1,e2⟩ k=>⟨o,k o e1,e2⟩⟩
  ·rw[fX hb]at q
   exact(hok b u q).stay (λc v _ z=>st c v z) (λc z=>by rw[fX (gP z hn)];exact z) λc xs z=>by rw[fX (gP z hn)];exact z
end
end L2
namespace L2
open PySem PySem.Spec PyProof.Rows
section
variable{X:Cx}{K:Fg_}
variable{σ:St}{H:Hp}{Q:VK}{D:Ends}{t:TA}{E:XK}{C ea p:Addr}{te:TX}{i:Nat}{ts:TS}{sp:Sp}{dvs:List V}{c:V}
def ap_raise:YF C E t D σ H=t σ H λvs H1=>vs.length<=sizeLine/\E (.ref C) none H1:=rfl
def ap_xCall:abh sp dvs t σ H Q E=t σ H λvs H1=>sp (vs++dvs) H1 Q E:=rfl
end
end L2
namespace L2
open PySem PySem.Spec PyProof.Rows
section
variable{κ:Type} [DecidableEq κ]
noncomputable def oF(kvs:List (κ×V))(k:κ):Option V:=(kvs.find? λkv=>decide (kv.1=k)).map (·.2)
noncomputable def putK(kvs:List (κ×V))(k:κ)(v:V):List (κ×V):=
 if(kvs.any λkv=>decide (kv.1=k))=true then kvs.map (λkv=>if kv.1=k then(kv.1,v)else kv)else kvs++[(k,v)]
def kh{p:κ×V}{r:List (κ×V)}{k:κ}(e:p.1=k):oF (p::r) k=some p.2:=by simp[oF,zzd,e]
def kO{p:κ×V}{r:List (κ×V)}{k:κ}(e:¬p.1=k):oF (p::r) k=oF r k:=by simp[oF,zzd,e]
theorem Ed(k:κ):∀kvs:List (κ×V),(kvs.any λq=>decide (q.1=k))=(oF kvs k).isSome
 |[]=>rfl
 |p::r=>by
  rw[zzM];by_cases e:p.1=k
  ·simp only[kh e,zS e,Bool.true_or,Option.isSome_some]
  ·rw[kO e,zB e,Bool.false_or];exact Ed k r
theorem QZ(k j:κ)(y:V):∀kvs:List (κ×V),oF (kvs.map λq=>if q.1=k then(q.1,y)else q) j=(oF kvs j).map λx=>if j=k then y else x
 |[]=>rfl
 |p::r=>by
  have ih:=QZ k j y r;rw[zj];by_cases h:p.1=k
  ·rw[zp h]
   by_cases e:p.1=j
   ·rw[kh (p:=(p.1,y)) e,kh e,zzR,zp (e.symm.trans h)]
   ·rw[kO (p:=(p.1,y)) e,kO e,ih]
  ·rw[zk h]
   by_cases e:p.1=j
   ·rw[kh (p:=p) e,kh e,zzR,zk (λz=>h (e.trans z))]
   ·rw[kO (p:=p) e,kO e,ih]
theorem Ml(k j:κ)(y:V):∀kvs:List (κ×V),oF kvs k=none->oF (kvs++[(k,y)]) j=if j=k then some y else oF kvs j
 |[],_=>by
  by_cases e:k=j
  ·rw[zp e.symm];exact kh (p:=(k,y)) e
  ·rw[zk (λz=>e z.symm)];exact kO (p:=(k,y)) e
 |p::r,hn=>by
  rw[yy];have q:¬p.1=k:=λz=>by rw[kh z]at hn;cases hn
  rw[kO q]at hn;have ih:=Ml k j y r hn;by_cases e:p.1=j
  ·rw[kh e,kh e,zk (λz=>q (e.trans z))]
  ·rw[kO e,kO e,ih]
def iW(kvs:List (κ×V))(k j:κ)(y:V):oF (putK kvs k y) j=if j=k then some y else oF kvs j:=by
 unfold putK;by_cases a:(kvs.any λz=>decide (z.1=k))=true
 ·rw[zp a,QZ]
  rw[Ed]at a;by_cases e:j=k
  ·obtain⟨x,hx⟩:=yX.mp a
   rw[zp e,e,hx,zzR,zp rfl]
  ·rw[zk e]
   cases oF kvs j with
   |none=>rfl
   |some x=>rw[zzR,zk e]
 ·rw[zk a]
  refine Ml k j y kvs ?_;rw[Ed]at a
  cases q:oF kvs k with
  |none=>rfl
  |some x=>rw[q]at a;exact(a rfl).elim
def Af(kvs:List (κ×V))(k:κ)(v:V):(putK kvs k v).length<=kvs.length+1:=by
 unfold putK;split
 ·rw[za];lia
 ·rw[zm,zy,yf];lia
def HY.isSome_eq{o:Option V}{u:Option Value}(r:HY o u):o.isSome=u.isSome:=by
 cases o with
 |none=>cases u with
  |none=>rfl
  |some _=>exact(show False from r).elim
 |some _=>cases u with
  |none=>exact(show False from r).elim
  |some _=>rfl
theorem HY.getD{o:Option V}{u:Option Value}{d:V}{d':Value}(r:HY o u)(rd:RelV d d'):RelV (o.getD d) (u.getD d'):=by
 cases o with
 |none=>cases u with
  |none=>exact rd
  |some _=>exact(show False from r).elim
 |some _=>cases u with
  |none=>exact(show False from r).elim
  |some _=>exact r
def KV.val{kvs:List (κ×V)}{vs:List (κ×Value)}(r:KV kvs vs)(k:κ):HY (oF kvs k) (valueAt vs k):=by
 unfold KV at r
 induction r with
 |nil=>exact True.intro
 | @cons p q ps qs h t ih=>
  obtain⟨h1,h2⟩:=h;by_cases e:p.1=k
  ·have e':q.1=k:=h1.symm.trans e
   have b:valueAt (q::qs) k=some q.2:=by simp[valueAt,zzd,e']
   rw[kh e,b];exact h2
  ·have e':¬q.1=k:=λz=>e (h1.trans z)
   have b:valueAt (q::qs) k=valueAt qs k:=by simp[valueAt,zzd,e']
   rw[kO e,b];exact ih
theorem KV.any{kvs:List (κ×V)}{vs:List (κ×Value)}(r:KV kvs vs)(k:κ):(kvs.any λq=>decide (q.1=k))=vs.any λq=>decide (q.1=k):=by
 unfold KV at r
 induction r with
 |nil=>rfl
 |cons h t ih=>rw[zzM,zzM,ih,h.1]
def KV.repl{kvs:List (κ×V)}{vs:List (κ×Value)}(r:KV kvs vs)(k:κ){y:V}{u:Value}(ry:RelV y u):
  KV (kvs.map λkv=>if kv.1=k then(kv.1,y)else kv) (vs.map λkv=>if kv.1=k then(kv.1,u)else kv):=by
 unfold KV at r⊢
 induction r with
 |nil=>exact .nil
 | @cons p q ps qs h t ih=>
  rw[zj,zj];refine .cons ?_ ih;obtain⟨h1,h2⟩:=h;by_cases e:p.1=k
  ·rw[zp e,zp (h1.symm.trans e)];exact⟨h1,ry⟩
  ·rw[zk e,zk (λz=>e (h1.trans z))];exact⟨h1,h2⟩
def KV.put{kvs:List (κ×V)}{vs:List (κ×Value)}(r:KV kvs vs)(k:κ){y:V}{u:Value}(q:RelV y u):KV (putK kvs k y) (stored vs k u):=by
 unfold putK stored;rw[r.any k];by_cases e:(vs.any λz=>decide (z.1=k))=true
 ·rw[zp e,zp e];exact r.repl k q
 ·rw[zk e,zk e];exact yym r ⟨rfl,q⟩
theorem KV.length{kvs:List (κ×V)}{vs:List (κ×Value)}(r:KV kvs vs):kvs.length=vs.length:=zzr r
end
def Ir{P:Program}{w:World}{k:Key}{u:Value}(r:RelV (kV k) u):(jm P w).is k u=true:=by
 cases k with
 |inl i=>obtain⟨t,e⟩:=(show∃t,u=Value.int i t from r);subst e;exact NP P w i t
 |inr x=>obtain⟨t,e⟩:=(show∃t,u=Value.str x t from r);subst e;exact jQ P w x t
theorem Nq{P:Program}{w:World}:∀{ks:List Key}{us:List Value},Vals (ks.map kV) us->ItemsAre (jm P w) ks us
 |[],_,r=>by rw[yo]at r;cases r;exact .nil
 |k::ks,_,r=>by
  rw[zj]at r
  cases r with
  |cons h t=>exact .cons (Ir h) (Nq t)
abbrev KT(H:Hp):List (List Key×V)->List (List Key×Addr×Value)->Prop:=Paired λp q=>p.1=q.1/\H q.2.1=some (.tup (p.1.map kV))/\RelV p.2 q.2.2
def KT.val{H:Hp}{kvs:List (List Key×V)}{xs:List (List Key×Addr×Value)}(r:KT H kvs xs)(k:List Key):HY (oF kvs k) ((atKey xs k).map (·.2)):=by
 induction r with
 |nil=>exact True.intro
 | @cons p q ps qs h t ih=>
  obtain⟨h1,_,h2⟩:=h;by_cases e:p.1=k
  ·have e':q.1=k:=h1.symm.trans e
   have b:atKey (q::qs) k=some q.2:=by simp[atKey,zzd,e']
   rw[kh e,b];exact h2
  ·have e':¬q.1=k:=λz=>e (h1.trans z)
   have b:atKey (q::qs) k=atKey qs k:=by simp[atKey,zzd,e']
   rw[kO e,b];exact ih
def KT.repl{H:Hp}{kvs:List (List Key×V)}{xs:List (List Key×Addr×Value)}(r:KT H kvs xs)(k:List Key){y:V}{u:Value}(ry:RelV y u):
  KT H (kvs.map λkv=>if kv.1=k then(kv.1,y)else kv) (xs.map (putAt k u)):=by
 induction r with
 |nil=>exact .nil
 | @cons p q ps qs h t ih=>
  rw[zj,zj];refine .cons ?_ ih;obtain⟨h1,h2,h3⟩:=h;unfold putAt;by_cases e:p.1=k
  ·rw[zp e,zp (h1.symm.trans e)];exact⟨h1,h2,ry⟩
  ·rw[zk e,zk (λz=>e (h1.trans z))];exact⟨h1,h2,h3⟩
def KT.put{H:Hp}{kvs:List (List Key×V)}{xs:List (List Key×Addr×Value)}(r:KT H kvs xs)(k:List Key){b:Addr}{y:V}{u:Value}(hb:H b=some (.tup (k.map kV)))(z:RelV y u):
  KT H (putK kvs k y) (storedH xs k b u):=by
 have e:(kvs.any λkv=>decide (kv.1=k))=(atKey xs k).isSome:=by
  rw[Ed,(r.val k).isSome_eq,yyb]
 unfold putK storedH;rw[e];by_cases q:(atKey xs k).isSome=true
 ·rw[zp q,zp q];exact r.repl k z
 ·rw[zk q,zk q];exact yym r ⟨rfl,hb,z⟩
def KT.keeps{H H':Hp}{kvs:List (List Key×V)}{xs:List (List Key×Addr×Value)}(r:KT H kvs xs)(q:∀b ys,H b=some (.tup ys)->H' b=some (.tup ys)):KT H' kvs xs:=
 Paired.mapP r λ_ _ z=>⟨z.1,q _ _ z.2.1,z.2.2⟩
section
variable{P:Program}{w:World}{H:Hp}{h:Heap}{a:Addr}
def abK{u:HO}(ok:HOk P w H h)(e:Rd H a u):iZ P w H h a u:=e.ok ok
def PB{kvs:List (Key×V)}(ok:HOk P w H h)(e:Rd H a (.dK kvs)):kvs.length<=sizeLine/\(a==sysModules)=false/\∃vs,KV kvs vs/\h.DictOf (jm P w) a vs:=
 show iZ P w H h a (.dK kvs)from abK ok e
def acp{kvs:List (Key×V)}(ok:HOk P w H h)(e:H a=some (.dK kvs)):kvs.length<=sizeLine/\(a==sysModules)=false/\∃vs,KV kvs vs/\h.DictOf (jm P w) a vs:=PB ok (.inl e)
def HS{ks:List Key}(ok:HOk P w H h)(e:H a=some (.tup (ks.map kV))):(tupleKind (jm P w)).is h ks a:=by
 obtain⟨_,its,r,o,h1,h2,n,q⟩:=(show iZ P w H h a (.tup (ks.map kV))from ok a _ e);exact⟨o,its.toArray,n,h1,h2,q,by simpa using Nq r⟩
def OD{kvs:List (List Key×V)}(ok:HOk P w H h)(e:Rd H a (.dT kvs)):kvs.length<=sizeLine/\(a==sysModules)=false/\
  ∃xs,KT H kvs xs/\h.DictOfH (tupleKind (jm P w)) a xs:=by
 obtain⟨z,y,xs,r,o,es,ep,h1,h2,h3,h4,h5⟩:=(show iZ P w H h a (.dT kvs)from abK ok e);refine⟨z,y,xs,r,o,es,ep,h1,h2,h3,h4,λx hx=>?_,h5⟩
 have aa:∀{l:List (List Key×V)}{m:List (List Key×Addr×Value)},KT H l m->∀x∈m,(tupleKind (jm P w)).is h x.1 x.2.1:=by
  intro l m q
  induction q with
  |nil=>intro x hx;exact nomatch hx
  | @cons p q ps qs hq t ih=>
   intro x hx;rcases zh.mp hx with e|hx
   ·subst e
    exact HS ok (by rw[<-hq.1];exact hq.2.1)
   ·exact ih x hx
 exact aa r x hx
def adw{kvs:List (List Key×V)}(ok:HOk P w H h)(e:H a=some (.dT kvs)):kvs.length<=sizeLine/\(a==sysModules)=false/\
  ∃xs,KT H kvs xs/\h.DictOfH (tupleKind (jm P w)) a xs:=OD ok (.inl e)
end
noncomputable def Sx(H:Hp)(a:Addr)(y:V)(r:Option V):Prop:=
 (∃kvs k,Rd H a (.dK kvs)/\y=kV k/\r=oF kvs k)\/∃kvs k b,Rd H a (.dT kvs)/\y=.ref b/\H b=some (.tup (k.map kV))/\r=oF kvs k
noncomputable def adb(H:Hp)(a:Addr)(y v:V)(H':Hp):Prop:=
 (∃kvs k,H a=some (.dK kvs)/\y=kV k/\kvs.length<sizeLine/\H'=upd H a (.dK (putK kvs k v)))\/
 ∃kvs k b,H a=some (.dT kvs)/\y=.ref b/\H b=some (.tup (k.map kV))/\kvs.length<sizeLine/\H'=upd H a (.dT (putK kvs k v))
def Dc{H:Hp}{a:Addr}{kvs:List (Key×V)}{k:Key}(e:H a=some (.dK kvs)):Sx H a (kV k) (oF kvs k):=.inl ⟨kvs,k,.inl e,rfl,rfl⟩
def Gn{H:Hp}{a:Addr}{kvs:List (Key×V)}{k:Key}{v:V}(e:H a=some (.dK kvs))(hl:kvs.length<sizeLine):adb H a (kV k) v (upd H a (.dK (putK kvs k v))):=.inl ⟨kvs,k,e,rfl,hl,rfl⟩
section
variable{X:Cx}{pins:List (Addr×Obj)}{σ:St}{H:Hp}{s:Shared}{a:Addr}{y v:V}{u r:Value}{o:Option V}{A:Around}{E:Value->Shared->Prop}
def Inv.big(I:Inv X pins σ H s):sysModules<s.heap.objs.size:=by
 have h:mainGlobals<s.heap.objs.size:=(I.mod.glob.keeps I.bk).lt;exact Nat.lt_trans (by decide) h
def Uv{Q:Value->Shared->Prop}(hu:A.units+1<cLine)(I:Inv X pins σ H s)(g:Sx H a y (some v))(ry:RelV y u)(h:∀w' s',Inv X pins σ H s'->RelV v w'->Q w' s'):
  wpAny (model X.prog X.w) A (getItem (.ref a) u) Q E s:=by
 rcases g with⟨kvs,k,e,ey,l⟩|⟨kvs,k,b,e,ey,eb,l⟩
 ·subst ey
  obtain⟨z,hd,vs,rel,dd⟩:=PB I.hok e;obtain⟨w',hw,q⟩:=HY.some_of (v:=v) (o:=valueAt vs k) (by rw[l];exact rel.val k);exact wpAny_getItem_of (Ir ry) dd.mapOf hw (h w' _ (I.tok _) q)
 ·subst ey
  cases (show u=Value.ref b from ry);obtain⟨z,hd,xs,rel,dd⟩:=OD I.hok e;obtain⟨w',hw,q⟩:=HY.some_of (v:=v) (o:=(atKey xs k).map (·.2)) (by rw[l];exact rel.val k);obtain⟨p,hp,aa⟩:=Option.map_eq_some_iff.mp hw;refine wpAny_getItem_heap (tupleKind_room_in1 hu) (HS I.hok eb) dd hp ?_;rw[aa];exact h w' _ (I.tok _) q
def aek{Q:Value->Shared->Prop}(hu:A.units+1<cLine)(I:Inv X pins σ H s)(g:Sx H a y o)(ry:RelV y u)(h:∀s',Inv X pins σ H s'->Q (.bool o.isSome) s'):
  wpAny (model X.prog X.w) A (compareOp .In u (.ref a)) Q E s:=by
 rcases g with⟨kvs,k,e,ey,l⟩|⟨kvs,k,b,e,ey,eb,l⟩
 ·subst ey
  obtain⟨z,hd,vs,rel,dd⟩:=PB I.hok e;refine wpAny_in_of (Ir ry) hd dd.mapOf ?_;rw[<-(rel.val k).isSome_eq,<-l];exact h _ (I.tok _)
 ·subst ey
  cases (show u=Value.ref b from ry);obtain⟨z,hd,xs,rel,dd⟩:=OD I.hok e;refine wpAny_in_heap (tupleKind_room_in1 hu) (HS I.hok eb) hd dd ?_;have q:=(rel.val k).isSome_eq;rw[yyb]at q;rw[<-q,<-l];exact h _ (I.tok _)
def aaD{Q:Value->Shared->Prop}(hu:A.units+1<cLine)(I:Inv X pins σ H s)(g:Sx H a y o)(ry:RelV y u)(h:∀s',Inv X pins σ H s'->Q (.bool (!o.isSome)) s'):
  wpAny (model X.prog X.w) A (compareOp .NotIn u (.ref a)) Q E s:=by
 rcases g with⟨kvs,k,e,ey,l⟩|⟨kvs,k,b,e,ey,eb,l⟩
 ·subst ey
  obtain⟨z,hd,vs,rel,dd⟩:=PB I.hok e;refine wpAny_notIn_of (Ir ry) hd dd.mapOf ?_;rw[<-(rel.val k).isSome_eq,<-l];exact h _ (I.tok _)
 ·subst ey
  cases (show u=Value.ref b from ry);obtain⟨z,hd,xs,rel,dd⟩:=OD I.hok e;refine wpAny_notIn_heap (tupleKind_room_in1 hu) (HS I.hok eb) hd dd ?_;have q:=(rel.val k).isSome_eq;rw[yyb]at q;rw[<-q,<-l];exact h _ (I.tok _)
def Ph{h':Heap}{t':Nat}{ob:HO}(I:Inv X pins σ H s)(mu:Mut (H a))(hs:Heap.SameBut a s.heap h')(he:∃q,h'.get? a=some q)(aa:iZ X.prog X.w (upd H a ob) h' a ob):
  Inv X pins σ (upd H a ob) {s with heap:=h',toks:=t'}:=
 I.write (x:=a) (e:=a) mu (.inl rfl) (λb q hb z=>(hs.2 b hb).trans z) he aa
def YM{P:Program}{w:World}{H':Hp}{h':Heap}{kvs:List (Key×V)}{vs:List (Key×Value)}(z:kvs.length<=sizeLine)(hd:(a==sysModules)=false)(rel:KV kvs vs)(dd:h'.DictOf (jm P w) a vs):
  iZ P w H' h' a (.dK kvs):=⟨z,hd,vs,rel,dd⟩
def Vu{H':Hp}{Q:Unit->Shared->Prop}(hu:A.units+1<cLine)(I:Inv X pins σ H s)(g:adb H a y v H')(ry:RelV y u)(rv:RelV v r)(h:∀s',Inv X pins σ H' s'->Q () s'):
  wpAny (model X.prog X.w) A (setItem (.ref a) u r) Q E s:=by
 rcases g with⟨kvs,k,e,ey,l,eH⟩|⟨kvs,k,b,e,ey,eb,l,eH⟩
 ·subst ey eH
  obtain⟨z,hd,vs,rel,dd⟩:=acp I.hok e;have hz:vs.length<=sizeLine:=by rw[<-rel.length];exact z
  have hl:(putK kvs k v).length<=sizeLine:=by have:=Af kvs k v;lia
  refine wpAny_setItem_pairs (hsz:=hz) (Ir ry) dd λh' aa hs=>h _ ?_;have he:∃q,h'.get? a=some q:=let⟨q,_,_,hq,_⟩:=aa;⟨q,hq⟩
  exact Ph I (by rw[e];exact True.intro) hs he (YM hl hd (rel.put k rv) aa)
 ·subst ey eH
  cases (show u=Value.ref b from ry);obtain⟨z,hd,xs,rel,dd⟩:=adw I.hok e;have hz:xs.length<=sizeLine:=by rw[<-zzr rel];exact z
  have hl:(putK kvs k v).length<=sizeLine:=by have:=Af kvs k v;lia
  refine wpAny_setItem_heap (hsz:=hz) (tupleKind_room_in1 hu) (HS I.hok eb) dd λh' aa hs=>h _ ?_;obtain⟨q,es,ep,hq,h2,h3,h4,_,h5⟩:=aa;refine Ph I (by rw[e];exact True.intro) hs ⟨q,hq⟩ ⟨hl,hd,_,(rel.put k eb rv).keeps λc ys ec=>?_,q,es,ep,hq,h2,h3,h4,h5⟩;rw[fX (adC ec e (λz=>nomatch z))];exact ec
end
noncomputable def adJ(i:Expr):Prop:=∀ov iv,subscripted i false ov iv=operate [ov,iv] (getItem ov iv)
def Vo{prog:Program}{w:World}{A:Around}{E:Value->Shared->Prop}{s:Shared}{env:Env}{value q:Expr}{pos:Pos}{T id:String}{Q:Value->Shared->Prop}
  (hl:typeLookup (.type T) "__getitem__" =pure (some (.builtin id))) (hs:adJ q)
  (h:wpAny (model prog w) A (eval value env) (λo s₁=>wpAny (model prog w) A (eval q env) (λi s₂=>s₂.TypeIs o T/\wpAny (model prog w) A (getItem o i) Q E s₂) E s₁) E s):
  wpAny (model prog w) A (eval (.Subscript value q pos) env) Q E s:=by
 refine Subscript_ (zR h (λo s₁ h₁=>zR h₁ (λi s₂ h₂=>?_) λ_ _ x=>x) λ_ _ x=>x);obtain⟨hT,h₂⟩:=h₂;unfold subscriptTail;refine zf ?_;rw[getitemInPython_of_ne hT.not_modules];refine zf (wpAny_specialOf hT hl ?_)
 have z:wpAny (model prog w) A (subscripted q false o i) (λr s₃=>wpAny (model prog w) A (letTemporaryGo value o r>>=λ_=>pure r) Q E s₃) E s₂:=by
  rw[hs o i];exact wpAny_operating (zR h₂ (λr s₃ h₃=>zf (wpAny_letTemporaryGo (zq h₃))) λ_ _ x=>x)
 first
  |exact zq (zf z)
  |exact zf (zq (zf z))
  |exact zf z
def Oj{X:Cx}{pins:List (Addr×Obj)}{σ:St}{H:Hp}{s:Shared}{a:Addr}{y:V}{o:Option V}(I:Inv X pins σ H s)(g:Sx H a y o):s.TypeIs (.ref a) "dict" :=by
 rcases g with⟨kvs,k,e,_,_⟩|⟨kvs,k,b,e,_,_,_⟩
 ·obtain⟨_,_,vs,_,dd⟩:=PB I.hok e
  exact dd.typeIs
 ·obtain⟨_,_,xs,_,dd⟩:=OD I.hok e
  exact dd.typeIs
noncomputable def abB(td ty:TE):TE:=λσ H Q=>td σ H λx H1=>ty σ H1 λy H2=>∃a v,x=.ref a/\Sx H2 a y (some v)/\Q v H2
noncomputable def Lj(td ty tv:TE):TS:=λD σ H=>tv σ H λv H1=>td σ H1 λx H2=>ty σ H2 λy H3=>∃a H4,x=.ref a/\adb H3 a y v H4/\D.nx σ H4
section
variable{X:Cx}{o i e value:Expr}{pos pos' tpos:Pos}{td ty tv:TE}
def Wz(hu:X.A.units+1<cLine)(ho:PE X o td)(hi:PE X i ty)(hs:adJ i):PE X (.Subscript o i pos) (abB td ty):=by
 intro pins s σ H Q I h;refine Vo PySem.F.slot_dict_getitem.lookup hs (thn (ho pins s σ H _ I h) λu s1 ⟨x,H1,I1,rx,q1⟩=>thn (hi pins s1 σ H1 _ I1 q1) λiv s2 ⟨y,H2,z,ry,a,v,ex,g,q2⟩=>?_);subst ex;obtain rfl:u=Value.ref a:=rx;exact⟨Oj z g,Uv hu z g ry λw' s3 I3 q=>⟨v,H2,I3,q,q2⟩⟩
def JV(hu:X.A.units+1<cLine)(ho:PE X o td)(hi:PE X i ty)(hv:PE X value tv)(hs:swapsWith value (some (.Subscript o i pos')) pos.line X.env=pure false):
  PS X (.Assign [.Subscript o i pos'] value pos) (Lj td ty tv):=by
 intro pins s σ H D I h;refine wpAny_Assign_Subscript (thn (hv pins s σ H _ I h) λr s1 ⟨v,H1,I1,rv,q1⟩=>thn (ho pins s1 σ H1 _ I1 q1) λu z ⟨x,H2,I2,q,q2⟩=>thn (hi pins z σ H2 _ I2 q2) λiv s3 ⟨y,H3,I3,ry,a,H4,ex,g,q3⟩=>?_) hs;subst ex;obtain rfl:u=Value.ref a:=q;exact Vu hu I3 g ry rv λs4 I4=>⟨σ,H4,I4,q3⟩
end
def QF{P:Program}{w:World}{H:Hp}(h:Heap)(hb:sysModules<h.objs.size):iZ P w H (h.push {cls:=.type "dict",data:=.dict #[]}) h.objs.size (.dK []):=
 ⟨zQ _,beq_eq_false_iff_ne.mpr (Ne.symm (zK hb)),[],.nil,Heap.DictOf.new h⟩
noncomputable def Zi:TE:=λ_ H Q=>∀p,H p=none->Q (.ref p) (upd H p (.dK []))
section
variable{X:Cx}{pos:Pos}
def Eh:PE X (.Dict [] [] pos) Zi:=λpins s σ H Q I h=>
 wpAny_Dict_empty ⟨.ref s.heap.objs.size,_,I.laid (a:=s.heap.objs.size) (o:=.dK []) (t':=s.toks) (λ_ _ q=>zd _ q) (ze _) (QF s.heap I.big),rfl,h _ (I.hok.fresh (ze _))⟩
end
noncomputable def Np:List (TE×TE)->St->Hp->(List (V×V)->Hp->Prop)->Prop
 |[],_,H,Q=>Q [] H
 |(tk,tv)::r,σ,H,Q=>tk σ H λx H1=>tv σ H1 λy H2=>Np r σ H2 λps H3=>Q ((x,y)::ps) H3
abbrev VV:List (V×V)->List (Value×Value)->Prop:=Paired λp q=>RelV p.1 q.1/\RelV p.2 q.2
noncomputable def PPs(X:Cx)(pos:Pos)(keys:List (Option Expr))(values:List Expr)(trs:List (TE×TE)):Prop:=
 ∀(pins:List (Addr×Obj)) (s:Shared) (σ:St) (H:Hp) (Q:List (V×V)->Hp->Prop),Inv X pins σ H s->Np trs σ H Q->
  wpAny (model X.prog X.w) X.A (evalPairs (pairTrees keys values X.env pos)) (λvs s'=>∃ps H',Inv X pins σ H' s'/\VV ps vs/\Q ps H') X.xe s
def Tz{X:Cx}{pos:Pos}:PPs X pos [] [] []:=λpins s σ H Q I h=>pairTrees_nil_walk ⟨[],H,I,.nil,h⟩
def Bc{X:Cx}{pos:Pos}{k v:Expr}{ks:List (Option Expr)}{vs:List Expr}{tk tv:TE}{q:List (TE×TE)}(hk:PE X k tk)(hv:PE X v tv)(hr:PPs X pos ks vs q):
  PPs X pos (some k::ks) (v::vs) ((tk,tv)::q):=λpins s σ H Q I h=>
 pairTrees_cons_walk (thn (hk pins s σ H _ I h) λu s1 ⟨x,H1,I1,rx,q1⟩=>thn (hv pins s1 σ H1 _ I1 q1) λw2 s2 ⟨y,H2,I2,ry,q2⟩=>
  thn (hr pins s2 σ H2 _ I2 q2) λws s3 ⟨ps,H3,I3,rel,z⟩=>⟨(x,y)::ps,H3,I3,.cons ⟨rx,ry⟩ rel,z⟩)
noncomputable def oX(kvs more:List (Key×V)):List (Key×V):=more.foldl (λacc kv=>putK acc kv.1 kv.2) kvs
def KV.merge:∀{z:List (Key×V)}{rs:List (Key×Value)}{kvs:List (Key×V)}{vs:List (Key×Value)},KV z rs->KV kvs vs->KV (oX kvs z) (merged vs rs):=by
 intro z rs kvs vs r;unfold KV at r
 induction r generalizing kvs vs with
 |nil=>intro q;exact q
 | @cons p q ps qs h t ih=>
  intro r0
  have e:KV (putK kvs p.1 p.2) (stored vs q.1 q.2):=by
   have:=r0.put p.1 h.2;rw[<-h.1];exact this
  exact ih e
theorem Bu:∀(more kvs:List (Key×V)),(oX kvs more).length<=kvs.length+more.length
 |[],kvs=>by show kvs.length<=kvs.length+0;lia
 |p::r,kvs=>by
  have h1:=Bu r (putK kvs p.1 p.2);have h2:=Af kvs p.1 p.2;show(oX (putK kvs p.1 p.2) r).length<=_;rw[zy];lia
theorem Ig{P:Program}{w:World}:∀{kvs:List (Key×V)}{ws:List (Value×Value)},VV (kvs.map λz=>(kV z.1,z.2)) ws->∃rs,Carries (jm P w) ws rs/\KV kvs rs
 |[],_,r=>by rw[yo]at r;cases r;exact⟨[],True.intro,.nil⟩
 |p::kvs,_,r=>by
  rw[zj]at r
  cases r with
  | @cons a b as bs h t=>
   obtain⟨rs,c,q⟩:=Ig (P:=P) (w:=w) t;obtain⟨b1,b2⟩:=b;exact⟨(p.1,b2)::rs,⟨Ir h.1,rfl,c⟩,.cons ⟨rfl,h.2⟩ q⟩
noncomputable def aaF(trs:List (TE×TE)):TE:=λσ H Q=>∀p,H p=none->Np trs σ (upd H p (.dK [])) λps H2=>H2 p=some (.dK [])/\∃kvs:List (Key×V),ps=kvs.map (λkv=>(kV kv.1,kv.2))/\kvs.length<=15/\Q (.ref p) (upd H2 p (.dK (oX [] kvs)))
def Wf{X:Cx}{pos:Pos}{aa:List (Option Expr)}{ab:List Expr}{ac:List (TE×TE)}(h:PPs X pos aa ab ac)(ae:aa.all (·.isSome)=true)(hl:aa.length=ab.length)(h0:aa≠[])
  (af:aa.length<=15):PE X (.Dict aa ab pos) (aaF ac):=by
 intro pins s σ H Q I q;have hn:=I.hok.fresh (ze s.heap.objs.size);have I1:=I.laid (a:=s.heap.objs.size) (o:=.dK []) (h':=s.heap.push {cls:=.type "dict",data:=.dict #[]}) (t':=s.toks) (λ_ _ q=>zd _ q) (ze _) (QF s.heap I.big);refine wpAny_Dict_walk (knd:=jm X.prog X.w) ae hl h0 af (thn (h pins _ σ _ _ I1 (q _ hn)) λws s2 ⟨ps,H2,I2,rel,e,kvs,ep,lk,q2⟩=>?_);subst ep;obtain⟨rs,c,rk⟩:=Ig (P:=X.prog) (w:=X.w) rel;obtain⟨z,hd,ag,r0,dd⟩:=acp I2.hok e;cases r0;refine⟨rs,c,dd,λh' ad hs=>⟨.ref s.heap.objs.size,_,?_,rfl,q2⟩⟩
 have hz:(oX [] kvs).length<=sizeLine:=by
  have h1:=Bu kvs [];rw[yf]at h1;rw[zc];lia
 have he:∃q,h'.get? s.heap.objs.size=some q:=let⟨q,_,_,hq,_⟩:=ad;⟨q,hq⟩
 exact Ph I2 (by rw[e];exact True.intro) hs he (YM hz hd (rk.merge .nil) ad)
structure M1(X:Cx)(o:Expr)(m:Str)(apos:Pos)(e:Expr)(cpos:Pos):Prop where
 base:attributeBase o m X.env (eval o X.env)=eval o X.env
 few:((backTo cpos (starEach [e] X.env)).all (λx=>!x.1) && (backToKw cpos (keywordEach [] X.env)).all (λx=>x.1.isSome)
  && decide (([e]:List Expr).length+([]:List Keyword).length+(if([]:List Keyword).isEmpty then 0 else 1)<30))=true
 line:(apos.endLine==cpos.line)=true
 trees:backTo cpos (starEach [e] X.env)=[(false,eval e X.env)]
structure M2(X:Cx)(o:Expr)(m:Str)(apos:Pos)(e f:Expr)(cpos:Pos):Prop where
 base:attributeBase o m X.env (eval o X.env)=eval o X.env
 few:((backTo cpos (starEach [e,f] X.env)).all (λx=>!x.1) && (backToKw cpos (keywordEach [] X.env)).all (λx=>x.1.isSome)
  && decide (([e,f]:List Expr).length+([]:List Keyword).length+(if([]:List Keyword).isEmpty then 0 else 1)<30))=true
 line:(apos.endLine==cpos.line)=true
 trees:backTo cpos (starEach [e,f] X.env)=[(false,eval e X.env),(false,eval f X.env)]
noncomputable def IsD(H:Hp)(a:Addr):Prop:=(∃kvs,Rd H a (.dK kvs))\/∃kvs,Rd H a (.dT kvs)
def abw{X:Cx}{pins:List (Addr×Obj)}{σ:St}{H:Hp}{s:Shared}{a:Addr}(I:Inv X pins σ H s)(d:IsD H a):
  s.TypeIs (.ref a) "dict" /\(∀b,Value.ref a=.ref b->∃z,s.heap.get? b=some z/\z.dict=none)/\(a==sysModules)=false:=by
 rcases d with⟨kvs,e⟩|⟨kvs,e⟩
 ·obtain⟨_,hd,vs,_,dd⟩:=PB I.hok e
  refine⟨dd.typeIs,λb q=>?_,hd⟩;cases q;obtain⟨z,_,_,h1,h2,_⟩:=dd;exact⟨z,h1,h2.2.1⟩
 ·obtain⟨_,hd,xs,_,dd⟩:=OD I.hok e
  refine⟨dd.typeIs,λb q=>?_,hd⟩;cases q;obtain⟨z,_,_,h1,h2,_⟩:=dd;exact⟨z,h1,h2.2.1⟩
section
variable{X:Cx}{pins:List (Addr×Obj)}{σ:St}{H:Hp}{s:Shared}{a:Addr}{y d:V}{u r:Value}{o:Option V}{A:Around}{E:Value->Shared->Prop}
def ack{Q:Value->Shared->Prop}(hu:A.units+1<cLine)(I:Inv X pins σ H s)(g:Sx H a y o)(ry:RelV y u)(rd:RelV d r)(h:∀w' s',Inv X pins σ H s'->RelV (o.getD d) w'->Q w' s'):
  wpAny (model X.prog X.w) A (call (.builtin "dict.get") [.ref a,u,r]) Q E s:=by
 rcases g with⟨kvs,k,e,q,l⟩|⟨kvs,k,b,e,q,eb,l⟩
 ·subst q
  obtain⟨z,hd,vs,rel,dd⟩:=PB I.hok e;refine call_meetsIn zzG dd.typeIs PySem.F.entry_dict_get (PySem.F.args_dict_get_3 _ _ _) (meets_dict_get_default (jm X.prog X.w) a (Ir ry) hd r) ⟨_,dd.mapOf,h _ _ (I.tok _) ?_⟩;rw[l];exact(rel.val k).getD rd
 ·subst q
  cases (show u=Value.ref b from ry);obtain⟨z,hd,xs,rel,dd⟩:=OD I.hok e;refine call_meetsIn zzG dd.typeIs PySem.F.entry_dict_get (PySem.F.args_dict_get_3 _ _ _) (meetsH_dict_get_default (tupleKind (jm X.prog X.w)) a b hd r) ⟨tupleKind_room_in1 hu,k,xs,HS I.hok eb,dd,h _ _ (I.tok _) ?_⟩;rw[l];exact(rel.val k).getD rd
end
noncomputable def YB(td ty tx:TE):TE:=λσ H Q=>td σ H λx H1=>∃a,x=.ref a/\IsD H1 a/\ty σ H1 λy H2=>tx σ H2 λz H3=>∃o,Sx H3 a y o/\Q (o.getD z) H3
section
variable{X:Cx}{o e f:Expr}{apos cpos:Pos}{td ty tx:TE}
def Xg(hu:X.A.units+1<cLine)(ho:PE X o td)(he:PE X e ty)(hf:PE X f tx)(m:M2 X o "get" apos e f cpos):PE X (.Call (.Attribute o "get" apos) [e,f] [] cpos) (YB td ty tx):=by
 intro pins s σ H Q I h;refine wpAny_Call_method m.base m.few m.line PySem.F.plainAttrs_dict zzG PySem.F.type_dict_get (thn (ho pins s σ H _ I h) λu s1 ⟨x,H1,I1,rx,a,ex,d,q1⟩=>?_);subst ex;obtain rfl:u=Value.ref a:=rx;obtain⟨t1,t2,_⟩:=abw I1 d;refine⟨t1,t2,?_⟩;rw[m.trees]
 refine Calls.callWith_builtin rfl (Calls.evalArgs_plain (Calls.spliced_cons (thn (he pins s1 σ H1 _ I1 q1) λiv s2 ⟨y,H2,I2,ry,q2⟩=>
  Calls.spliced_cons (thn (hf pins s2 σ H2 _ I2 q2) λfv s3 ⟨z,H3,I3,rz,ov,g,q3⟩=>Calls.spliced_nil ?_))))
 exact ack hu I3 g ry rz λw' s4 I4 q=>⟨_,H3,I4,q,q3⟩
end
end L2
namespace L2
open PySem PySem.Spec PyProof.Rows
structure Sy(K:Fg_)(x qual:Str)(st:Stmt)(f:Addr)(fd:FuncData)(dvs:List V):Prop where
 ex:∃(oc:Value)(od:Option Addr)(Td:Addr)(kV doc pm:Value)(an:Option Addr)(cdv ct:Value)(osl:Array (Option Value))(ot:Obj)(its:List Value)(nt:Nat),
  fd=PySem.W.fnOf x qual (jR st) (iK st) (fP st) (.ref Td) kV doc pm an cdv ct/\K.lookup f=some ⟨oc,od,.func fd,osl⟩/\PySem.W.codeIn K cdv qual=true/\K.lookup Td=some ot/\ot.data=.seq its.toArray nt/\Vals dvs its
 kp:PySem.W.keepIn K (.ref f)=true
section
variable{P:Program}{w:World}{K:Fg_}{mg:Str->Option Value}{base:Heap}
def Sy.ok{x qual:Str}{st:Stmt}{f:Addr}{fd:FuncData}{N ps:List Str}{k:Nat}{sp:Sp}{dvs:List V}(F:Sy K x qual st f fd dvs)(S:gb N ps (fP st))(len:∀vs H Q E,sp vs H Q E->vs.length=ps.length)
  (aa:∀(z:Value)(A:Around)(outer:List Env)(s:Shared)(H:Hp)(vs:List V)(Q:VK)(E:XK),nY k (A.deeper (envOfC qual (fP st) s.heap.objs.size f z))->sp vs H Q E->
   ∃t,PSs (pJ CX0 P w K mg base N qual (fP st) f z A outer s H E).nox (iK st) t/\t {nx:=λ_ H'=>Q .non H',rt:=Q} (start N vs) H):ji P w K mg base CX0 (k+1) f fd ps sp:=by
 obtain⟨oc,od,Td,kV,ae,pm,an,z,ct,ad,ot,its,nt,rfl,lk,ac,_⟩:=F.ex;refine Yt lk ac S len λA outer s H vs Q E hr ab=>?_;obtain⟨t,h,q⟩:=aa z A outer s H vs Q E hr ab;exact⟨t,h.nox,q⟩
def Sy.okX{x qual:Str}{st:Stmt}{f:Addr}{fd:FuncData}{N ps:List Str}{k:Nat}{sp:Sp}{dvs:List V}(F:Sy K x qual st f fd dvs)(S:gb N ps (fP st))(len:∀vs H Q E,sp vs H Q E->vs.length=ps.length)
  (z:∀(q:Value)(A:Around)(outer:List Env)(s:Shared)(H:Hp)(vs:List V)(Q:VK)(E:XK),nY k (A.deeper (envOfC qual (fP st) s.heap.objs.size f q))->sp vs H Q E->
   ∃t,PSs (pJ (CX1 P w) P w K mg base N qual (fP st) f q A outer s H E) (iK st) t/\t {nx:=λ_ H'=>Q .non H',rt:=Q} (start N vs) H):ji P w K mg base (CX1 P w) (k+1) f fd ps sp:=by
 obtain⟨oc,od,Td,kV,ad,pm,an,q,ct,ac,ot,its,nt,rfl,lk,ab,_⟩:=F.ex;exact Yt lk ab S len λA outer s H vs Q E hr aa=>z q A outer s H vs Q E hr aa
def Fun.okv{x qual:Str}{st:Stmt}{f:Addr}{fd:FuncData}{N ps:List Str}{k:Nat}{sp:Sp}(F:Fun K x qual st f fd)(S:gb N ps (fP st))
  (q:∀(cdv:Value)(A:Around)(outer:List Env)(s:Shared)(H:Hp)(vs:List V)(Q:VK)(E:XK),nY k (A.deeper (envOfC qual (fP st) s.heap.objs.size f cdv))->sp vs H Q E->
   ∃t,PSs (pJ CX0 P w K mg base N qual (fP st) f cdv A outer s H E).nox (iK st) t/\t {nx:=λ_ H'=>Q .non H',rt:=Q} (start N vs) H) (len:∀vs H Q E,sp vs H Q E->vs.length=ps.length:=by walk_at "v"):ji P w K mg base CX0 (k+1) f fd ps sp:=F.ok S len q
def Sy.okv{x qual:Str}{st:Stmt}{f:Addr}{fd:FuncData}{N ps:List Str}{k:Nat}{sp:Sp}{dvs:List V}(F:Sy K x qual st f fd dvs)(S:gb N ps (fP st))
  (q:∀(cdv:Value)(A:Around)(outer:List Env)(s:Shared)(H:Hp)(vs:List V)(Q:VK)(E:XK),nY k (A.deeper (envOfC qual (fP st) s.heap.objs.size f cdv))->sp vs H Q E->
   ∃t,PSs (pJ CX0 P w K mg base N qual (fP st) f cdv A outer s H E).nox (iK st) t/\t {nx:=λ_ H'=>Q .non H',rt:=Q} (start N vs) H) (len:∀vs H Q E,sp vs H Q E->vs.length=ps.length:=by walk_at "v"):ji P w K mg base CX0 (k+1) f fd ps sp:=F.ok S len q
def Sy.binds{x qual:Str}{st:Stmt}{f:Addr}{fd:FuncData}{ps:List Str}{dvs:List V}(F:Sy K x qual st f fd dvs)(n:Nat)
  (h:∀(Td:Addr)(kV q pm:Value)(an:Option Addr)(z ct:Value)(its us:List Value),its.length=dvs.length->(us++its.drop n).length=ps.length->
   ∃k,bindArgs (PySem.W.fnOf x qual (jR st) (iK st) (fP st) (.ref Td) kV q pm an z ct) ⟨us,[]⟩=(seqItems? (.ref Td)>>=k)/\k (some its.toArray)=pure (ps.zip (us++its.drop n))):∃ds,Binds K fd ps ds/\Vals (dvs.drop n) ds:=by
 obtain⟨oc,od,Td,kV,q,pm,an,z,ct,ab,ot,its,nt,rfl,lk,ac,lt,aa,hv⟩:=F.ex;refine⟨its.drop n,λs us X hl=>?_,hv.drop n⟩;obtain⟨k,e1,e2⟩:=h Td kV q pm an z ct its us hv.length.symm hl;exact PySem.W.binds_K X rfl lt aa e1 e2
def Ow{x qual:Str}{st:Stmt}{f Td:Addr}{oc:Value}{od an:Option Addr}{aa:Array (Option Value)}{kV z pm q ct:Value}{dvs:List V}{ot:Obj}{its:List Value}{nt:Nat}(l:K.lookup f=some ⟨oc,od,.func (PySem.W.fnOf x qual (jR st) (iK st) (fP st) (.ref Td) kV z pm an q ct),aa⟩)
  (c:PySem.W.codeIn K q qual=true) (k:PySem.W.keepIn K (.ref f)=true) (lt:K.lookup Td=some ot) (hd:ot.data=.seq its.toArray nt) (hv:Vals dvs its):Sy K x qual st f (PySem.W.fnOf x qual (jR st) (iK st) (fP st) (.ref Td) kV z pm an q ct) dvs:=
 ⟨⟨oc,od,Td,kV,z,pm,an,q,ct,aa,ot,its,nt,rfl,l,c,lt,hd,hv⟩,k⟩
end
structure abI(K:Fg_)(C:Addr)(m:Str)(f:Addr):Prop where
 ga:PySem.W.specialIn K (.ref C) "__getattribute__" =some (some (.builtin "type.__getattribute__"))
 rd:PySem.W.readsIn K C (.type "type")=true
 fi:PySem.W.findCls K (.ref C) (.type "type") m=some (.val (.ref f))
section
variable{X:Cx}{CX:CXT}{k:Nat}{f C:Addr}{fd:FuncData}{ps ks:List Str}{sp:Sp}{dvs:List V}{ds:List Value}{E:XK}{x m:Str}{p pos apos:Pos}{e o:Expr}{es:List Expr}{ta:TE}{t tk:TA}{kws:List Keyword}
def mZ{pl:Sem Bool}(Z:abI X.K C m f)(F:ji X.prog X.w X.K X.mg X.base CX k f fd ps sp)(hr:nY k X.A)(hg:Gl X x)(hm:X.mg x=some (.ref C))(hk:PySem.W.keepIn X.K (.ref f)=true)(hb:Binds X.K fd ps ds)(hd:Vals dvs ds)(hx:xO CX X E)
  (ha:PA X (e::es) t) (z:(x==("__debug__" :Str))=false:=by decide) (he:starEach (e::es) X.env=(false,eval e X.env)::starEach es X.env:=by rfl) (hpl:(backTo pos (starEach es X.env)).any (·.1)=false:=by rfl)
  (ht:eval (.Call (.Attribute (.Name x p) m apos) (e::es) [] pos) X.env=(do
   let ov<-eval (.Name x p) X.env
   standAt apos.atName
   let(f,first)<-holding [ov] (getMethod ov m pl)
   callWith pos f first (backTo pos (starEach (e::es) X.env)) (backToKw pos (keywordEach [] X.env))):=by rfl):
  PE X (.Call (.Attribute (.Name x p) m apos) (e::es) [] pos) (Rc sp dvs E t):=by
 intro pins s σ H Q I h;refine zzH (pl:=pl) (nM I hg hm ?_ z) ht;refine PySem.W.method_cls I.kIn Z.ga (PySem.W.cls_value I.kIn Z.rd Z.fi rfl ?_);have I':Inv X pins σ H {s with toks:=s.toks+1}:=I.tok _;refine yI (first:=[]) (h₀:=X.base) I.ok.mod.kin hk (thn (ha pos pins _ σ H _ I' h) λus s1 ⟨vs,H1,I1,r,q⟩=>⟨I1.kIn,?_⟩) he hpl;exact Tt F hr hb hd hx I1 r q
inductive WR(X:Cx)(CX:CXT)(m:Str):List (Addr×Sp)->Prop
 |nil:WR X CX m []
 |cons {C f:Addr} {fd:FuncData} {ps:List Str} {sp:Sp} {k:Nat} {r:List (Addr×Sp)} (c:Cls X.K C) (hm:Meth X.K C m f) (F:ji X.prog X.w X.K X.mg X.base CX k f fd ps sp) (hr:nY k X.A) (hb:Binds X.K fd ps []) (t:WR X CX m r):WR X CX m ((C,sp)::r)
def WR.get{tab:List (Addr×Sp)}(T:WR X CX m tab){C:Addr}{sp:Sp}(h:(C,sp)∈tab):∃f fd ps k,Cls X.K C/\Meth X.K C m f/\ji X.prog X.w X.K X.mg X.base CX k f fd ps sp/\nY k X.A/\Binds X.K fd ps []:=by
 induction T with
 |nil=>cases h
 |cons c hm F hr hb t ih=>
  rcases zh.mp h with z|z
  ·cases z
   exact⟨_,_,_,_,c,hm,F,hr,hb⟩
  ·exact ih z
noncomputable def Ql(tab:List (Addr×Sp))(m:Str)(E:XK)(ta:TE)(t:TA):TE:=λσ H Q=>ta σ H λx H1=>∃a C dx fs sp,x=.ref a/\H1 a=some (.ins C dx fs)/\(C,sp)∈tab/\fs.lookup m=none/\t σ H1 λvs H2=>sp (x::vs) H2 Q E
def Vr{pl:Sem Bool}{tab:List (Addr×Sp)}(he:PE X o ta)(T:WR X CX m tab)(hx:xO CX X E)
  (ht:eval (.Call (.Attribute o m apos) [] [] pos) X.env=(do
   let ov<-eval o X.env
   standAt apos.atName
   let(f,first)<-holding [ov] (getMethod ov m pl)
   callWith pos f first (backTo pos (starEach [] X.env)) (backToKw pos (keywordEach [] X.env))):=by rfl):
  PE X (.Call (.Attribute o m apos) [] [] pos) (Ql tab m E ta Ka):=by
 intro pins s σ H Q I h;refine zzH (pl:=pl) (thn (he pins s σ H _ I h) λu s1 ⟨y,H1,I1,rx,a,C,dx,fs,sp,ex,ea,z,l,q⟩=>?_) ht;subst ex;obtain rfl:u=Value.ref a:=rx;obtain⟨f,fd,ps,k,c,hm,F,hr,hb⟩:=T.get z;refine RX I1 ea c hm l ?_;exact PySem.W.callWith_K0 (first:=[.ref a]) I1.kIn hm.kp (Tt (us:=[.ref a]) (vs:=[.ref a]) (dvs:=[]) (ds:=[]) F hr hb .nil hx I1 (.cons rfl .nil) q)
variable{g:List Value->List Value->List Value}{gV:List V->List V->List V}
end
theorem JD(f:Str)(v:V):∀{fs:List (Str×V)},(fs.map (·.1)).contains f=false->Ec f v fs=fs++[(f,v)]
 |[],_=>rfl
 |(g,x)::r,h=>by
  rw[zj,y9]at h;have h1:¬g=f:=λe=>by rw[e]at h;simp at h
  have h2:(r.map (·.1)).contains f=false:=(Bool.or_eq_false_iff.mp h).2;show(if g=f then(g,v)::r else(g,x)::Ec f v r)=_;rw[zk h1,JD f v h2];rfl
structure acs(K:Fg_)(C:Addr):Prop where
 cl:Cls K C
 ha:PySem.W.findIn K (.ref C) "__class__" =some (some (.builtin "object.__class__"))
 hn:PySem.W.specialIn K (.builtin "object.__class__") "__get__" =some (some (.builtin "getset_descriptor.__get__"))
 htk:PySem.W.takesIn K (.builtin "object.__class__")=some true
 hm:PySem.W.mroIn K C (.type "object")=some true
def acs.of{K:Fg_}{C a dx:Addr}{H:Hp}{fs:List (Str×V)}(z:acs K C)(h:H a=some (.ins C dx fs)):Nv K H (.ref a) (.ref C):=.ins h z.cl z.ha z.hn z.htk z.hm
end L2
namespace L2
open PySem PySem.Spec PyProof.Rows
noncomputable def signs(x:Str):List V:=x.cps.toList.map λc=>V.str ⟨#[c]⟩
noncomputable def aaY(x:Str):It:=⟨λi _=>i<x.cps.size,λi H v H'=>H'=H/\(signs x)[i]? =some v,λi _=>x.cps.size<=i⟩
def Xu{P:Program}{w:World}{K:Fg_}{tg:Expr}{ty:String}(ab:ty= "str_ascii_iterator" \/ty= "str_iterator") (it:Addr) (x:Str) (t:Tok):Turn P w K tg (aaY x) [it] it (λi h=>h.IsStrIter it ty x t i) where
 mem:=by simp
 obj:=λi h st b hb=>by
  have e:b=it:=by simpa using hb
  subst e;obtain⟨o,e,c,d⟩:=st;exact⟨o,e,λv z=>by rw[d]at z;cases z⟩
 keep:=λi h h' st k=>by
  obtain⟨o,e,r⟩:=st;exact⟨o,k it (by simp) o e,r⟩
 item:=by
  intro X hP hw hK hc i pins s σ H E I hf st hg;subst hP hw hK;have hi:i<x.cps.size:=hg;have hx:x.cps[i]? =some x.cps[i]:=Array.getElem?_eq_getElem hi
  have hs:(signs x)[i]? =some (.str ⟨#[x.cps[i]]⟩):=by
   unfold signs;rw[zE,Array.getElem?_toList,hx];rfl
  rcases ab with rfl|rfl
  ·refine wpAny_pyNext_ascii_item st hx λh' aa sb=>?_
   obtain⟨o,e,c,d⟩:=id aa;exact⟨_,rfl,TQ (s:={s with heap:=h',toks:=s.toks+1}) e c d (by decide) ⟨.str ⟨#[x.cps[i]]⟩,H,I.turnedN hf λb o hb q=>(sb.2 b (by simpa using hb)).trans q,⟨_,rfl⟩,⟨rfl,hs⟩,aa,λb hb=>(hf b hb).1⟩⟩
  ·refine wpAny_pyNext_wide_item st hx λh' aa sb=>?_
   obtain⟨o,e,c,d⟩:=id aa;exact⟨_,rfl,TQ (s:={s with heap:=h',toks:=s.toks+1}) e c d (by decide) ⟨.str ⟨#[x.cps[i]]⟩,H,I.turnedN hf λb o hb q=>(sb.2 b (by simpa using hb)).trans q,⟨_,rfl⟩,⟨rfl,hs⟩,aa,λb hb=>(hf b hb).1⟩⟩
 done:=by
  intro X hP hw hK hc i pins s σ H E I hf st hg;subst hP hw hK;have hx:x.cps[i]? =none:=Array.getElem?_eq_none hg;rcases ab with rfl|rfl
  ·exact wpAny_pyNext_ascii_end (I.ok.hd hc) st hx λh' eb=>⟨rfl,I.turnedN (t':=s.toks) hf λb o hb q=>eb b o (by simpa using hb) q⟩
  ·exact wpAny_pyNext_wide_end (I.ok.hd hc) st hx λh' eb=>⟨rfl,I.turnedN (t':=s.toks) hf λb o hb q=>eb b o (by simpa using hb) q⟩
 self:=λ_ _ _ _ _ st h=>by
  rcases ab with rfl|rfl
  ·exact wpAny_pyIter_striter_ascii st h
  ·exact wpAny_pyIter_striter_wide st h
section
variable{X:Cx}{K:Fg_}{tg:Expr}
noncomputable def aec(tl:TE):TI:=λσ H R=>tl σ H λx H1=>∃z,x=.str z/\R (aaY z) H1
def QJ{l:Expr}{tl:TE}(hl:PE X l tl):PI X tg l (aec tl):=by
 intro pins s σ H R I h;refine thn (hl pins s σ H _ I h) λv s1 ⟨x,H1,I1,r1,q1⟩=>?_;obtain⟨z,e,q⟩:=q1;subst e;obtain⟨t,rfl⟩:=r1
 have ab:∀(ty:String)(aa:ty= "str_ascii_iterator" \/ty= "str_iterator"),PIE X pins σ tg R (.ref s1.heap.objs.size) {s1 with heap:=s1.heap.push {cls:=.type ty,data:=.fields #[.str z t,.int 0 0]}}:=λty aa=>by
  refine⟨s1.heap.objs.size,[s1.heap.objs.size],_,_,H1,rfl,I1.kept (t':=s1.toks) λb o e=>zd _ e,Xu aa _ z t,⟨_,zN _ rfl,rfl,rfl⟩,λb hb=>?_,q⟩;have e:b=s1.heap.objs.size:=by simpa using hb
  subst e;exact I1.fpOk (ze _) (I1.hok.fresh (ze _))
 cases ha:z.cps.all (·<128)
 ·exact wpAny_pyIter_wide ha (ab _ (.inr rfl))
 ·exact wpAny_pyIter_ascii ha (ab _ (.inl rfl))
variable{σ:St}{H:Hp}{R:It->Hp->Prop}{tl:TE}{cap:List (Option Nat)}{g:TG}{tt:TT}{te:TE}{Q:VK}{x:Str}
def ap_iStr:aec tl σ H R=tl σ H λx H1=>∃z,x=.str z/\R (aaY z) H1:=rfl
def jC.str(Sσ:St->Prop)(p:V->Bool)(F:V->V)(h0:Sσ (pM σ cap))(hz:x.cps.size<=sizeLine)
  (hs:∀y∈signs x,∀(σ:St)(H5:Hp)(R1:St->VK)(R2:St->Hp->Prop),Sσ σ->Same H H5->(p y=true->∀q H6,Sσ q->Same H5 H6->R1 q (F y) H6)->(p y=false->∀q H6,Sσ q->Same H5 H6->R2 q H6)->
   g y σ H5 λq H4=>tt q H4 λb H5=>if b=true then te q H5 (R1 q)else R2 q H5)
  (k:∀D H',H D=Option.none->Same H H'->H' D=some (.lst (((signs x).filter p).map F))->Q (.ref D) H'):jC cap (aaY x) g tt te σ H Q:=λD hD=>by
 have hl:(signs x).length=x.cps.size:=by simp[signs]
 refine Ar (xs:=signs x) (aaY x) Sσ p F hD h0 (by lia) (λi y H' hy sm=>?_) (λH' sm=>?_) hs λH' s e=>k D H' hD s e
 ·have hi:i<(signs x).length:=(zv.mp hy).1
  exact⟨by show i<x.cps.size;lia,λz H2 hz=>⟨zt (hz.2.symm.trans hy),hz.1⟩⟩
 ·show x.cps.size<=_
  lia
noncomputable def acP:R2:=λx y H Q=>∃i j,x=.str i/\y=.str j/\Q (.bl (!decide (j.cps.toList<i.cps.toList))) H
def Av:OpR X (compareOp .LtE) acP:=by
 intro pins s σ H x y v u Q I rx z h;obtain⟨i,j,rfl,rfl,q⟩:=h;obtain⟨t,rfl⟩:=rx;obtain⟨t',rfl⟩:=z;exact PySem.P.le_str ⟨.bl _,H,I,rfl,q⟩
noncomputable def adh(neg:Bool):R2:=λy x H Q=>∃a o,x=.ref a/\Sx H a y o/\Q (.bl (if neg then !o.isSome else o.isSome)) H
def FP(hu:X.A.units+1<cLine):OpR X (compareOp .In) (adh false):=by
 intro pins s σ H y x v u Q I z rx h;obtain⟨a,o,rfl,g,q⟩:=h;cases rx;exact aek hu I g z λs' I'=>⟨.bl _,H,I',rfl,q⟩
def Nj(hu:X.A.units+1<cLine):OpR X (compareOp .NotIn) (adh true):=by
 intro pins s σ H y x v u Q I z rx h;obtain⟨a,o,rfl,g,q⟩:=h;cases rx;exact aaD hu I g z λs' I'=>⟨.bl _,H,I',rfl,q⟩
def Zw{o value:Expr}{f:Str}{ta tv:TE}{pos pos':Pos}(ha:PE X o ta)(hv:PE X value tv)(q:swapsWith value (some (.Attribute o f pos')) pos.line X.env=pure false)(z:X.K=K:=by rfl):PS X (.Assign [.Attribute o f pos'] value pos) (acr K ta tv f):=z▸acl ha hv q
variable{ta tv ty td tx:TE}{f:Str}{D:Ends}{C:Addr}{tab:List (Addr×Sp)}{m:Str}{E:XK}{t tk:TA}{sp:Sp}{dvs:List V}{gV:List V->List V->List V}
def ap_fldK:abS K ta f σ H Q=ta σ H λx H1=>∃a C dx fs v,x=.ref a/\H1 a=some (.ins C dx fs)/\Cls K C/\gD K C f/\fs.lookup f=some v/\Q v H1:=rfl
def ap_sFld:acr K ta tv f D σ H=tv σ H λy H1=>ta σ H1 λx H2=>∃a C dx fs,x=.ref a/\H2 a=some (.ins C dx fs)/\Cls K C/\gD K C f/\fs.length<1000/\D.nx σ (upd H2 a (.ins C dx (Ec f y fs))):=rfl
def ap_methD:Ql tab m E ta t σ H Q=ta σ H λx H1=>∃a C dx fs sp,x=.ref a/\H1 a=some (.ins C dx fs)/\(C,sp)∈tab/\fs.lookup m=none/\t σ H1 λvs H2=>sp (x::vs) H2 Q E:=rfl
def ap_make:abR C sp dvs E t σ H Q=t σ H λvs H1=>∀x dx,H1 x=none->H1 dx=none->dx≠x->sp (.ref x::(vs++dvs)) (upd (upd H1 dx (.own x)) x (.ins C dx [])) (λv H2=>v=.non/\Q (.ref x) H2) E:=rfl
def ap_dget2:YB td ty tx σ H Q=td σ H λx H1=>∃a,x=.ref a/\IsD H1 a/\ty σ H1 λy H2=>tx σ H2 λz q=>∃o,Sx q a y o/\Q (o.getD z) q:=rfl
def ap_dget:abB td ty σ H Q=td σ H λx H1=>ty σ H1 λy H2=>∃a v,x=.ref a/\Sx H2 a y (some v)/\Q v H2:=rfl
def ap_dput:Lj td ty tv D σ H=tv σ H λv H1=>td σ H1 λx H2=>ty σ H2 λy z=>∃a q,x=.ref a/\adb z a y v q/\D.nx σ q:=rfl
def ap_dnewK:Zi σ H Q=∀p,H p=none->Q (.ref p) (upd H p (.dK [])):=rfl
def ap_inD{q:Bool}{x y:V}:adh q y x H Q=∃a o,x=.ref a/\Sx H a y o/\Q (.bl (if q then !o.isSome else o.isSome)) H:=rfl
def ap_leS{i j:Str}:acP (.str i) (.str j) H Q=Q (.bl (!decide (j.cps.toList<i.cps.toList))) H:=propext ⟨fun⟨i',j',e1,z,q⟩=>by cases e1;cases z;exact q,λq=>⟨i,j,rfl,rfl,q⟩⟩
def ap_ixT{x y:V}:adB K x y H Q=∃p xs i v,x=.ref p/\y=.int i/\SqT K H p xs/\atI xs i=some v/\Q v H:=rfl
def ap_ixS{x y:V}:aeh x y H Q=∃z i c,x=.str z/\y=.int i/\z.length<=sizeLine/\atI z.cps.toList i=some c/\Q (.str ⟨#[c]⟩) H:=rfl
def ap_slT{x:V}{lo hi:Option Int}:adg K x lo hi H Q=∃a xs,x=.ref a/\SqT K H a xs/\¬(HT.sIx xs.length 0 lo=0/\HT.sIx xs.length xs.length hi=xs.length)/\∀p,H p=none->Q (.ref p) (upd H p (.tup (CK xs lo hi))):=rfl
def ap_rTupOf{p:Addr}:VG K [.ref p] H Q=∃ys,((SqL K H p ys/\∀l,H l=none->Q (.ref l) (upd H l (.tup ys)))\/(SqT K H p ys/\Q (.ref p) H)):=by simp[VG]
def ap_rIn{q:Bool}{x y:V}:rIn K q x y H Q=∃p xs,y=.ref p/\(SqL K H p xs\/SqT K H p xs)/\Hi x=true/\xs.all Hi=true/\Q (.bl (if q then !inV x xs else inV x xs)) H:=rfl
def ap_lenS{z:Str}:(fun(xs:List V)(H:Hp)(Q:VK)=>∃z,xs=[V.str z]/\z.length<=sizeLine/\Q (.int z.length) H) [.str z] H Q=(z.length<=sizeLine/\Q (.int z.length) H):=propext ⟨fun⟨q,e,r⟩=>by cases e;exact r,λr=>⟨z,rfl,r⟩⟩
end
end L2
namespace L2
open PySem PySem.W PySem.Spec PyProof.Rows
section
variable{key:Nat->Int}{n:Nat}
noncomputable def Dn(key:Nat->Int)(p:Array Nat)(m:Nat):Prop:=∀a b,a<b->b<m->key (p.getD b 0)<key (p.getD a 0)
end
noncomputable def But(D:Addr)(H H':Hp):Prop:=∀b u,b≠D->H b=some u->H' b=some u
def Same.seqT{K:Fg_}{H H':Hp}{a:Addr}{xs:List V}(e:Same H H')(h:SqT K H a xs):SqT K H' a xs:=h.elim (λh=>h.elim (λh=> .inl (.inl (e _ _ h))) fun⟨o,h⟩=> .inl (.inr ⟨o,e _ _ h⟩)) .inr
section
variable{K:Fg_}{a:Addr}{xs:List V}{g:TG}{te:TE}{σ:St}{H:Hp}{Q:VK}{cap:List (Option Nat)}
def jC.listE(Sσ:St->Prop)(F:Nat->V->Hp->Prop)(hS:SqL K H a xs)(h0:Sσ (pM σ cap))(hz:xs.length<=sizeLine)
  (hs:∀D i x,xs[i]? =some x->∀(σ:St)(H5:Hp)(R:St->VK),Sσ σ->Same H H5->H D=Option.none->(∃acc,H5 D=some (.lst acc))->(∀v σ4 H6,Sσ σ4->Same H5 H6->(∀H',But D H6 H'->F i v H')->R σ4 v H6)->
   g x σ H5 λσ4 H4=>te σ4 H4 (R σ4))
  (k:∀D H' acc,H D=Option.none->Same H H'->H' D=some (.lst acc)->acc.length=xs.length->(∀i v,acc[i]? =some v->F i v H')->Q (.ref D) H'):jC cap (Itl K a) g Eb te σ H Q:=by
 intro D hD;refine⟨λi m acc σ H2=>m=xs.length - i/\i<=xs.length/\Sσ σ/\Same H H2/\acc.length=i/\∀j v,acc[j]? =some v->∀H',But D H2 H'->F j v H',⟨xs.length,rfl,zQ _,h0,fO hD,rfl,λj v e=>by simp at e⟩,?_⟩;rintro i m acc σ1 H2 ⟨rfl,hi,hσ,sm,ac,hF⟩ hA;by_cases ab:i<xs.length
 ·have hx:xs[i]? =some xs[i]:=by simp[ab]
  refine .inr ⟨⟨xs,xs[i],sm.seq hS,hx⟩,λy H3 hy=>?_⟩;obtain rfl:H3=H2:=hy.1;obtain rfl:y=xs[i]:=zt ((hy.2 xs (sm.seq hS)).symm.trans hx);simp only[ap_noIf,if_true];refine hs D i _ hx σ1 H3 _ hσ sm hD ⟨_,hA⟩ λv σ4 H6 ah s6 ag=>?_;have ad:=s6 _ _ hA;refine⟨acc,ad,by lia,xs.length - (i+1),by lia,rfl,ab,ah,(sm.trans s6).upd hD,by rw[zm,ac];rfl,λj u z H' hb=>?_⟩;have aa:But D H6 H':=λb o q e=>hb b o q ((fX q).trans e);by_cases af:j<acc.length
  ·rw[zZ af]at z
   exact hF j u z H' λb o q e=>aa b o q (s6 _ _ e)
  ·rw[yn (by lia)]at z
   have ae:j - acc.length=0:=by
    have:=(zv.mp z).1;simp at this;lia
   rw[ae]at z;cases z;obtain rfl:j=i:=by lia
   exact ag H' aa
 ·obtain rfl:i=xs.length:=by lia
  exact .inl ⟨⟨xs,sm.seq hS,ze _⟩,k D H2 acc hD sm hA ac λj v e=>hF j v e H2 λb o _ e=>e⟩
def jC.tupF(Sσ:St->Prop)(F:V->V)(hS:SqT K H a xs)(h0:Sσ (pM σ cap))(hz:xs.length<=sizeLine)
  (hs:∀x∈xs,∀(σ:St)(H5:Hp)(R:St->VK),Sσ σ->Same H H5->(∀σ4 H6,Sσ σ4->Same H5 H6->R σ4 (F x) H6)->g x σ H5 λσ4 H4=>te σ4 H4 (R σ4))
  (k:∀D H',H D=Option.none->Same H H'->H' D=some (.lst (xs.map F))->Q (.ref D) H'):jC cap (Itt K a) g Eb te σ H Q:=by
 intro D hD
 have z:=Ar (te:=te) (tt:=Eb) (g:=g) (σ0:=pM σ cap) (Q:=Q) (Itt K a) Sσ (λ_=>true) F hD h0 hz (λi x H5 hx q=>⟨⟨xs,x,q.seqT hS,hx⟩,λy H' hy=>⟨zt ((hy.2 xs (q.seqT hS)).symm.trans hx),hy.1⟩⟩) (λH5 q=>⟨xs,q.seqT hS,ze _⟩)
  (λx hx σ5 H5 R1 R2 hσ q k1 k2=>by
   simp only[ap_noIf,if_true];exact hs x hx σ5 H5 R1 hσ q (k1 rfl)) (λH' q e=>k D H' hD q (by rw[lu]at e;exact e))
 exact z
end
end L2
namespace L2
open PySem PySem.Spec PyProof.Rows
structure Mk0(K:Fg_)(C:Addr):Prop where
 makes:PySem.W.makesIn K C=true
 init:PySem.W.findIn K (.ref C) "__init__" =some (some (.builtin "object.__init__"))
 kp:PySem.W.keepIn K (.ref C)=true
end L2
namespace PySem
open PySem.Spec PyProof.Rows
end PySem
namespace L2
open PySem PySem.W PySem.Spec PyProof.Rows
section
variable{X:Cx}
def aam(ns:List Int):(List.range ns.length).map (λi=>ns.getD i 0)=ns:=by
 refine List.ext_getElem (by simp) λi h1 h2=>?_;simp at h1⊢;simp[h1]
noncomputable def aad:List V->Hp->VK->Prop:=λxs H Q=>∃(a:Addr)(S:Int->Bool)(n:Nat),xs=[.ref a]/\H a=some (.set S n)/\Q (.int n) H
def Ub:lX X (.builtin "len") aad:=by
 intro pins s σ H xs us Q I r h;obtain⟨a,S,n,rfl,hq,q⟩:=h;obtain⟨u,rfl,r1⟩:=vals1 r;cases r1;have ho:=I.hok a _ hq;obtain⟨o,es,ep,t,e1,z,e3,_,_,e4,e5,e6⟩:=(show s.heap.SetOf (intKind X.prog X.w) a S n from ho);refine call_len_set e1 z e3 e5 (by have:es.size<4096:=e4;lia) ?_;rw[e6];exact⟨.int n,H,I.kept (t':=s.toks+1+1) λb o e=>e,⟨_,rfl⟩,q⟩
def ap_lenSet{a:Addr}{H:Hp}{Q:VK}:aad [.ref a] H Q=∃(S:Int->Bool)(n:Nat),H a=some (.set S n)/\Q (.int n) H:=by simp[aad]
end
end L2
namespace L2
open PySem PySem.Spec PyProof.Rows
theorem Wy{α β:Type}{f:α->Option β}{g:α->β}:∀{l:List α},(∀k∈l,f k=some (g k))->l.filterMap f=l.map g
 |[],_=>rfl
 |x::l,h=>by
  rw[zzo,h x zi,zj,Wy λk q=>h k (zr _ q)]
def WP(items:Array Value):(slicePick items none none (some (-1))).toList=items.toList.reverse:=by
 unfold slicePick sliceBounds sliceRange;simp only[Option.getD_some];rw[zk (by decide),zk (by decide)];by_cases q:items.size=0
 ·have:items.toList=[]:=List.length_eq_zero_iff.mp (by simpa using q)
  rw[this];simp[q]
 ·rw[zk (show¬(-1:Int)>0 by decide)]
  try rw[zk (show¬(-1:Int)>0 by decide)]
  rw[zp (by lia)];rw[show((items.size:Int) - 1 - -1 - -1 - 1)/ - -1=items.size by rw[show(- -1:Int)=1 from rfl,Int.ediv_one];lia,yU,List.toList_toArray,List.filterMap_map];refine List.ext_getElem? λi=>?_;by_cases hi:i<items.size
  ·have hm:List.filterMap ((λx=>items[x]?)∘λk:Nat=>((items.size:Int) - 1+ -1*(k:Int)).toNat) (List.range items.size)=(List.range items.size).map λk=>items.toList.getD (items.size - 1 - k) Value.none:=by
    refine Wy λk z=>?_;have z:=zzB.mp z;have e:((items.size:Int) - 1+ -1*(k:Int)).toNat=items.size - 1 - k:=by lia
    show items[((items.size:Int) - 1+ -1*(k:Int)).toNat]? =some _;rw[e];have:items.size - 1 - k<items.size:=by lia
    simp[this]
   rw[hm,zE,zzW hi,List.getElem?_reverse (by simpa using hi)];have h2:items.toList.length - 1 - i<items.toList.length:=by rw[zH];lia
   rw[zD h2];simp[show items.size - 1 - i<items.size by lia]
  ·have h1:(items.toList.reverse)[i]? =none:=yL (by simpa using hi)
   rw[h1];refine yL ?_;refine zF (List.length_filterMap_le _ _) ?_;rw[List.length_range];lia
def Xf{xs:List V}{us:List Value}(h:Vals xs us):Vals xs.reverse us.reverse:=by
 induction h with
 |nil=>exact .nil
 |cons r _ ih=>
  rw[List.reverse_cons,List.reverse_cons];exact ih.append (.cons r .nil)
section
variable{X:Cx}
noncomputable def VL(K:Fg_)(te ts:TE):TE:=λσ H Q=>te σ H λx H1=>ts σ H1 λy H2=>∃a xs,x=.ref a/\y=.int (-1)/\SqL K H2 a xs/\∀p,H2 p=none->Q (.ref p) (upd H2 p (.lst xs.reverse))
def ap_slRev{K:Fg_}{te ts:TE}{σ:St}{H:Hp}{Q:VK}:VL K te ts σ H Q=te σ H λx H1=>ts σ H1 λy H2=>∃a xs,x=.ref a/\y=.int (-1)/\SqL K H2 a xs/\∀p,H2 p=none->Q (.ref p) (upd H2 p (.lst xs.reverse)):=rfl
end
end L2
namespace L2
open PySem PySem.W PySem.Spec PySem.Calls PyProof.Rows
noncomputable def Ra(Pt:Addr)(H H':Hp):Prop:=∀b o,b≠Pt->H b=some o->H' b=some o
def Ra.of{q:Addr}{H H':Hp}(h:Same H H'):Ra q H H':=λb o _ e=>h b o e
def Ra.trans{q:Addr}{H H1 H2:Hp}(h:Ra q H H1)(k:Ra q H1 H2):Ra q H H2:=λb o n e=>k b o n (h b o n e)
end L2
namespace L2
open PySem PySem.W PySem.Spec PySem.Calls PyProof.Rows
structure adW(z TI TO i1 i2 i3 l1 l2 l3:Addr):Prop where
 zz:TI≠z/\TO≠z/\i1≠z/\i2≠z/\i3≠z/\l1≠z/\l2≠z/\l3≠z
 to:TI≠TO/\i1≠TO/\i2≠TO/\i3≠TO/\l1≠TO/\l2≠TO/\l3≠TO
 ii:i1≠i2/\i1≠i3/\i2≠i3
 j1:TI≠i1/\l1≠i1/\l2≠i1/\l3≠i1
 j2:TI≠i2/\l1≠i2/\l2≠i2/\l3≠i2
 j3:TI≠i3/\l1≠i3/\l2≠i3/\l3≠i3
end L2
namespace L2
open PySem PySem.W PySem.Spec PySem.Calls PyProof.Rows
section
variable{X:Cx}
def Ms{e st:Expr}{te ts:TE}{p2 pos:Pos}(he:PE X e te)(hs:PE X st ts):PE X (.Subscript e (.Slice none none (some st) p2) pos) (VL X.K te ts):=by
 intro pins s σ H Q I h;refine Subscript_ (thn (he pins s σ H _ I h) λv s1 ⟨x,H1,I1,r1,q1⟩=>?_);refine wpAny_Slice ?_;rw[evalPart_none];refine zq (zq ?_);show wpAny _ _ (eval st X.env) _ _ _;refine thn (hs pins s1 σ H1 _ I1 q1) λu z ⟨y,H2,I2,r2,a,xs,ex,ey,hx,q⟩=>?_;subst ex ey;cases r1;obtain⟨t,rfl⟩:=r2;have I4:Inv X pins σ H2 {z with heap:=z.heap.push {cls:=.type "slice",data:=.fields #[.none,.none,.int (-1) t]}}:=I2.kept (t':=z.toks) λb ob q=>zd _ q;obtain⟨its,r,ht,hz⟩:=I4.list hx;have aa:=r.length;show wpAny (model X.prog X.w) X.A (subscriptTail e (.Slice none none (some st) p2) (.ref a) (.ref z.heap.objs.size)) (EP X pins σ Q) X.xe {z with heap:=z.heap.push {cls:=.type "slice",data:=.fields #[.none,.none,.int (-1) t]}};refine tail_any (ops:=[.ref a,.ref z.heap.objs.size]) ht.isList.typeIs slot_list_getitem.lookup (wpAny_getItem_list_slice ht.isList (Heap.IsSliceOf.new ..) .none .none (.int _ _) (by decide) ?_ (by rw[zn]<;>lia)) (by with_unfolding_all rfl);refine⟨.ref _,_,I4.laid (t':=z.toks) (o:=.lst xs.reverse) (λb ob q=>zd _ q) (ze _) ?_,rfl,q _ (I4.hok.fresh (ze _))⟩;refine⟨by rw[zzp];exact hz,its.reverse,0,Xf r,?_⟩;rw[zN _ rfl];have e:=WP its.toArray;rw[List.toList_toArray]at e;rw[<-e,Array.toArray_toList]
def JF{K:Fg_}{e st:Expr}{te ts:TE}{p2 pos:Pos}(q:PE X e te)(z:PE X st ts)(hK:X.K=K:=by rfl):PE X (.Subscript e (.Slice none none (some st) p2) pos) (VL K te ts):=hK▸Ms q z
end
end L2
namespace L2
open PySem PySem.Spec PyProof.Rows
section
variable{prog:Program}{w:World}{A:Around}{E:Value->Shared->Prop}{h:Heap}{g:Array GenState}{d:Drawn}{t:Nat}{os:OsState}{a:Addr}{o:Obj}
 {nm q:Str} {C N:Addr} {bs bm bmB:List Value} {hdct:Bool} {sn:List Str} {sub:List Value} {ab:Bool} {col:Option Bool} {dd:Option Addr} {k0 k1 k2 k3 k5:Option Value} {B newId initId:String} {K:Fg_}
def PL{rest:List Value}{fI:Addr}{oI:Obj}{Q:Fin->Shared->Prop}(KX:K.In h)(F:ExcBaseFacts B newId initId bmB)(T:OwnTail h bmB bm)
  (z:h.get? C=some (excClassObj nm q C N bs bm hdct sn sub ab col dd k0 k1 k2 k3 k5 newId)) (hi:PySem.W.findIn K (.ref C) "__init__" =some (some (.ref fI))) (hf:h.get? fI=some oI) (ac:oI.cls=.type "function") (hz:rest.length<=sizeLine)
  (k:∀h',Heap.MadeExcOf h h' (h.objs.size+1) (.ref C) rest->codeAny (model prog w) A (Code.call (.ref fI) ⟨.ref (h.objs.size+1)::rest,[]⟩) (λr s'=>match r with|.ok (.ret v)=>v=.none/\Q (.done (.ret (.ref (h.objs.size+1)))) s'|.ok _=>False|.error x=>E x s') ⟨h',g,d,t,os⟩):
  wpAny (model prog w) A (Builtin.«type.__call__» ⟨.ref C::rest,[]⟩) Q E ⟨h,g,d,t,os⟩:=by
 have hM:=fun{M:Model}{A:Around}{E}{Q:Option String->Shared->Prop}(k:Q (some newId) ⟨h,g,d,t,os⟩)=>wpAny_madeBy_exc (M:=M) (A:=A) (E:=E) (Q:=Q) z k
 repeat (any_goals (first|assumption|(with_reducible refine zO z ?_)|with_reducible refine hM ?_|wp_step))
 refine codeAny_call_builtin_code (Code.quiet_builtin _ F.quiet) (wpAny_check_new_subT F T z (codeAny_exc_new_subT F T z ?_ hz));have e1:∀b o,h.get? b=some o->((h.push {cls:=Value.type "tuple",data:=Data.seq rest.toArray}).push {cls:=Value.ref C,data:=Data.fields #[Value.ref h.objs.size,Value.none,Value.none,Value.none,Value.bool false,Value.none]}).get? b=some o:=λb o e=>zd _ (zd _ e);have e2:((h.push {cls:=Value.type "tuple",data:=Data.seq rest.toArray}).push {cls:=Value.ref C,data:=Data.fields #[Value.ref h.objs.size,Value.none,Value.none,Value.none,Value.bool false,Value.none]}).get? (h.objs.size+1)=some {cls:=Value.ref C,data:=Data.fields #[Value.ref h.objs.size,Value.none,Value.none,Value.none,Value.bool false,Value.none]}:=yyc (by rw[zzy]) rfl;have e3:((h.push {cls:=Value.type "tuple",data:=Data.seq rest.toArray}).push {cls:=Value.ref C,data:=Data.fields #[Value.ref h.objs.size,Value.none,Value.none,Value.none,Value.bool false,Value.none]}).get? h.objs.size=some {cls:=Value.type "tuple",data:=Data.seq rest.toArray}:=zd _ (yyc rfl rfl);have mk:Heap.MadeExcOf h ((h.push {cls:=Value.type "tuple",data:=Data.seq rest.toArray}).push {cls:=Value.ref C,data:=Data.fields #[Value.ref h.objs.size,Value.none,Value.none,Value.none,Value.bool false,Value.none]}) (h.objs.size+1) (.ref C) rest:=⟨e1,yT (by lia),_,e2,yT (ze _),e3⟩;have k':=k _ mk;generalize((h.push {cls:=Value.type "tuple",data:=Data.seq rest.toArray}).push {cls:=Value.ref C,data:=Data.fields #[Value.ref h.objs.size,Value.none,Value.none,Value.none,Value.bool false,Value.none]})=h2 at*;have aa:=e1 _ _ z;have ad:=e1 _ _ hf;have LK:=yj (M:=model prog w) (KX.keeps e1) hi;have ae:(Value.ref C::bm).contains (.ref C)=true:=by simp
 repeat (any_goals (first|assumption|(with_reducible refine zO aa ?_)|(with_reducible refine zO e2 ?_)|(with_reducible refine y4 aa ?_;rw[ae])|with_reducible refine LK.at ?_|wp_step))
 unfold bindSpecial
 repeat (any_goals (first|assumption|(with_reducible refine zO ad ?_;rw[ac])|wp_step))
 refine codeAny_mono k' (λr s' hr=>?_)
 cases r with
 |error x=>exact hr
 |ok fl=>
  cases fl with
  |ret v=>
   obtain⟨rfl,hq⟩:=hr;refine zq ?_;dsimp only;rw[zk (by decide)];exact zq hq
  |next=>exact hr
  |brk=>exact hr
  |cont=>exact hr
def acL{rest:List Value}{fI:Addr}{oI:Obj}{Q:Value->Shared->Prop}(KX:K.In h)(F:ExcBaseFacts B newId initId bmB)(T:OwnTail h bmB bm)
  (z:h.get? C=some (excClassObj nm q C N bs bm hdct sn sub ab col dd k0 k1 k2 k3 k5 newId)) (hi:PySem.W.findIn K (.ref C) "__init__" =some (some (.ref fI))) (hf:h.get? fI=some oI) (aa:oI.cls=.type "function") (hz:rest.length<=sizeLine)
  (k:∀h',Heap.MadeExcOf h h' (h.objs.size+1) (.ref C) rest->codeAny (model prog w) (A.under (.builtin "type.__call__" ⟨.ref C::rest,[]⟩)) (Code.call (.ref fI) ⟨.ref (h.objs.size+1)::rest,[]⟩) (λr s'=>match r with|.ok (.ret v)=>v=.none/\Q (.ref (h.objs.size+1)) s'|.ok _=>False|.error x=>E x s') ⟨h',g,d,t,os⟩):
  wpAny (model prog w) A (call (.ref C) rest) Q E ⟨h,g,d,t,os⟩:=by
 refine zz7 (codeAny_of_tree ?_);rw[show(model prog w).den (Code.call (.ref C) ⟨rest,[]⟩)=callAny (.ref C) ⟨rest,[]⟩from by with_unfolding_all rfl];unfold callAny
 try dsimp only
 have hT:(⟨h,g,d,t,os⟩:Shared).TypeIs (.ref C) "type" :=⟨_,z,rfl⟩;have L:=tc_lookup
 repeat (any_goals (first|assumption|(with_reducible refine zO z ?_)|(with_reducible refine wpAny_load' z ?_)|wp_step))
 rw[tc_bind];refine zq ?_;dsimp only[callAny.plainCallee];refine zf (zq ?_);rw[zp (by decide)];refine zq ⟨rfl,codeAny_call_builtin_at (Code.quiet_builtin _ (by decide+kernel)) entry_typeCall (wpAny_check_type_call_sub z (PL KX F T z hi hf aa hz λh' mk=>codeAny_mono (k h' mk) λr s' hr=>?_))⟩
 cases r with
 |error x=>exact hr
 |ok fl=>cases fl<;>exact hr
def aap{tk:Tok}{z:Str}{t0:Value}{R:Result->Shared->Prop}(F:ExcBaseFacts B newId initId bmB)(T:OwnTail h bmB bm)(hC:h.get? C=some (excClassObj nm q C N bs bm hdct sn sub ab col dd k0 k1 k2 k3 k5 newId))
  (hx:h.get? a=some ⟨.ref C,none,.fields #[t0,.none,.none,.none,.bool false,.none], #[]⟩)
  (hq:∀h',h'=(h.push {cls:=Value.type "tuple",data:=Data.seq #[Value.str z tk]}).update a (Obj.mapFields λx=>x.setIfInBounds 0 (Value.ref h.objs.size))->R (.ok (.ret .none)) ⟨h',g,d,t,os⟩):
  codeAny (model prog w) A (.call (.builtin initId) ⟨[.ref a,.str z tk],[]⟩) R ⟨h,g,d,t,os⟩:=by
 refine codeAny_call_builtin F.init.plain F.initEntry (wpAny_check_init_subT F T hC hx rfl ?_)
 repeat (any_goals (first|assumption|(with_reducible refine zO hx ?_)|wp_step))
 split
 ·exact wpAny_letGo (zq (hq _ rfl))
 ·exact zq (zq (hq _ rfl))
def Xa{tk:Tok}{f:Str}{dx:Addr}{mA:Str->Option Value}{v:Value}{vs:Array Value}{Q:Fin->Shared->Prop}(KX:K.In h)(Zf:PySem.W.findIn K (.ref C) f=some none)(hC:h.get? C=some (excClassObj nm q C N bs bm true sn sub ab col dd k0 k1 k2 k3 k5 newId))
  (hx:h.get? a=some o) (hc:o.cls=.ref C) (hd:o.dict=some dx) (z:o.data=.fields vs) (hN:h.Ns1 dx mA) (hv:mA f=some v) (hq:Q (.done (.ret v)) ⟨h,g,d,t,os⟩):
  wpAny (model prog w) A (Builtin.«object.__getattribute__» ⟨[.ref a,.str f tk],[]⟩) Q E ⟨h,g,d,t,os⟩:=by
 have LK:=yj (M:=model prog w) KX Zf;have hN':h.Ns dx mA:=by obtain⟨o,es,ep,e1,e2,e3,e4,e5⟩:=hN;exact⟨o,es,ep,e1,e2,e3,e5⟩
 repeat (any_goals (first|assumption|(with_reducible refine zO hx ?_;rw[hc])|with_reducible refine LK.at ?_|wp_step))
 rw[z]
 try dsimp only
 unfold instanceDict
 repeat (any_goals (first|assumption|(with_reducible refine zO hx ?_;rw[hc])|with_reducible refine LK.at ?_|wp_step))
 rw[hd];refine zq ?_;unfold Builtin.ObjectAttr.inDict
 try dsimp only
 refine wpAny_nsGet (s:=⟨h,g,d,t,os⟩) hN' ?_;rw[hv]
 repeat (any_goals (first|assumption|wp_step))
def aaM{tk:Tok}{f:Str}{dx:Addr}{mA:Str->Option Value}{v:Value}{vs:Array Value}{R:Result->Shared->Prop}(KX:K.In h)(Zf:PySem.W.findIn K (.ref C) f=some none)(hC:h.get? C=some (excClassObj nm q C N bs bm true sn sub ab col dd k0 k1 k2 k3 k5 newId))(ad:bm.contains (.type "BaseException")=true)
  (hx:h.get? a=some o) (hc:o.cls=.ref C) (hd:o.dict=some dx) (aa:o.data=.fields vs) (hN:h.Ns1 dx mA) (hv:mA f=some v) (hq:R (.ok (.ret v)) ⟨h,g,d,t,os⟩):
  codeAny (model prog w) A (.call (.builtin "BaseException.__getattribute__") ⟨[.ref a,.str f tk],[]⟩) R ⟨h,g,d,t,os⟩:=by
 have ae:(Value.ref C::bm).contains (.type "BaseException")=true:=by rw[y9,ad,yyi]
 have hk:builtinKind "BaseException.__getattribute__" =some .slot:=by decide+kernel
 have z:splitId "BaseException.__getattribute__" =some ("BaseException", "__getattribute__"):=by decide+kernel
 have ac:=F.args_bexc_ga (.ref a) (.str f tk)
 have ck:∀{M:Model}{A':Around}{E':Value->Shared->Prop}{Q':Unit->Shared->Prop},Q' () ⟨h,g,d,t,os⟩->wpAny M A' (checkBuiltinCall "BaseException.__getattribute__" ⟨[.ref a,.str f tk],[]⟩) Q' E' ⟨h,g,d,t,os⟩:=by
  intro M A' E' Q' af;simp only[checkBuiltinCall,hk,z];refine zf ?_;unfold isInstance
  repeat (first|(with_reducible refine zO hx ?_;rw[hc])|(with_reducible refine y4 hC ?_;rw[ae])|wp_step)
  exact af
 exact codeAny_call_builtin (by decide+kernel) F.entry_bexc_ga (ck (Xa KX Zf hC hx hc hd aa hN hv hq))
def abo{f:Str}{dx:Addr}{mA:Str->Option Value}{v:Value}{vs:Array Value}{Q:Value->Shared->Prop}(KX:K.In h)(Z:acW K C)(Zf:PySem.W.findIn K (.ref C) f=some none)(hC:h.get? C=some (excClassObj nm q C N bs bm true sn sub ab col dd k0 k1 k2 k3 k5 newId))(ac:bm.contains (.type "BaseException")=true)
  (hx:h.get? a=some o) (hc:o.cls=.ref C) (hd:o.dict=some dx) (z:o.data=.fields vs) (hN:h.Ns1 dx mA) (hv:mA f=some v) (ad:∀id,v≠.builtin id) (hq:Q v ⟨h,g,d,t+1,os⟩):
  wpAny (model prog w) A (getAttr (.ref a) f true) Q E ⟨h,g,d,t,os⟩:=by
 have f3:=PySem.F.excAttr_ValueError.ga.bind (.ref a);have aa:(Value.builtin "BaseException.__getattribute__" ==Value.builtin "object.__getattribute__")=false:=by decide+kernel
 have ae:(onTheHeap (Value.ref C) && Value.builtin "BaseException.__getattribute__" ==Value.builtin "object.__getattribute__")=false:=by rw[aa];rfl
 have L1:=yj (M:=model prog w) KX Z.ga;have L2:=yj (M:=model prog w) KX Z.gh;unfold getAttr
 repeat (any_goals (first|assumption|(with_reducible refine zO hx ?_;rw[hc])|with_reducible refine L1.at ?_|with_reducible refine L2.at ?_|wp_step))
 refine aaM KX Zf hC ac hx hc hd z hN hv ?_
 repeat (any_goals (first|assumption|wp_step))
 cases v<;>first|exact zq hq|exact absurd rfl (ad _)
def Rx{M:Model}{Q:Unit->Shared->Prop}(T:OwnTail h [.type "ValueError",.type "Exception",.type "BaseException",.type "object"] bm) (hC:h.get? C=some (excClassObj nm q C N bs bm hdct sn sub ab col dd k0 k1 k2 k3 k5 newId))
  (hx:h.get? a=some o) (hc:o.cls=.ref C) (hq:Q () ⟨h,g,d,t,os⟩):wpAny M A (Builtin.ObjectAttr.refuseIfOverridden (.ref a) "__setattr__") Q E ⟨h,g,d,t,os⟩:=by
 have key:∀{tl:List Value},OwnTail h [.type "ValueError",.type "Exception",.type "BaseException",.type "object"] tl->∀(bd:Value->Option Unit×Unit->Sem (ForInStep (Option Unit×Unit)))(R:Option Unit×Unit->Shared->Prop),(∀b r,bd (.ref b) r=pure (ForInStep.yield (none,())))->
   wpAny M A (forIn [.type "ValueError",.type "Exception",.type "BaseException",.type "object"] (none,()) bd) R E ⟨h,g,d,t,os⟩->wpAny M A (forIn tl (none,()) bd) R E ⟨h,g,d,t,os⟩:=by
  intro tl T bd R hb hw
  induction T with
  |base=>exact hw
  |own _ _ _ _ ih=>
   rw[List.forIn_cons,hb];exact zf (zq ih)
 unfold Builtin.ObjectAttr.refuseIfOverridden typeOf
 repeat (any_goals (first|assumption|(with_reducible refine zO hx ?_;rw[hc])|with_reducible refine wpAny_mroOf_exc hC ?_|with_reducible refine zf ?_))
 refine zq (zf (wpAny_mroOf_exc hC (zf ?_)));rw[List.forIn_cons];refine zf (zq ?_)
 try dsimp only
 refine key T _ _ (λb r=>rfl) ?_
 have z:∀n,n= "ValueError" \/n= "Exception" \/n= "BaseException" ->classOwn (.type n) (Str.ofString "__setattr__")=pure none:=by
  rintro n (rfl|rfl|rfl)<;>with_unfolding_all rfl
 have o1:=z "ValueError" (by simp);have o2:=z "Exception" (by simp);have o3:=z "BaseException" (by simp);have o4:=F.own_object_setattr
 repeat (any_goals (first|assumption|wp_step))
def Yg{tk:Tok}{f:Str}{v:Value}{vs:Array Value}{Q:Fin->Shared->Prop}(KX:K.In h)(T:OwnTail h [.type "ValueError",.type "Exception",.type "BaseException",.type "object"] bm) (Zf:PySem.W.findIn K (.ref C) f=some none) (hC:h.get? C=some (excClassObj nm q C N bs bm true sn sub ab col dd k0 k1 k2 k3 k5 newId))
  (hx:h.get? a=some ⟨.ref C,none,.fields vs, #[]⟩) (hq:∀h' ac,(∀b o,b≠a->h.get? b=some o->h'.get? b=some o)->h'.get? a=some ⟨.ref C,some h.objs.size,.fields vs, #[]⟩->h'.Ns1 h.objs.size (λy=>if y=f then some v else none)->Q (.done (.ret .none)) ⟨h',g,d,ac,os⟩):
  wpAny (model prog w) A (Builtin.«object.__setattr__» ⟨[.ref a,.str f tk,v],[]⟩) Q E ⟨h,g,d,t,os⟩:=by
 have LK:=yj (M:=model prog w) KX Zf;unfold Builtin.«object.__setattr__»;dsimp only[List.isEmpty];rw[zk (by decide)];refine zf (Rx T hC hx rfl ?_);have aa:a<h.objs.size:=zu hx
 have e1:((h.push {cls:=Value.type "dict",data:=Data.dict #[]}).update a λo=>{cls:=o.cls,dict:=some h.objs.size,data:=o.data,slots:=o.slots}).get? h.objs.size=some {cls:=Value.type "dict",data:=Data.dict #[]}:=
  y8 _ (zK aa) (yyc rfl rfl)
 have e2:((h.push {cls:=Value.type "dict",data:=Data.dict #[]}).update a λo=>{cls:=o.cls,dict:=some h.objs.size,data:=o.data,slots:=o.slots}).get? a=some ⟨.ref C,some h.objs.size,.fields vs, #[]⟩:=
  yg _ (zd _ hx) rfl
 have e3:∀b o,b≠a->h.get? b=some o->((h.push {cls:=Value.type "dict",data:=Data.dict #[]}).update a λo=>{cls:=o.cls,dict:=some h.objs.size,data:=o.data,slots:=o.slots}).get? b=some o:=λb o hb e=>
  y8 _ (Ne.symm hb) (zd _ e)
 have n1:((h.push {cls:=Value.type "dict",data:=Data.dict #[]}).update a λo=>{cls:=o.cls,dict:=some h.objs.size,data:=o.data,slots:=o.slots}).Ns1 h.objs.size (λ_=>none):=⟨_, #[],0,e1,rfl,by intro e he;simp at he,by simp[UniqKeys],λ_=>rfl⟩
 repeat (any_goals (first|assumption|(with_reducible refine wpAny_nsSet1 (m:=λ_=>none) ?_ ?_)|(with_reducible refine zO hx ?_)|with_reducible refine LK.at ?_|wp_step))
 intro h' hn sb
 obtain ⟨o',es,ep,g1,g2,z⟩:=hn.count (ns:=[f]) (λy hy=>by
  by_cases e:y=f
  ·rw[e];simp
  ·exact absurd (zk e) hy)
 refine zf (wpAny_lookBehind g1 (by rw[g2];exact pastItsLine_dict (zF z (by simp))) (zq (hq h' _ (λb o hb e=>?_) ?_ hn)))
 ·rw[sb.2 b (zK (zu e))]
  exact e3 b o hb e
 ·rw[sb.2 a (zK aa)]
  exact e2
def abq{f:Str}{v:Value}{vs:Array Value}{Q:Unit->Shared->Prop}(KX:K.In h)(T:OwnTail h [.type "ValueError",.type "Exception",.type "BaseException",.type "object"] bm) (Zf:PySem.W.findIn K (.ref C) f=some none) (Zs:PySem.W.findIn K (.ref C) "__setattr__" =some (some (.builtin "object.__setattr__"))) (hC:h.get? C=some (excClassObj nm q C N bs bm true sn sub ab col dd k0 k1 k2 k3 k5 newId))
  (hx:h.get? a=some ⟨.ref C,none,.fields vs, #[]⟩) (hq:∀h' aa,(∀b o,b≠a->h.get? b=some o->h'.get? b=some o)->h'.get? a=some ⟨.ref C,some h.objs.size,.fields vs, #[]⟩->h'.Ns1 h.objs.size (λy=>if y=f then some v else none)->Q () ⟨h',g,d,aa,os⟩):
  wpAny (model prog w) A (setAttr (.ref a) f v) Q E ⟨h,g,d,t,os⟩:=by
 have L1:=yj (M:=model prog w) KX Zs;have ae:(Value.ref C::bm).contains (.type "object")=true:=by rw[y9,T.hasType (by decide:_=true),yyi]
 have f3:=F.slot_object_setattr.bind (.ref a);unfold setAttr
 repeat (any_goals (first|assumption|(with_reducible refine zO hx ?_)|with_reducible refine L1.at ?_|wp_step))
 have hk:=F.bk_object_setattr;have z:=F.sp_object_setattr;have ad:=F.args_object_setattr_3 (.ref a) (.str f t) v
 have ck:∀{M:Model}{A':Around}{E':Value->Shared->Prop}{Q':Unit->Shared->Prop}{t':Nat},Q' () ⟨h,g,d,t',os⟩->wpAny M A' (checkBuiltinCall "object.__setattr__" ⟨[.ref a,.str f t,v],[]⟩) Q' E' ⟨h,g,d,t',os⟩:=by
  intro M A' E' Q' t' ac;simp only[checkBuiltinCall,hk,z];refine zf ?_;unfold isInstance
  repeat (first|(with_reducible refine zO hx ?_)|(with_reducible refine y4 hC ?_;rw[ae])|wp_step)
  exact ac
 refine codeAny_call_builtin (by decide+kernel) F.entry_object_setattr (ck (Yg KX T Zf hC hx λh' aa q1 q2 q3=>?_));exact zq (zq (hq h' aa q1 q2 q3))
def RP{M:Model}{env:Env}{s:Shared}{x:Sem Value}{Q:Flow->Shared->Prop}(hB:bm.contains (.type "BaseException")=true) (hh:A.handled=none)
  (hx:wpAny M A x (λv s₁=>∃e oe vs,v=.ref e/\s₁.heap.get? C=some (excClassObj nm q C N bs bm hdct sn sub ab col dd k0 k1 k2 k3 k5 newId)/\s₁.heap.get? e=some oe/\oe.cls=.ref C/\oe.data=.fields vs/\vs[1]? =some .none/\E (.ref e) s₁) E s):
  wpAny M A (raiseStmt env (some x) none) Q E s:=by
 unfold raiseStmt;refine zf (zR hx (λv s₁ hv=>?_) λ_ _ z=>z);obtain⟨e,oe,vs,rfl,gC,ge,gc,gd,g1,hE⟩:=hv;obtain⟨h,g,d,t,os⟩:=s₁;have aa:(Value.ref C::bm).contains (.type "BaseException")=true:=by rw[y9,hB,yyi]
 repeat (any_goals (first|assumption|(with_reducible refine zO ge ?_;try rw[gc])|(with_reducible refine zO gC ?_)|(with_reducible refine y4 gC ?_;rw[aa])|wp_step))
 rw[gd];refine zq ?_
 try dsimp only
 rw[g1];refine zq ?_
 try dsimp only
 rw[zk (by decide)];exact zq (wpAny_raiseNew_none hh hE)
end
end L2
namespace L2
open PySem PySem.Spec PyProof.Rows
structure xx(K:Fg_)(C fI:Addr):Prop where
 ex:∃(nm qn:Str)(N:Addr)(bs bm:List Value)(sn:List Str)(sub:List Value)(ab:Bool)(col:Option Bool)(dd:Option Addr)(k0 k1 k2 k3 k5:Option Value),K.lookup C=some (excClassObj nm qn C N bs bm true sn sub ab col dd k0 k1 k2 k3 k5 "ValueError.__new__")/\PySem.W.tailIn K [.type "ValueError",.type "Exception",.type "BaseException",.type "object"] bm=true
 ini:PySem.W.findIn K (.ref C) "__init__" =some (some (.ref fI))
 fn:PySem.W.isFn K (.ref fI)=true
 sa:PySem.W.findIn K (.ref C) "__setattr__" =some (some (.builtin "object.__setattr__"))
 kp:PySem.W.keepIn K (.ref C)=true
def xx.obj{K:Fg_}{C fI:Addr}{h:Heap}(c:xx K C fI)(X:K.In h):∃(nm q:Str)(N:Addr)(bs bm:List Value)(sn:List Str)(sub:List Value)(ab:Bool)(col:Option Bool)(dd:Option Addr)(k0 k1 k2 k3 k5:Option Value),
  h.get? C=some (excClassObj nm q C N bs bm true sn sub ab col dd k0 k1 k2 k3 k5 "ValueError.__new__")/\OwnTail h [.type "ValueError",.type "Exception",.type "BaseException",.type "object"] bm:=by
 obtain⟨nm,q,N,bs,bm,sn,sub,ab,col,dd,k0,k1,k2,k3,k5,e1,z⟩:=c.ex;exact⟨nm,q,N,bs,bm,sn,sub,ab,col,dd,k0,k1,k2,k3,k5,X _ _ e1,PySem.W.tail_of_in X z⟩
def xx.fun_{K:Fg_}{C fI:Addr}{h:Heap}(c:xx K C fI)(X:K.In h):∃o,h.get? fI=some o/\o.cls=.type "function" :=by
 have e:PySem.W.typeIn K (.ref fI)=some (.type "function"):=beq_iff_eq.mp c.fn;unfold PySem.W.typeIn at e;dsimp only at e
 cases q:List.lookup fI K with
 |none=>rw[q]at e;cases e
 |some o=>rw[q]at e;exact⟨o,X _ _ q,zt e⟩
noncomputable def Ke(C e:Addr):HO:=.ext λh=>∃t0,h.get? e=some ⟨.ref C,none,.fields #[t0,.none,.none,.none,.bool false,.none], #[]⟩
noncomputable def Bm(C e d:Addr):HO:=.ext λh=>∃t0,h.get? e=some ⟨.ref C,some d,.fields #[t0,.none,.none,.none,.bool false,.none], #[]⟩
noncomputable def Yn(C e d:Addr):HO:=.ext λh=>∃o vs,h.get? e=some o/\o.cls=.ref C/\o.dict=some d/\o.data=.fields vs
noncomputable def del(H:Hp)(a:Addr):Hp:=λb=>if b=a then none else H b
def pO{H:Hp}{a:Addr}:del H a a=none:=by unfold del;rw[zp rfl]
def xR{H:Hp}{a b:Addr}(h:b≠a):del H a b=H b:=by unfold del;rw[zk h]
section
variable{X:Cx}{CX:CXT}{k:Nat}{f C:Addr}{fd:FuncData}{ps ks:List Str}{sp:Sp}{dvs:List V}{ds:List Value}{E:XK}{x m fn:Str}{p np cpos pos apos:Pos}{e o:Expr}{es:List Expr}{ta tv:TE}{t tk:TA}
def Inv.drop{pins:List (Addr×Obj)}{σ:St}{H:Hp}{s:Shared}{a:Addr}{φ:Heap->Prop}(I:Inv X pins σ H s)(hH:H a=some (.ext φ)):Inv X pins σ (del H a) s:=by
 have nt:∀b xs,H b=some (.tup xs)->b≠a:=λb xs n z=>by rw[z,hH]at n;cases n
 have nw:∀b y,H b=some (.own y)->b≠a:=λb y n z=>by rw[z,hH]at n;cases n
 have aa:∀b ps,H b=some (.tbl ps)->b≠a:=λb y n z=>by rw[z,hH]at n;cases n
 have nf:∀b o u,H b=some (.frz o u)->b≠a:=λb o u n z=>by rw[z,hH]at n;cases n
 have dn:∀b,H b=none->del H a b=none:=λb n=>by unfold del;split;rfl;exact n
 refine⟨I.ok,I.os,I.bare,⟨I.base.keep,I.base.slot,λb ob q n hx=>dn b (I.base.free b ob q n hx),I.base.there,λb xs q=>?_,λb ob u q=>?_,λb ps q=>?_⟩,I.loc,I.cell,dn _ I.free,λx c e=>dn _ (I.freeC x c e),λp hp=>?_,λb u e=>?_,I.len⟩
 ·have h:=I.base.tups b xs q;rw[xR (nt b xs h)];exact h
 ·have h:=I.base.frzs b ob u q;rw[xR (nf b ob u h)];exact h
 ·obtain⟨m,h⟩:=I.base.tbls b ps q;exact⟨m,by rw[xR (aa b _ h)];exact h⟩
 ·obtain⟨p1,p2,p3⟩:=I.pin p hp;exact⟨p1,dn _ p2,p3⟩
 ·have hb:b≠a:=λz=>by rw[z,pO]at e;cases e
  rw[xR hb]at e;exact(I.hok b u e).stay (λ_ _ _ q=>q) (λc q=>by rw[xR (nw c _ q)];exact q) λc xs q=>by rw[xR (nt c xs q)];exact q
def Inv.track{pins:List (Addr×Obj)}{σ:St}{H:Hp}{s:Shared}{a:Addr}{u:HO}(I:Inv X pins σ H s)(hn:H a=none)(h0:X.s₀.heap.objs.size<=a)(hL:a≠X.env.locals)(hc:∀x c,X.env.cells.lookup x=some c->c≠a)(hp:∀p∈X.pn++pins,p.1≠a)(ok:iZ X.prog X.w (upd H a u) s.heap a u):
  Inv X pins σ (upd H a u) s:=by
 have ns:∀b v,H b=some v->b≠a:=λb v q z=>by rw[z,hn]at q;cases q
 refine⟨I.ok,I.os,I.bare,⟨I.base.keep,I.base.slot,λb ob q n hx=>?_,I.base.there,λb xs q=>?_,λb ob v q=>?_,λb ps q=>?_⟩,I.loc,I.cell,?_,λx c e=>?_,λp aa=>?_,λb v e=>?_,I.len⟩
 ·rw[fX (zK (zL (zu q) h0))];exact I.base.free b ob q n hx
 ·have h:=I.base.tups b xs q;rw[fX (ns _ _ h)];exact h
 ·have h:=I.base.frzs b ob v q;rw[fX (ns _ _ h)];exact h
 ·obtain⟨m,h⟩:=I.base.tbls b ps q;exact⟨m,by rw[fX (ns _ _ h)];exact h⟩
 ·rw[fX (Ne.symm hL)];exact I.free
 ·rw[fX (hc x c e)];exact I.freeC x c e
 ·obtain⟨p1,p2,p3⟩:=I.pin p aa;exact⟨p1,by rw[fX (hp p aa)];exact p2,p3⟩
 ·by_cases hb:b=a
  ·subst hb;rw[fL]at e;cases e;exact ok
  ·rw[fX hb]at e
   exact(I.hok b v e).stay (λ_ _ _ q=>q) (λc q=>by rw[fX (ns _ _ q)];exact q) λc xs q=>by rw[fX (ns _ _ q)];exact q
def UT{pins:List (Addr×Obj)}{σ:St}{H:Hp}{s:Shared}{Q:Addr->Hp->Prop}{us:List Value}{vs:List V}(M:xx X.K C f)(F:ji X.prog X.w X.K X.mg X.base CX0 k f fd ps sp)(hr:nY (k+1) X.A)(hb:Binds X.K fd ps ds)(hd:Vals dvs ds)
  (I:Inv X pins σ H s) (r:Vals vs us) (hz:vs.length<=sizeLine)
  (h:∀e,H e=none->sp (.ref e::(vs++dvs)) (upd H e (Ke C e)) (λv H2=>v=.non/\Q e H2) E0):
  wpAny (model X.prog X.w) X.A (call (.ref C) us) (λu s'=>∃e H',u=.ref e/\X.s₀.heap.objs.size<=e/\Inv X pins σ H' s'/\Q e H') X.xe s:=by
 obtain⟨nm,qn,N,bs,bm,sn,sub,ab,col,dd,k0,k1,k2,k3,k5,g1,g2⟩:=M.obj I.kIn;obtain⟨oI,g3,g4⟩:=M.fun_ I.kIn;have hsz:=I.sz;have aa:=I.kIn;have hq:=h (s.heap.objs.size+1) (I.hok.fresh (zzw _));obtain⟨h0,g,d,tt,os⟩:=s;refine acL (K:=X.K) aa yr g2 g1 M.ini g3 g4 (by rw[<-r.length];exact hz) λh' mk=>?_;obtain⟨t0,q1,q2,q3⟩:=mk.there;have I2:Inv X pins σ (upd H (h0.objs.size+1) (Ke C (h0.objs.size+1))) ⟨h',g,d,tt,os⟩:=I.laid (t':=tt) mk.keeps (zzw _) (show iZ _ _ _ _ _ (Ke C _)from⟨⟨_,q1⟩,⟨_,q1⟩,λh1 h2 ⟨t1,z⟩ kk=>⟨t1,kk _ z⟩⟩);have r2:Vals (V.ref (h0.objs.size+1)::(vs++dvs)) (Value.ref (h0.objs.size+1)::(us++ds)):=.cons rfl (r.append hd)
 have hl:(Value.ref (h0.objs.size+1)::us++ds).length=ps.length:=by
  have e:=r2.length;rw[F.len _ _ _ _ hq]at e;exact e.symm
 refine codeAny_mono (F.run _ X.stack _ _ ⟨Value.ref (h0.objs.size+1)::us,[]⟩ (Value.ref (h0.objs.size+1)::(us++ds)) _ _ E0 (hr.make C us []) (I2.env0.make C us []) (hb _ (Value.ref (h0.objs.size+1)::us) I2.kIn hl) r2 hq) λr s' q=>?_
 cases r with
 |error e=>exact False.elim q
 |ok fl=>
  cases fl with
  |ret u=>
   obtain⟨v,H',I3,rv,ev,q3⟩:=I2.after q;subst ev;exact⟨rv,⟨_,H',rfl,zF hsz (zzw _),I3,q3⟩⟩
  |next=>exact False.elim q
  |brk=>exact False.elim q
  |cont=>exact False.elim q
noncomputable def Vj(X:Cx)(E:XK):Prop:=∀(pins:List (Addr×Obj))(σ:St)(H:Hp)(s:Shared)(e C d:Addr)(t0:Value),Inv X pins σ H s->s.heap.get? e=some ⟨.ref C,some d,.fields #[t0,.none,.none,.none,.bool false,.none], #[]⟩->H e=none->X.s₀.heap.get? e=none->E (.ref C) (some d) H->X.xe (.ref e) s
def Hq{P:Program}{w:World}{K:Fg_}{mg:Str->Option Value}{base:Heap}{N:List Str}{qual:Str}{scope:Scope}{f:Addr}{cd:Value}{A:Around}{outer:List Env}{s₀:Shared}{H₀:Hp}{E:XK}:Vj (pJ (CX1 P w) P w K mg base N qual scope f cd A outer s₀ H₀ E) E:=
 λpins σ H s e C d t0 I he hH hs q=>Ik I he rfl rfl rfl rfl hH hs q (λz=>nomatch z)
noncomputable def Jf(C:Addr)(fn:Str):Sp:=λvs H Q _=>∃(e:Addr)(n:Int),vs=[.ref e,.int n]/\n.natAbs<2^300/\H e=some (Ke C e)/\∀d,H d=none->d≠e->Q .non (upd (upd H e (Bm C e d)) d (.xd [(fn,.int n)]))
noncomputable def Wm(C:Addr)(fn:Str)(E:XK)(t:TA):TS:=λ_ σ H=>t σ H λvs H1=>∃n:Int,vs=[.int n]/\n.natAbs<2^300/\∀d,H1 d=none->E (.ref C) (some d) (upd H1 d (.xd [(fn,.int n)]))
def MN(hR:Vj X E)(hc:X.calm=true)(M:xx X.K C f)(F:ji X.prog X.w X.K X.mg X.base CX0 k f fd ps (Jf C fn))(hr:nY (k+1) X.A)(hg:Gl X x)(hm:X.mg x=some (.ref C))(hb:Binds X.K fd ps [])
  (ha:PA X (e::es) t) (ac:(x==("__debug__" :Str))=false:=by decide) (he:starEach (e::es) X.env=(false,eval e X.env)::starEach es X.env:=by rfl) (hpl:(backTo cpos (starEach es X.env)).any (·.1)=false:=by rfl):
  PS X (.Raise (some (.Call (.Name x np) (e::es) [] cpos)) none pos) (Wm C fn E t):=by
 intro pins s σ H D I h;rw[arm_exec_Raise];obtain⟨nm,qn,N,bs,bm,sn,sub,ab,col,dd,k0,k1,k2,k3,k5,g1,g2⟩:=M.obj I.ok.mod.kin;refine zf (yA (RP (C:=C) (nm:=nm) (q:=qn) (N:=N) (bs:=bs) (bm:=bm) (hdct:=true) (sn:=sn) (sub:=sub) (ab:=ab) (col:=col) (dd:=dd) (k0:=k0) (k1:=k1) (k2:=k2) (k3:=k3) (k5:=k5) (newId:= "ValueError.__new__") (g2.hasType (by rfl)) (I.ok.hd hc) ?_));refine zf (yi (nM I hg hm ?_ ac));refine yI (h₀:=X.base) I.ok.mod.kin M.kp (thn (ha cpos pins s σ H _ I h) λus s1 ⟨vs,H1,I1,r,n,ev,hn,q⟩=>⟨I1.kIn,?_⟩) he hpl;refine thn (UT (dvs:=[]) (ds:=[]) (Q:=λe H2=>∃d,H2 e=some (Bm C e d)/\E (.ref C) (some d) (del H2 e)) M F hr hb .nil I1 r (by rw[ev,zc];show 1<=_;lia) λe he=>?_) λu s2 ⟨e,H2,eu,hsz,I2,d,q2,q3⟩=>?_
 ·subst ev
  refine⟨e,n,rfl,hn,fL,λd hd z=>⟨rfl,d,?_,?_⟩⟩
  ·rw[fX (Ne.symm z),fL]
  ·have hd':H1 d=none:=by rw[fX z]at hd;exact hd
   have e1:del (upd (upd (upd H1 e (Ke C e)) e (Bm C e d)) d (.xd [(fn,.int n)])) e=upd H1 d (.xd [(fn,.int n)]):=by
    funext b;by_cases hb:b=e
    ·subst hb
     rw[pO,fX (Ne.symm z),he]
    ·rw[xR hb]
     by_cases aa:b=d
     ·subst aa;rw[fL,fL]
     ·rw[fX aa,fX aa,fX hb,fX hb]
   rw[e1];exact q d hd'
 ·subst eu
  refine zf (yA (zq ?_));obtain⟨⟨t0,gx⟩,_,_⟩:=(show iZ X.prog X.w H2 s2.heap e (Bm C e d)from I2.hok e _ q2);exact⟨e,_,_,rfl,I2.bk _ _ g1,gx,rfl,rfl,rfl,hR pins σ (del H2 e) s2 e C d t0 (I2.drop q2) gx pO (yT hsz) q3⟩
structure adu(K:Fg_)(B:Addr):Prop where
 ga:PySem.W.specialIn K (.ref B) "__getattribute__" =some (some (.builtin "type.__getattribute__"))
 rd:PySem.W.readsIn K B (.type "type")=true
 fi:PySem.W.findCls K (.ref B) (.type "type") "__init__" =some (.val (.builtin "ValueError.__init__"))
noncomputable def aal(K:Fg_)(t:TA):TE:=λσ H Q=>t σ H λvs H1=>∃e C fI z,vs=[.ref e,.str z]/\H1 e=some (Ke C e)/\xx K C fI/\Q .non H1
def Zv{B:Addr}{pl:Sem Bool}(Z:adu X.K B)(hg:Gl X x)(hm:X.mg x=some (.ref B))
  (ha:PA X (e::es) t) (aa:(x==("__debug__" :Str))=false:=by decide) (he:starEach (e::es) X.env=(false,eval e X.env)::starEach es X.env:=by rfl) (hpl:(backTo pos (starEach es X.env)).any (·.1)=false:=by rfl)
  (ht:eval (.Call (.Attribute (.Name x p) "__init__" apos) (e::es) [] pos) X.env=(do
   let ov<-eval (.Name x p) X.env
   standAt apos.atName
   let(f,first)<-holding [ov] (getMethod ov "__init__" pl)
   callWith pos f first (backTo pos (starEach (e::es) X.env)) (backToKw pos (keywordEach [] X.env))):=by rfl):
  PE X (.Call (.Attribute (.Name x p) "__init__" apos) (e::es) [] pos) (aal X.K t):=by
 intro pins s σ H Q I h;refine zzH (pl:=pl) (nM I hg hm ?_ aa) ht;refine PySem.W.method_cls I.kIn Z.ga (PySem.W.cls_value I.kIn Z.rd Z.fi rfl ?_);have I':Inv X pins σ H {s with toks:=s.toks+1}:=I.tok _;refine PyProof.Rows.callWith_builtin1 (thn (ha pos pins _ σ H _ I' h) λus s1 ⟨vs,H1,I1,r,ea,C,fI,z,ev,hH,M,q⟩=>?_) he hpl;subst ev;obtain⟨u1,u2,rfl,r1,r2⟩:=vals2 r;cases r1;obtain⟨tk,rfl⟩:=r2;obtain⟨nm,qn,N,bs,bm,sn,sub,ab,col,dd,k0,k1,k2,k3,k5,g1,g2⟩:=M.obj I1.kIn;obtain⟨⟨t0,gx⟩,_,_⟩:=(show iZ X.prog X.w H1 s1.heap ea (Ke C ea)from I1.hok ea _ hH);have ac:=zu gx;obtain⟨h0,g,d,tt,os⟩:=s1;refine zz7 (aap (z:=z) (tk:=tk) yr g2 g1 gx λh' eh=>?_)
 have e1:h'.get? ea=some ⟨.ref C,none,.fields #[.ref h0.objs.size,.none,.none,.none,.bool false,.none], #[]⟩:=by
  rw[eh];exact yg (o:=⟨.ref C,none,.fields #[t0,.none,.none,.none,.bool false,.none], #[]⟩) _ (zd _ gx) rfl
 have e2:∀b u,b≠ea->h0.get? b=some u->h'.get? b=some u:=λb u hb e=>by
  rw[eh];exact y8 _ (Ne.symm hb) (zd _ e)
 have I2:Inv X pins σ (upd H1 ea (Ke C ea)) ⟨h',g,d,tt,os⟩:=I1.write (t':=tt) (x:=ea) (e:=ea) (by rw[hH];exact True.intro) (.inl rfl) e2 ⟨_,e1⟩ (show iZ _ _ _ _ _ (Ke C ea)from⟨⟨_,e1⟩,⟨_,e1⟩,λh1 h2 ⟨t1,z⟩ kk=>⟨t1,kk _ z⟩⟩)
 have eH:upd H1 ea (Ke C ea)=H1:=by
  funext b;by_cases hb:b=ea
  ·subst hb;rw[fL,hH]
  ·rw[fX hb]
 rw[eH]at I2;exact⟨.non,H1,I2,rfl,q⟩
noncomputable def ZC(K:Fg_)(ta tv:TE)(f:Str):TS:=λD σ H=>tv σ H λy H1=>ta σ H1 λx H2=>∃e C fI,x=.ref e/\H2 e=some (Ke C e)/\xx K C fI/\gD K C f/\∀d,H2 d=none->d≠e->D.nx σ (upd (upd H2 e (Bm C e d)) d (.xd [(f,y)]))
def aaP{pos':Pos}{value:Expr}(ha:PE X o ta)(hv:PE X value tv)(hs:swapsWith value (some (.Attribute o fn pos')) pos.line X.env=pure false):PS X (.Assign [.Attribute o fn pos'] value pos) (ZC X.K ta tv fn):=by
 intro pins s σ H D I h;refine plainObj_wpAny_Assign_Attribute (thn (hv pins s σ H _ I h) λu s1 ⟨y,H1,I1,ry,q⟩=>thn (ha pins s1 σ H1 _ I1 q) λov s2 ⟨x,H2,I2,rx,a,C,fI,ex,hH,M,n,q2⟩=>?_) hs;subst ex;obtain rfl:ov=Value.ref a:=rx;obtain⟨nm,qn,N,bs,bm,sn,sub,ab,col,dd,k0,k1,k2,k3,k5,g1,g2⟩:=M.obj I2.kIn;obtain⟨⟨t0,gx⟩,_,_⟩:=(show iZ X.prog X.w H2 s2.heap a (Ke C a)from I2.hok a _ hH);have ad:=I2.kIn;have aa:=zu gx;have ae:H2 s2.heap.objs.size=none:=I2.hok.fresh (ze _);obtain⟨h0,g,d,tt,os⟩:=s2;have aa:a<h0.objs.size:=aa;refine abq (K:=X.K) ad g2 n M.sa g1 gx λh' ac k1 k2 k3=>?_;have I3:Inv X pins σ (upd H2 a (Bm C a h0.objs.size)) ⟨h',g,d,ac,os⟩:=I2.write (t':=ac) (x:=a) (e:=a) (by rw[hH];exact True.intro) (.inl rfl) k1 ⟨_,k2⟩ (show iZ _ _ _ _ _ (Bm C a _)from⟨⟨_,k2⟩,⟨_,k2⟩,λh1 h2 ⟨t1,z⟩ kk=>⟨t1,kk _ z⟩⟩);have af:h0.objs.size≠a:=Ne.symm (zK aa);refine⟨σ,_,?_,q2 h0.objs.size ae af⟩;have ag:X.env.locals<h0.objs.size:=I2.lt;refine I3.track (by rw[fX af];exact ae) I2.sz (Ne.symm (zK ag)) (λx c e=>?_) (λp hp=>?_) (show iZ _ _ _ _ _ (.xd [(fn,y)])from⟨_,k3,λf'=>?_⟩)
 ·obtain⟨v,ob,z,_⟩:=I2.cell x c e
  exact zK (zu z)
 ·exact zK (zu (I2.pin p hp).1)
 ·by_cases hf:f'=fn
  ·subst hf
   rw[zp rfl,show List.lookup f' [(f',y)]=some y by simp[List.lookup]];exact ry
  ·rw[zk hf,show List.lookup f' [(fn,y)]=none by simp[List.lookup,beq_eq_false_iff_ne.mpr hf]]
   exact True.intro
noncomputable def aaJ(K:Fg_)(ta:TE)(f:Str):TE:=λσ H Q=>ta σ H λx H1=>∃e C fI d fs n,x=.ref e/\(H1 e=some (Bm C e d)\/H1 e=some (Yn C e d))/\xx K C fI/\acW K C/\gD K C f/\H1 d=some (.xd fs)/\fs.lookup f=some (.int n)/\Q (.int n) H1
def aag(he:PE X e ta)(hb:attributeBase e fn X.env (eval e X.env)=eval e X.env):PE X (.Attribute e fn pos) (aaJ X.K ta fn):=by
 intro pins s σ H Q I h;refine VR hb (thn (he pins s σ H _ I h) λu s1 ⟨x,H1,I1,rx,a,C,fI,d,fs,n,ex,hH,M,Z,hn,hd,hl,q⟩=>?_);subst ex;obtain rfl:u=Value.ref a:=rx;obtain⟨nm,qn,N,bs,bm,sn,sub,ab,col,dd,k0,k1,k2,k3,k5,g1,g2⟩:=M.obj I1.kIn
 have ac:∃o vs,s1.heap.get? a=some o/\o.cls=.ref C/\o.dict=some d/\o.data=.fields vs:=by
  rcases hH with hH|hH
  ·obtain⟨⟨t0,gx⟩,_,_⟩:=(show iZ X.prog X.w H1 s1.heap a (Bm C a d)from I1.hok a _ hH)
   exact⟨_,_,gx,rfl,rfl,rfl⟩
  ·obtain⟨gx,_,_⟩:=(show iZ X.prog X.w H1 s1.heap a (Yn C a d)from I1.hok a _ hH)
   exact gx
 obtain⟨ob,vs,o1,o2,o3,o4⟩:=ac;obtain⟨mA,hN,hr⟩:=(show iZ X.prog X.w H1 s1.heap d (.xd fs)from I1.hok d _ hd);obtain⟨v,hv,rv⟩:=HY.some_of (v:=.int n) (o:=mA fn) (by rw[<-hl];exact hr fn);obtain⟨tk,rfl⟩:=rv;have aa:=I1.kIn;have I2:=I1.tok (s1.toks+1);obtain⟨h0,g,dr,tt,os⟩:=s1;exact abo (K:=X.K) aa Z hn g1 (g2.hasType (by rfl)) o1 o2 o3 o4 hN hv (λid z=>by cases z) ⟨.int n,H1,I2,⟨_,rfl⟩,q⟩
def Inv.landedF{pins:List (Addr×Obj)}{σ:St}{H1 H':Hp}{s1 s':Shared}{ea C d:Addr}{a0:Value}{B h6:Heap}(I:Inv X pins σ H1 s1)(os:s'.os=s1.os)(bare:AllBare s'.gens)(un:Un (frs X.stack) [] H1 H' s1.heap s'.heap)(hok:HOk X.prog X.w H' B)
  (fl:Heap.FlyingW B X.stack ea (.ref C) a0 s'.heap) (k1:∀b o,s1.heap.get? b=some o->H1 b=none->b∉frs X.stack->B.get? b=some o) (k2:∀b o,s1.heap.get? b=some o->b∉frs X.stack->∃o',B.get? b=some o') (hn:H' ea=none)
  (aa:Heap.FlyingW B X.stack ea (.ref C) a0 h6) (ad:s'.heap.UpToSlots h6) (ae:Bf h6 ea (some d)):Inv X pins σ (upd H' ea (Yn C ea d)) {s' with heap:=h6}:=by
 have st:∀b o,B.get? b=some o->h6.get? b=some o:=aa.1
 have ab:∀b o,s1.heap.get? b=some o->b≠ea:=λb o q z=>by
  subst z;by_cases hb:b∈frs X.stack
  ·obtain⟨_,o2,q2,nd⟩:=aa.2.2.1.mem hb
   obtain⟨oe,vs,q3,_,dd,_⟩:=aa.first
   rw[q2]at q3;cases q3;exact nd vs dd
  ·obtain⟨o',q'⟩:=k2 b o q hb
   rw[aa.2.1]at q';cases q'
 have q3:∀b o,s1.heap.get? b=some o->b∈frs X.stack->∃o1,s'.heap.get? b=some o1/\(H1 b=none->∃sl,o1={o with slots:=sl})/\∃sl,h6.get? b=some {o1 with slots:=sl}:=λb o q hb=>by
  obtain⟨_,o1,z1,nd⟩:=fl.2.2.1.mem hb;refine⟨o1,z1,λn=>?_,ad b o1 z1 nd⟩;obtain⟨ac,y2⟩:=un.slot b _ q n hb (by simp);rw[z1]at y2;exact⟨ac,zt y2⟩
 refine I.call' (ch:=[]) (s':={s' with heap:=h6}) os ⟨λb o q n hb _=>st b o (k1 b o q n hb),λb o q n hb _=>?_,λb o q n _=>?_,λb o q _=>?_,λb xs z=>?_,λb o xs z=>?_,λb ps z=>?_⟩ (λb u q=>?_) bare (λb hb=>absurd hb (by simp))
 ·obtain⟨o1,_,e1,sl,e2⟩:=q3 b o q hb
  obtain⟨af,rfl⟩:=e1 n;exact⟨sl,e2⟩
 ·rw[fX (ab b o q)]
  exact un.free b o q n (by simp)
 ·by_cases hb:b∈frs X.stack
  ·obtain⟨o1,_,_,sl,e2⟩:=q3 b o q hb
   exact⟨_,e2⟩
  ·obtain⟨o',q'⟩:=k2 b o q hb
   exact⟨o',st b o' q'⟩
 ·have z':=un.tups b xs z
  rw[fX (gP z' hn)];exact z'
 ·have z':=un.frzs b o xs z
  rw[fX (gP z' hn)];exact z'
 ·obtain⟨mo,z'⟩:=un.tbls b ps z
  exact⟨mo,by rw[fX (gP z' hn)];exact z'⟩
 ·by_cases hb:b=ea
  ·subst hb
   rw[fL]at q;cases q;obtain⟨oe,vs,q3,cc,dd,_⟩:=aa.first
   obtain⟨o2,q4,q5,_⟩:=ae;rw[q3]at q4;cases q4;exact⟨⟨oe,vs,q3,cc,q5,dd⟩,⟨oe,q3⟩,λh1 h2 ⟨o,v2,e1,e2⟩ k=>⟨o,v2,k o e1,e2⟩⟩
  ·rw[fX hb]at q
   exact(hok b u q).stay (λc v _ z=>st c v z) (λc z=>by rw[fX (gP z hn)];exact z) λc xs z=>by rw[fX (gP z hn)];exact z
noncomputable def tFI(t:TE):TE:=λσ H Q=>t σ H λv H1=>∃i:Int,v=.int i/\i.natAbs<2^300/\∀z:Str,z.length<=10000->Q (.str z) H1
def Di{i:Int}(h:i.natAbs<2^300):(Str.ofString (toString i)).length<=400:=by
 have hn:i.natAbs.repr.length<=300:=nat_repr_length_le (by decide) h;have hl:∀s:String,(Str.ofString s).length=s.length:=λs=>PySem.ofString_length s;rw[hl]
 cases i with
 |ofNat n=>
  have:(toString (Int.ofNat n))=n.repr:=rfl;rw[this];have hn:n.repr.length<=300:=hn;lia
 |negSucc n=>
  have:(toString (Int.negSucc n))= "-" ++(n+1).repr:=rfl;rw[this,String.length_append];have hn:(n+1).repr.length<=300:=hn;have: "-".length=1:=rfl;lia
def Nb{y z:Str}{j1 j2:Nat}{p1 p2 p3:Pos}{te:TE}(he:PE X e te)(h1:y.length<=1000:=by decide+kernel)(h2:z.length<=1000:=by decide+kernel):PE X (.JoinedStr [.Constant (.str y) j1 p1,.FormattedValue e (-1) none p2,.Constant (.str z) j2 p3] pos) (tFI te):=by
 intro pins s σ H Q I h
 have e0:∀z:Str,(Str.empty++z)=z:=λz=>by
  show Str.mk (#[]++z.cps)=z;rw[zz2]
 have la:∀y z:Str,(y++z).length=y.length+z.length:=λy z=>by
  show(y.cps++z.cps).size=_;rw[yyd];rfl
 refine yyk (Joins_cons (Calls.Constant_str ⟨y,_,rfl,?_,Joins_cons (yd ?_)⟩))
 ·rw[e0,zc];lia
 ·rw[e0]
  refine thn (he pins _ σ H _ (I.tok _) h) λv s1 ⟨w,H1,I1,r1,i,ei,hi,q⟩=>?_;subst ei;obtain⟨t1,rfl⟩:=r1;have hl:=Di hi
  have aa:i.natAbs.log2<1920:=by
   by_cases h0:i.natAbs=0
   ·rw[h0];decide
   ·have:=(Nat.log2_lt h0 (k:=300)).mpr hi
    lia
  refine zzg aa ⟨_,_,rfl,by rw[la,zc];lia,Joins_cons (Calls.Constant_str ⟨z,_,rfl,by rw[la,la,zc];lia,Joins_nil ⟨by rw[la,la,zc];lia,.str _,H1,I1.tok _,⟨_,rfl⟩,q _ (by rw[la,la];lia)⟩⟩)⟩
end
section
variable{X:Cx}{K:Fg_}{C:Addr}{sp:Sp}{dvs:List V}{E:XK}{x fn:Str}{p pos apos pos':Pos}{e o value:Expr}{es:List Expr}{ta tv:TE}{t:TA}{σ:St}{H:Hp}{Q:VK}{D:Ends}{te:TX}{i:Nat}{ts:TS}{ea pa:Addr}{c:V}
def Yb{B:Addr}{pl:Sem Bool}(Z:adu K B)(q:Gl X x)(hm:X.mg x=some (.ref B))(ha:PA X (e::es) t)(z:X.K=K:=by rfl)(hdb:(x==("__debug__" :Str))=false:=by decide) (he:starEach (e::es) X.env=(false,eval e X.env)::starEach es X.env:=by rfl) (hpl:(backTo pos (starEach es X.env)).any (·.1)=false:=by rfl)
  (ht:eval (.Call (.Attribute (.Name x p) "__init__" apos) (e::es) [] pos) X.env=(do
   let ov<-eval (.Name x p) X.env
   standAt apos.atName
   let(f,first)<-holding [ov] (getMethod ov "__init__" pl)
   callWith pos f first (backTo pos (starEach (e::es) X.env)) (backToKw pos (keywordEach [] X.env))):=by rfl):PE X (.Call (.Attribute (.Name x p) "__init__" apos) (e::es) [] pos) (aal K t):=by
 subst z;exact Zv Z q hm ha hdb he hpl ht
def WQ(ha:PE X o ta)(hv:PE X value tv)(q:swapsWith value (some (.Attribute o fn pos')) pos.line X.env=pure false)(z:X.K=K:=by rfl):PS X (.Assign [.Attribute o fn pos'] value pos) (ZC K ta tv fn):=z▸aaP ha hv q
def Yj(q:PE X e ta)(hb:attributeBase e fn X.env (eval e X.env)=eval e X.env)(z:X.K=K:=by rfl):PE X (.Attribute e fn pos) (aaJ K ta fn):=z▸aag q hb
def ap_raiseF:Wm C fn E t D σ H=t σ H λvs H1=>∃n:Int,vs=[.int n]/\n.natAbs<2^300/\∀d,H1 d=none->E (.ref C) (some d) (upd H1 d (.xd [(fn,.int n)])):=rfl
def ap_xini:aal K t σ H Q=t σ H λvs H1=>∃e C fI z,vs=[.ref e,.str z]/\H1 e=some (Ke C e)/\xx K C fI/\Q .non H1:=rfl
def ap_sxfld:ZC K ta tv fn D σ H=tv σ H λy H1=>ta σ H1 λx H2=>∃e C fI,x=.ref e/\H2 e=some (Ke C e)/\xx K C fI/\gD K C fn/\∀d,H2 d=none->d≠e->D.nx σ (upd (upd H2 e (Bm C e d)) d (.xd [(fn,y)])):=rfl
def ap_xfld:aaJ K ta fn σ H Q=ta σ H λx H1=>∃e C fI d fs n,x=.ref e/\(H1 e=some (Bm C e d)\/H1 e=some (Yn C e d))/\xx K C fI/\acW K C/\gD K C fn/\H1 d=some (.xd fs)/\fs.lookup fn=some (.int n)/\Q (.int n) H1:=rfl
def ap_FI:tFI ta σ H Q=ta σ H λv H1=>∃i:Int,v=.int i/\i.natAbs<2^300/\∀z:Str,z.length<=10000->Q (.str z) H1:=rfl
end
end L2
namespace L2
open PySem PySem.Spec PyProof.Rows
section
variable{X:Cx}{C:Addr}{x:Str}{E:XK}
abbrev Cx.tried(X:Cx)(pins:List (Addr×Obj))(E:XK):Cx:={X with pn:=X.pn++pins,xe:=λev s'=>∃σ H1 s1,Inv X pins σ H1 s1/\CX1 X.prog X.w X.stack H1 s1 E ev s'}
theorem Inv.tried{pins:List (Addr×Obj)}{σ:St}{H:Hp}{s:Shared}(I:Inv X pins σ H s)(E:XK):Inv (X.tried pins E) [] σ H s:=
 ⟨⟨I.ok.mod,I.ok.kind,I.ok.glob,I.ok.blt,I.ok.above,I.ok.inj,I.ok.has,I.ok.cab,I.ok.hd,I.ok.frames,I.ok.stk,I.ok.exf,I.ok.bs,I.ok.bsz,I.ok.noex,I.ok.exfs,I.ok.funs,I.ok.frf⟩,I.os,I.bare,I.base,I.loc,I.cell,I.free,I.freeC,λp hp=>I.pin p (by simpa using hp),I.hok,I.len⟩
def Inv.untried{pins q:List (Addr×Obj)}{σ:St}{H:Hp}{s:Shared}(ok:X.Ok)(I:Inv (X.tried pins E) q σ H s):Inv X pins σ H s:=
 ⟨ok,I.os,I.bare,I.base,I.loc,I.cell,I.free,I.freeC,λp hp=>I.pin p (yB _ hp),I.hok,I.len⟩
def aem{pins:List (Addr×Obj)}(ok:(X.tried pins E).Ok):X.Ok:=⟨ok.mod,ok.kind,ok.glob,ok.blt,ok.above,ok.inj,ok.has,ok.cab,ok.hd,ok.frames,ok.stk,ok.exf,ok.bs,ok.bsz,ok.noex,ok.exfs,ok.funs,ok.frf⟩
def Km{pins:List (Addr×Obj)}:xO (CX1 X.prog X.w) (X.tried pins E) E:=λq σ H s e s' I h=>⟨σ,H,s,I.untried (aem I.ok),h⟩
noncomputable def abN(tb:XK->TS)(C:Addr)(i:Nat)(ts:TS):TS:=λD σ H=>tb (λcls dd H1=>cls=.ref C/\∃d,dd=some d/\∀ea,H1 ea=none->
 ts {nx:=λσ2 H2=>D.nx (σ2.set i none) H2,rt:=D.rt,bk:=λσ2 H2=>D.bk (σ2.set i none) H2,ct:=λσ2 H2=>D.ct (σ2.set i none) H2} ((σ.map λ_=>none).set i (some (.ref ea))) (upd H1 ea (Yn C ea d))) D σ H
def aaG{fI:Addr}{tb:XK->TS}{i:Nat}{n:Str}{ts:TS}{b₀:Stmt}{af ad:List Stmt}{np hpos pos:Pos}(h:∀pins E,PSs (X.tried pins E) af (tb E))(c:xx X.K C fI)(hg:Gl X x)(hm:X.mg x=some (.ref C))(au:X.env.frame=some X.env.locals)(ae:X.stack=X.env::X.outer)
  (hN:X.N.Nodup) (hi:X.N[i]? =some n) (hk:X.env.kindOf n=some .local) (am:∀ea,PSs (X.inSuite ea) (b₀::ad) ts) (hd:(x==("__debug__" :Str))=false:=by decide):
  PS X (.Try af [.ExceptHandler (some (.Name x np)) (some n) (b₀::ad) hpos] [] [] pos) (abN tb C i ts):=by
 intro pins s σ H D I hw;refine wpAny_Try_except (zR (h pins _ [] s σ H D (I.tried _) hw) (λf s1 q=>?_) λev s' hx=>?_)
 ·cases f with
  |next=>obtain⟨σ',H',I',q'⟩:=q;exact zzT ⟨σ',H',I'.untried I.ok,q'⟩
  |brk=>obtain⟨σ',H',I',q'⟩:=q;exact⟨σ',H',I'.untried I.ok,q'⟩
  |cont=>obtain⟨σ',H',I',q'⟩:=q;exact⟨σ',H',I'.untried I.ok,q'⟩
  |ret u=>obtain⟨v,σ',H',I',r',q'⟩:=q;exact⟨v,σ',H',I'.untried I.ok,r',q'⟩
 obtain⟨σ1,H1,s1,I1,ea,C',a0,H',B,dd,rfl,os,bare,un,hok,fl,k1,k2,hn,aw,hC,d,ap,hE⟩:=hx;have ao:σ1.length=σ.length:=I1.len.trans I.len.symm
 have I1:Inv X pins (σ.map λ_=>none) H1 s1:=I1.weak (by rw[za,ao]) λj v e=>by
  rw[zE]at e
  cases q:σ[j]? with
  |none=>rw[q]at e;cases e
  |some w=>rw[q]at e;cases e
 subst ap;have ax:C'=C:=Value.ref.inj hC;subst ax;have fl':=fl;rw[ae]at fl';have av:X.A.frames=some (X.env::X.outer):=by rw[<-ae];exact I.ok.frames
 refine zR (kZ (KD.noteFrame _ _) (wpAny_looks_onW (Q:=λ_ s2=>∃h4,s2={s' with heap:=h4}/\Heap.HeldW B (X.env::X.outer) ea (.ref C') a0 X.env.locals h4/\Heap.UpToSlots s'.heap h4) av au fl' λh4 aa ai=>⟨h4,rfl,aa,ai⟩)) (λ_ s2 z=>?_) (λ_ _ z=>z);obtain⟨⟨h4,rfl,aa,ai⟩,as⟩:=z;refine zR (kZ (KD.setFlight _ _) (wpAny_landsW (Q:=λ_ s2=>∃h5,s2={s' with heap:=h5}/\Heap.FlyingW B (X.env::X.outer) ea (.ref C') a0 h5/\Heap.UpToSlots h4 h5) aa λh5 ac aj=>⟨h5,rfl,ac,aj⟩)) (λ_ s2 z=>?_) (λ_ _ z=>z);obtain⟨⟨h5,rfl,ac,aj⟩,ar⟩:=z;have al:Bf h5 ea (some d):=(aw.dk as).dk ar;have up5':=ai.trans aj;have I5:Inv X pins (σ.map λ_=>none) (upd H' ea (Yn C' ea d)) {s' with heap:=h5}:=I1.landedF os bare un hok fl k1 k2 hn (by rw[ae];exact ac) up5' al;obtain⟨nm,qn,N,bs,bm,sn,sub,ab,col,ba,g0,ay,bc,bb,az,gC,gT⟩:=c.obj I5.kIn;obtain⟨ob,aq,ak⟩:=ac.there;refine wpAny_handleBy_cons (codeAny_handlers_test (nM (X:=X.inSuite ea) (I5.inSuite ea) hg hm ?_ hd)) (by intro q;cases q);refine yya gC aq ak (gT.hasType rfl) (codeAny_handlers_suite_as ?_);refine zR (kZ (KD.setFlight _ _) (lands_againW (Q:=λ_ s2=>∃h6,s2={s' with heap:=h6}/\Heap.FlyingW B (X.env::X.outer) ea (.ref C') a0 h6/\Heap.UpToSlots h5 h6) ac λh6 ag ah=>⟨h6,rfl,ag,ah⟩)) (λ_ s2 z=>?_) (λ_ _ z=>z);obtain⟨⟨h6,rfl,ag,ah⟩,an⟩:=z;have I6:Inv X pins (σ.map λ_=>none) (upd H' ea (Yn C' ea d)) {s' with heap:=h6}:=I1.landedF os bare un hok fl k1 k2 hn (by rw[ae];exact ag) (up5'.trans ah) (al.dk an);refine JT (X:=X) I6 hN hi (.inl hk) (v:=.ref ea) rfl (λs7 I7=>?_) (.inr hk);refine zR (am ea pins s7 _ _ _ (I7.inSuite ea) (hE ea hn)) (λf s8 hf=>?_) λ_ _ z=>False.elim z
 cases f with
 |next=>
  obtain⟨σ8,H8,I8,q8⟩:=hf;exact(I8.outSuite I.ok).gone hN hi hk λs9 I9=>⟨_,H8,I9,q8⟩
 |brk=>
  obtain⟨σ8,H8,I8,q8⟩:=hf;exact(I8.outSuite I.ok).gone hN hi hk λs9 I9=>⟨_,H8,I9,q8⟩
 |cont=>
  obtain⟨σ8,H8,I8,q8⟩:=hf;exact(I8.outSuite I.ok).gone hN hi hk λs9 I9=>⟨_,H8,I9,q8⟩
 |ret u=>
  obtain⟨v8,σ8,H8,I8,r8,q8⟩:=hf;exact(I8.outSuite I.ok).gone hN hi hk λs9 I9=>⟨v8,_,H8,I9,r8,q8⟩
def ap_tryB{tb:XK->TS}{i:Nat}{ts:TS}{D:Ends}{σ:St}{H:Hp}:abN tb C i ts D σ H=tb (λcls dd H1=>cls=.ref C/\∃d,dd=some d/\∀ea,H1 ea=none->
 ts {nx:=λq H2=>D.nx (q.set i none) H2,rt:=D.rt,bk:=λq H2=>D.bk (q.set i none) H2,ct:=λq H2=>D.ct (q.set i none) H2} ((σ.map λ_=>none).set i (some (.ref ea))) (upd H1 ea (Yn C ea d))) D σ H:=rfl
end
end L2
namespace L2
open PySem PySem.W PySem.Spec PySem.Calls PyProof.Rows
section
variable{X:Cx}{pos:Pos}{e f:Expr}
noncomputable def jG(i:Int):Str:=Str.ofString (toString i)
def lO{i:Int}(h:i.natAbs<2^300):(jG i).length<=400:=Di h
def Qh{i:Int}(hi:i.natAbs<2^300):i.natAbs.log2<1920:=by
 by_cases q:i.natAbs=0
 ·rw[q];decide
 ·have:=(Nat.log2_lt q (k:=300)).mpr hi
  lia
noncomputable def adm:List V->Hp->VK->Prop:=λxs H Q=>(∃i:Int,xs=[.int i]/\i.natAbs<2^300/\Q (.str (jG i)) H)\/(∃z,xs=[.str z]/\Q (.str z) H)
def wz:lX X (.type "str") adm:=by
 intro pins s σ H xs us Q I r h;rcases h with⟨i,rfl,hi,q⟩|⟨z,rfl,q⟩
 ·exact Kf pins s σ H _ us Q I r ⟨i,rfl,Qh hi,q⟩
 ·obtain⟨u,rfl,rx⟩:=vals1 r
  obtain⟨t,rfl⟩:=rx;exact P.str_of_str ⟨.str z,H,I,⟨_,rfl⟩,q⟩
theorem FQ:∀{xs:List Str}{its:List Value},Vals (xs.map V.str) its->∃l:List (Str×Tok),strValues l=its/\l.map (·.1)=xs
 |[],_,.nil=>⟨[],rfl,rfl⟩
 |x::xs,_,.cons r rs=>by
  obtain⟨t,rfl⟩:=r;obtain⟨l,z,q⟩:=FQ rs;exact⟨(x,t)::l,by rw[<-z];rfl,by rw[zj,q]⟩
theorem KH(z:Str):∀(xs:List Str)(n:Nat),xs.foldl (λa x=>a+x.length+z.length) n=n+(xs.map (·.length)).sum+xs.length*z.length
 |[],n=>by simp
 |x::xs,n=>by
  rw[zzc,KH z xs,zj,yY,zy,Nat.succ_mul];lia
noncomputable def rJoin:V->List V->Hp->VK->Prop:=λv vs H Q=>∃(z:Str)(a:Addr)(xs:List Str),v=.str z/\vs=[.ref a]/\H a=some (.lst (xs.map V.str))/\(xs.map (·.length)).sum+xs.length*z.length<=1000000/\Q (.str (Txt.join z xs)) H
def Fo:MtM X "str.join" rJoin:=by
 intro pins s σ H x vs v us Q I rx rv h;obtain⟨z,a,xs,rfl,rfl,hH,hb,q⟩:=h;obtain⟨t,rfl⟩:=rx;obtain⟨u,rfl,ru⟩:=rv.one;cases ru;obtain⟨hz,its,n,r,hl,e⟩:=I.lstM hH;obtain⟨l,e1,e2⟩:=FQ r;refine SC.join (D:=a) (l:=l) (texts:=xs) ⟨_,e,rfl,n,by rw[e1]⟩ e2 ?_ λt' k=>⟨.str _,H,I.tok _,⟨_,rfl⟩,q⟩;unfold JoinOk;rw[List.foldl_toArray,KH];have:Builtin.Str.tooLong (0+(xs.map (·.length)).sum+xs.length*z.length)=false:=zB (by rw[zc];lia);rw[this];rfl
def ap_rStr{x:V}{H:Hp}{Q:VK}:adm [x] H Q=((∃i:Int,x=.int i/\i.natAbs<2^300/\Q (.str (jG i)) H)\/(∃z,x=.str z/\Q (.str z) H)):=by simp[adm]
def ap_rJoin{z:Str}{a:Addr}{H:Hp}{Q:VK}:rJoin (.str z) [.ref a] H Q=∃(xs:List Str),H a=some (.lst (xs.map V.str))/\(xs.map (·.length)).sum+xs.length*z.length<=1000000/\Q (.str (Txt.join z xs)) H:=by simp[rJoin]
end
end L2
namespace L2
open PySem PySem.W PySem.Spec PySem.Calls PyProof.Rows
section
theorem Tg{c:Nat}:∀{a b r s:List Nat},c∉a->c∉b->a++c::r=b++c::s->a=b/\r=s
 |[],[],r,s,_,_,h=>⟨rfl,(yyf h).2⟩
 |[],y::b,r,s,_,hb,h=>(hb (by rw[(yyf h).1];exact zi)).elim
 |x::a,[],r,s,ha,_,h=>(ha (by rw[<-(yyf h).1];exact zi)).elim
 |x::a,y::b,r,s,ha,hb,h=>by
  obtain⟨z,q⟩:=yyf h;obtain⟨e3,e4⟩:=Tg (a:=a) (b:=b) (λm=>ha (zr _ m)) (λm=>hb (zr _ m)) q;exact⟨by rw[z,e3],e4⟩
def BP(c:Nat)(p q:Str)(r:List Str):(Str.join ⟨#[c]⟩ (p::q::r)).cps.toList=p.cps.toList++c::(Str.join ⟨#[c]⟩ (q::r)).cps.toList:=by
 show(p++⟨#[c]⟩++Str.join ⟨#[c]⟩ (q::r)).cps.toList=_;simp only[yv,zzk];simp
def str_ext{a b:Str}(h:a.cps.toList=b.cps.toList):a=b:=Str.ext' (Array.toList_inj.mp h)
theorem Qw(c:Nat):∀{ps qs:List Str},ps≠[]->qs≠[]->(∀p∈ps,c∉p.cps.toList)->(∀q∈qs,c∉q.cps.toList)->(Str.join ⟨#[c]⟩ ps).cps.toList=(Str.join ⟨#[c]⟩ qs).cps.toList->ps=qs
 |[],_,h,_,_,_,_=>(h rfl).elim
 |_,[],_,h,_,_,_=>(h rfl).elim
 |[p],[q],_,_,_,_,h=>by rw[str_ext (a:=p) (b:=q) h]
 |[p],q::q2::qs,_,_,hp,_,h=>by
  rw[BP]at h;have h:p.cps.toList=_:=h;exact(hp p zi (by rw[h];exact zM _ zi)).elim
 |p::p2::ps,[q],_,_,_,hq,h=>by
  rw[BP]at h;have h:_=q.cps.toList:=h;exact(hq q zi (by rw[<-h];exact zM _ zi)).elim
 |p::p2::ps,q::q2::qs,_,_,hp,hq,h=>by
  rw[BP,BP]at h;obtain⟨e1,e2⟩:=Tg (hp p zi) (hq q zi) h;have e3:=Qw c (ps:=p2::ps) (qs:=q2::qs) (zzJ _ _) (zzJ _ _) (λx z=>hp x (zr _ z)) (λx z=>hq x (zr _ z)) e2;rw[str_ext (a:=p) (b:=q) e1,e3]
def split_join{c:Nat}{ps:List Str}(h:ps≠[])(q:∀p∈ps,c∉p.cps.toList):Txt.split (Txt.join ⟨#[c]⟩ ps) ⟨#[c]⟩=ps:=by
 have e:Txt.join ⟨#[c]⟩ ps=Str.join ⟨#[c]⟩ ps:=StrLaws.glued_eq_join _ _;refine Qw c (λz=>?_) h (StrLaws.split_free _ c) q ?_
 ·have:=split_pos (Txt.join ⟨#[c]⟩ ps) ⟨#[c]⟩
  rw[z]at this;exact absurd this (by decide)
 ·rw[StrLaws.join_split,e]
end
section
variable{X:Cx}
theorem Ti:∀(l:List (Str×Tok)),Vals ((l.map (·.1)).map V.str) (strValues l)
 |[]=> .nil
 |(z,t)::l=> .cons ⟨t,rfl⟩ (Ti l)
def RB{prog:Program}{w:World}{A:Around}{E:Value->Shared->Prop}{s:Shared}{x y:Str}{t u:Tok}{Q:Value->Shared->Prop}(hy:(y.length==0)=false)
  (hsz:x.length<=sizeLine) (q:(Builtin.Str.partsBetween x (Builtin.Str.occurrences x y 0 x.length (x.length+1)) y.length).length<=sizeLine)
  (hq:∀(l:List (Str×Tok)) tk,l.map (·.1)=Txt.split x y->Q (.ref s.heap.objs.size) {s with toks:=tk,heap:=s.heap.push {cls:=.type "list",data:=.seq (strValues l).toArray}}):
  (wpAny (model prog w) A (call (.builtin "str.split") [.str x t,.str y u]) Q E s):=by
 cases h1:(decide (x.length<y.length)||decide (Builtin.Str.strKind x<Builtin.Str.strKind y))
 ·cases z:(Builtin.Str.occurrences x y 0 x.length (x.length+1)).isEmpty
  ·refine zzv (s:=s) F.slot_str_split (typeIs_str _ _ _) F.entry_str_split (F.args_str_split_2 _ _) (meets_str_split_sep x y t u h1 hy z hsz q) ?_
   show wants Q E _ {s with toks:=_,heap:=s.heap.push {cls:=.type "list",data:=.seq (strsFrom s.toks (Builtin.Str.partsBetween x (Builtin.Str.occurrences x y 0 x.length (x.length+1)) y.length)).toArray}};rw[strsFrom_eq];exact hq (numbered s.toks _) _ ((numbered_texts _ _).trans ((zk (ne_true_of_eq_false h1)).trans (zk (ne_true_of_eq_false z))).symm)
  ·exact zzv (s:=s) F.slot_str_split (typeIs_str _ _ _) F.entry_str_split (F.args_str_split_2 _ _) (meets_str_split_not_found x y t u h1 hy z)
    (hq [(x,t)] _ ((zk (ne_true_of_eq_false h1)).trans (zp z)).symm)
 ·exact zzv (s:=s) F.slot_str_split (typeIs_str _ _ _) F.entry_str_split (F.args_str_split_2 _ _) (meets_str_split_cannot_occur x y t u h1)
   (hq [(x,t)] _ (zp h1).symm)
noncomputable def Vp:V->List V->Hp->VK->Prop:=λv vs H Q=>∃(z y:Str),v=.str z/\vs=[.str y]/\y.length=1/\z.length<=1000000/\∀p,H p=none->Q (.ref p) (upd H p (.lst ((Txt.split z y).map V.str)))
def Bx:MtM X "str.split" Vp:=by
 intro pins s σ H x vs v us Q I rx rv h;obtain⟨z,y,rfl,rfl,hy,hz,q⟩:=h;obtain⟨t,rfl⟩:=rx;obtain⟨u,rfl,ru⟩:=rv.one;obtain⟨t2,rfl⟩:=ru;have ab:=split_le z y;have hl:(Txt.split z y).length<=sizeLine:=by rw[zc];lia
 refine RB (by rw[hy];rfl) (by rw[zc];lia) ?_ λl tk aa=>?_
 ·rw[len_partsBetween,zc]
  have:=StrLaws.occ_length_le z y 0 z.length (z.length+1);lia
 ·refine⟨.ref s.heap.objs.size,_,I.laid (t':=tk) (o:=.lst ((Txt.split z y).map V.str)) (λb o' e=>zd _ e) (ze _) ?_,rfl,q _ (I.hok.fresh (ze _))⟩
  refine⟨by rw[za];exact hl,strValues l,0,?_,zN _ rfl⟩;rw[<-aa];exact Ti l
def num_text{n:Int}(h0:0<=n)(h1:n.natAbs<2^300):PySem.intText? (jG n)=some n:=by
 have hl:(jG n).length<=400:=lO h1;obtain⟨m,em⟩:=yk h0;subst em
 have hd:NumText.AllDigits (jG ((m:Nat):Int)).cps.toList:=by
  intro c q;unfold jG at q;rw[KIN.signs_num]at q;obtain⟨ch,g2,e⟩:=zC.mp q;have r:=digit_range (zzZ (by decide) (by decide) g2);rw[<-e];exact r
 have z:(jG ((m:Nat):Int)).cps.toList≠[]:=by
  unfold jG;rw[KIN.signs_num];intro e;have h3:=toDigits_len_ge 10 m;rw[List.map_eq_nil_iff.mp e]at h3;exact absurd h3 (by decide)
 have e:=PySem.intText_digits hd z (zF hl (by decide));unfold jG at e⊢;rw[KIN.signs_num,KIN.val_back]at e;exact e
noncomputable def abW:List V->Hp->VK->Prop:=λxs H Q=>∃n:Int,xs=[.str (jG n)]/\0<=n/\n.natAbs<2^300/\Q (.int n) H
def Bw:lX X (.type "int") abW:=by
 intro pins s σ H xs us Q I r h;obtain⟨n,rfl,z,h1,q⟩:=h;obtain⟨u,rfl,ru⟩:=vals1 r;obtain⟨t,rfl⟩:=ru;exact KIN.call_text (num_text z h1) (zF (lO h1) (by decide)) ⟨.int n,H,I.tok _,⟨_,rfl⟩,q⟩
noncomputable def Pr:V->List V->Hp->VK->Prop:=λv vs H Q=>∃(z y:Str),v=.str z/\vs=[.str y]/\Q (.bl (Txt.startswith z y)) H
def JG:MtM X "str.startswith" Pr:=by
 intro pins s σ H x vs v us Q I rx rv h;obtain⟨z,y,rfl,rfl,q⟩:=h;obtain⟨t,rfl⟩:=rx;obtain⟨u,rfl,ru⟩:=rv.one;obtain⟨t2,rfl⟩:=ru;exact SC.startswith ⟨.bl _,H,I,rfl,q⟩
noncomputable def ZV:V->List V->Hp->VK->Prop:=λv vs H Q=>∃(z y:Str),v=.str z/\vs=[.str y]/\y.length=1/\z.length<=1000000/\∀p,H p=none->Q (.ref p) (upd H p (.tup [.str (Txt.partition z y).1,.str (Txt.partition z y).2.1,.str (Txt.partition z y).2.2]))
def Ua{prog:Program}{w:World}{A:Around}{E:Value->Shared->Prop}{s:Shared}{x y:Str}{t u:Tok}{Q:Value->Shared->Prop}(q:(y.length==0)=false)(hsz:x.length<=sizeLine)
  (h:∀ta tb tc k,Q (.ref s.heap.objs.size) {s with toks:=k,heap:=s.heap.push {cls:=.type "tuple",data:=.seq [.str (Txt.partition x y).1 ta,.str (Txt.partition x y).2.1 tb,.str (Txt.partition x y).2.2 tc].toArray}}):
  (wpAny (model prog w) A (call (.builtin "str.partition") [.str x t,.str y u]) Q E s):=by
 refine zzv (s:=s) F.slot_str_partition (typeIs_str _ _ _) F.entry_str_partition (F.args_str_partition_2 _ _) (meets_str_partition x y t u q hsz) ?_;have h':=h;unfold Txt.partition at h';revert h'
 cases Builtin.Str.occurrences x y 0 x.length 1 with
 |nil=>intro h';exact h' _ _ _ _
 |cons i r=>intro h';exact h' _ _ _ _
def Dj:MtM X "str.partition" ZV:=by
 intro pins s σ H x vs v us Q I rx rv h;obtain⟨z,y,rfl,rfl,hy,hz,q⟩:=h;obtain⟨t,rfl⟩:=rx;obtain⟨u,rfl,ru⟩:=rv.one;obtain⟨t2,rfl⟩:=ru;refine Ua (by rw[hy];rfl) (by rw[zc];lia) λta tb tc k=>?_;refine⟨.ref s.heap.objs.size,_,I.laid (t':=k) (o:=.tup [.str (Txt.partition z y).1,.str (Txt.partition z y).2.1,.str (Txt.partition z y).2.2]) (λb o' e=>zd _ e) (ze _) ?_,rfl,q _ (I.hok.fresh (ze _))⟩;exact⟨by rw[zc];simp,[.str (Txt.partition z y).1 ta,.str (Txt.partition z y).2.1 tb,.str (Txt.partition z y).2.2 tc],.cons ⟨_,rfl⟩ (.cons ⟨_,rfl⟩ (.cons ⟨_,rfl⟩ .nil)),_,zN _ rfl,rfl,_,rfl⟩
def ap_rSplit{z y:Str}{H:Hp}{Q:VK}:Vp (.str z) [.str y] H Q=(y.length=1/\z.length<=1000000/\∀p,H p=none->Q (.ref p) (upd H p (.lst ((Txt.split z y).map V.str)))):=by simp[Vp]
def ap_rStarts{z y:Str}{H:Hp}{Q:VK}:Pr (.str z) [.str y] H Q=Q (.bl (Txt.startswith z y)) H:=by simp[Pr]
def ap_rPart{z y:Str}{H:Hp}{Q:VK}:ZV (.str z) [.str y] H Q=(y.length=1/\z.length<=1000000/\∀p,H p=none->Q (.ref p) (upd H p (.tup [.str (Txt.partition z y).1,.str (Txt.partition z y).2.1,.str (Txt.partition z y).2.2]))):=by simp[ZV]
end
end L2
namespace L2
open PySem PySem.W PySem.Spec PySem.Calls PyProof.Rows
section
variable{prog:Program}{w:World}{A:Around}{E:Value->Shared->Prop}{s:Shared}
def Xw(a b:Value):checkTypeCall "enumerate" ⟨[a],[("start",b)]⟩=pure ():=by kernel_rfl
def Ye(a b:Value):checkBuiltinCall "enumerate.__new__" ⟨[.type "enumerate",a],[("start",b)]⟩=pure ():=by kernel_rfl
def Xv(obj a b:Value):argsOk "object.__init__" ⟨[obj,a],[("start",b)]⟩:=F.args_object_init_2 obj a
def adq{T newId q:String}{Bn Bi:Builtin}{args:List Value}{kw:List (Str×Value)}{S:PySem.Spec}{Q Q1:Value->Shared->Prop}(z:TypeCalled T newId q)(ai:checkTypeCall T ⟨args,kw⟩=pure ())(ad:checkBuiltinCall newId ⟨.type T::args,kw⟩=pure ())
  (eN:entryFor table newId=some Bn) (eI:entryFor table q=some Bi) (g:Meets (Bn ⟨.type T::args,kw⟩) S) (h:S A.in1 (wants Q1 E) s)
  (aa:∀obj s1,Q1 obj s1->s1.TypeIs obj T/\argsOk q ⟨obj::args,kw⟩/\∃Si,Meets (Bi ⟨obj::args,kw⟩) Si/\Si A.in1 (wants (λr s2=>r=.none/\Q obj s2) E) s1):wpAny (model prog w) A (call (.type T) args kw) Q E s:=by
 obtain⟨cc,tl,ae⟩:=z.mro;have ah:=z.made;have af:=z.sub;refine zz7 (codeAny_of_tree (?_:wpAny _ _ (callAny (.type T) _) _ _ _));refine zq ⟨Code.quiet_builtin _ (by decide+kernel),codeAny_builtin (F.entry_type_call) ?_⟩;rw[Around.under_plain (weight_type_call_type T args kw) (units_type_call_type T args kw)];have g1:=z.notType;have g2:=z.canCreate
 repeat (any_goals (first|wp_step|assumption))
 refine codeAny_mono (codeAny_call_builtin z.plain eN (wpAny_of_eq ad (g prog w A.in1 _ s h))) λr s1 hr=>?_
 cases r with
 |error e=>exact hr
 |ok fl=>
  cases fl with
  |ret obj=>
   obtain⟨hT,hok,Si,gi,ac⟩:=aa obj s1 hr;have ag:=z.init.lookup;have aj:=z.init.bind obj
   repeat (any_goals (first|wp_step|assumption))
   refine codeAny_mono (codeAny_call_builtin z.init.plain eI (z.init.check _ _ _ _ _ _ _ _ hT hok (gi prog w A.in1 _ s1 ac))) λr2 s2 ab=>?_
   cases r2 with
   |error e=>exact ab
   |ok fl2=>
    cases fl2 with
    |ret r=>
     obtain⟨rfl,hq⟩:=ab
     repeat (any_goals (first|wp_step|assumption))
    |_=>exact ab.elim
  |_=>exact hr.elim
def ZW{T newId:String}{self a:Value}{q:List (Str×Value)}(hl:typeLookup (.type T) "__init__" =pure (some (.builtin "object.__init__"))) (hm:Bind.madeBy (.type T)=pure (some newId)) (aa:(some newId !=some "object.__new__")=true):
  Meets (Builtin.«object.__init__» ⟨[self,a],q⟩) (λ_ R s=>s.TypeIs self T/\R (.ok (.ret .none)) s):=by
 refine Meets.of_wp λp0 w A R s z=>?_;obtain⟨hT,hq⟩:=z
 repeat (any_goals (first|wp_step|assumption))
 exact⟨_,rfl,hq⟩
end
section
variable{prog:Program}{w:World}{A:Around}
def acu{it l:Addr}{items:Array Value}(ab:l≠it)(hh:A.handled=none):Draws prog w A it [it,l] (items.size+1) (λj x=>items[j - 1]? =some x) (λj h=>1<=j/\h.IsListIter it l (j - 1)/\h.IsList l items) where
 live:=λj h ⟨_,⟨o,ho,_⟩,_⟩=>⟨o,ho⟩
 frame:=λj h h' ⟨h1,⟨o,ho,r⟩,⟨ol,z,r2⟩⟩ k=>⟨h1,⟨o,k it (by simp) o ho,r⟩,⟨ol,k l (by simp) ol z,r2⟩⟩
 item:=λj s Q E hj ⟨h1,q,hl⟩ hQ=>by
  have ac:j - 1<items.size:=by lia
  refine wpAny_nextOf_list_item q hl (x:=items[j - 1]) (by simp) λh' aa hs=>hQ _ h' s.toks (by simp) ⟨by lia,?_,?_⟩ hs
  ·rw[show j+1 - 1=j - 1+1 by lia]
   exact aa
  ·obtain⟨ol,z,r⟩:=hl
   exact⟨ol,(hs.2 l ab).trans z,r⟩
 done:=λs Q E ⟨h1,q,hl⟩ hE=>wpAny_nextOf_list_end hh q hl (by simp) hE
def Ul{q l:Addr}{items:Array Value}{n:Nat}(hx:items[n - 1]? =none)(hh:A.handled=none):Draws prog w A q [q,l] n (λ_ _=>False) (λj h=>j=n/\h.IsListIter q l (n - 1)/\h.IsList l items) where
 live:=λj h ⟨_,⟨o,ho,_⟩,_⟩=>⟨o,ho⟩
 frame:=λj h h' ⟨h1,⟨o,ho,r⟩,⟨ol,aa,r2⟩⟩ k=>⟨h1,⟨o,k q (by simp) o ho,r⟩,⟨ol,k l (by simp) ol aa,r2⟩⟩
 item:=λj s Q E hj ⟨h1,_⟩ _=>absurd hj (by lia)
 done:=λs Q E ⟨h1,z,hl⟩ hE=>wpAny_nextOf_list_end hh z hl hx hE
def Xc{M:Model}{E:Value->Shared->Prop}{s:Shared}{env:Env}{pos:Pos}{T:String}{e:Expr}{rest:List Expr}{kws:List Keyword}{Q:Value->Shared->Prop}
  (h:wpAny M A (spliced (backTo pos (starEach (e::rest) env))) (λvs s1=>wpAny M A (evalAll ((backToKw pos (keywordEach kws env)).map (·.2))) (λkvs s2=>wpAny M A (call (.type T) vs (((backToKw pos (keywordEach kws env)).filterMap (·.1)).zip kvs)) Q E s2) E s1) E s)
  (he:backTo pos (starEach (e::rest) env)=(false,eval e env)::backTo pos (starEach rest env)) (aa:(backTo pos (starEach (e::rest) env)).any (·.1)=false)
  (q:(backToKw pos (keywordEach kws env)).all (·.1.isSome)=true) (ab:(backToKw pos (keywordEach kws env)).any (·.1.isNone)=false):
  wpAny M A (callWith pos (.type T) [] (backTo pos (starEach (e::rest) env)) (backToKw pos (keywordEach kws env))) Q E s:=by
 have h2:wpAny M A (evalArgs (.type T) true (backTo pos (starEach (e::rest) env)) (backToKw pos (keywordEach kws env))) (λa s1=>wpAny M A (call (.type T) ([]++a.pos) a.kw) Q E s1) E s:=by
  rw[he]at h⊢;exact evalArgs_kwB q h
 unfold callWith;refine zf (ym (zR h2 (λa s1 h1=>zf (yA ?_)) λ_ _ z=>z));simp only[ab,aa,Bool.or_false];exact zf (zq (zf (zR h1 (λr s2 hr=>zf (ym (wpAny_point (zq hr)))) λ_ _ z=>z)))
def Wg(l:Addr)(items:Array Value)(n:Nat)(z:Option Addr)(sl:Array (Option Value))(t:Tok):
  Meets (Builtin.«enumerate.__new__» ⟨[.type "enumerate",.ref l],[("start",.int 1 t)]⟩) (λ_ R s=>s.heap.get? l=some {cls:=.type "list",dict:=z,data:=.seq items n,slots:=sl}/\
   R (.ok (.ret (.ref (s.heap.push {cls:=.type "list_iterator",data:=.fields #[.ref l,.int 0 0]}).objs.size))) {s with heap:=(s.heap.push {cls:=.type "list_iterator",data:=.fields #[.ref l,.int 0 0]}).push {cls:=.type "enumerate",data:=.fields #[.none,.bool false,.ref s.heap.objs.size,rawInt 1,.none,.none]}}):=
 .of_wp λp0 w A R s h=>by
  obtain⟨hp,gg,d,tk,os⟩:=s;obtain⟨hl,h⟩:=h;have aa:=sub_enumerate;have q:Heap.IsList (Shared.heap ⟨hp,gg,d,tk,os⟩) l items:=⟨_,hl,rfl,n,rfl⟩
  wp_walk using AutoSeq1.wpAny_loadPart' hl
  refine wpAny_stack_any λ_=>zq ?_;split
  ·rename_i c0 _ _ _ _ _
   cases (c0==Value.type "enumerate")
   ·wp_walk using AutoSeq1.wpAny_loadPart' hl,yW q
    exact⟨_,rfl,h⟩
   ·wp_walk using AutoSeq1.wpAny_loadPart' hl,yW q
    exact⟨_,rfl,h⟩
  ·wp_walk using AutoSeq1.wpAny_loadPart' hl,yW q
   exact⟨_,rfl,h⟩
def RJ{E:Value->Shared->Prop}{s:Shared}{l:Addr}{items:Array Value}{t:Tok}{Q:Value->Shared->Prop}(hL:s.heap.IsList l items)
  (h:∀h',IsEnum h' (s.heap.objs.size+1) s.heap.objs.size 1 .none->h'.IsListIter s.heap.objs.size l 0->h'.objs.size=s.heap.objs.size+2->(∀b o,s.heap.get? b=some o->h'.get? b=some o)->Q (.ref (s.heap.objs.size+1)) {s with heap:=h'}):
  wpAny (model prog w) A (call (.type "enumerate") [.ref l] [("start",.int 1 t)]) Q E s:=by
 obtain⟨⟨cc,aa,dt,sl⟩,hl,z,n,hd⟩:=hL;have z:cc=.type "list" :=z;have hd:dt=.seq items n:=hd;subst z hd;refine adq (Q1:=λobj s1=>s1.TypeIs obj "enumerate" /\Q obj s1) F.called_enumerate (Xw _ _) (Ye _ _) F.entry_enumerate_new F.entry_object_init (Wg l items n aa sl t) ⟨hl,?_⟩ λobj s1 hq=>⟨hq.1,Xv obj _ _,_,ZW F.called_enumerate.init.lookup F.called_enumerate.made (by decide),hq.1,rfl,hq.2⟩;have q:(s.heap.push {cls:=.type "list_iterator",data:=.fields #[.ref l,.int 0 0]}).objs.size=s.heap.objs.size+1:=by rw[zzy]
 have he:IsEnum ((s.heap.push {cls:=.type "list_iterator",data:=.fields #[.ref l,.int 0 0]}).push {cls:=.type "enumerate",data:=.fields #[.none,.bool false,.ref s.heap.objs.size,rawInt 1,.none,.none]}) (s.heap.objs.size+1) s.heap.objs.size 1 .none:=by
  have:=zN (s.heap.push {cls:=.type "list_iterator",data:=.fields #[.ref l,.int 0 0]}) (o:={cls:=.type "enumerate",data:=.fields #[.none,.bool false,.ref s.heap.objs.size,rawInt 1,.none,.none]}) rfl;rw[q]at this;exact this
 show _/\_;rw[q];exact⟨⟨_,he,rfl⟩,h _ he ⟨_,zd _ (zN _ rfl),rfl,rfl⟩ (by rw[zzy,q]) λb o x=>zd _ (zd _ x)⟩
end
noncomputable def acX(K:Fg_)(a:Addr):It:=
 ⟨λi H=>∃xs x,SqL K H a xs/\xs[i]? =some x,
   λi H v H'=>∃p x,H p=none/\v=.ref p/\H'=upd H p (.tup [.int ((i+1:Nat):Int),x])/\∀xs,SqL K H a xs->xs[i]? =some x,
   λi H=>∃xs,SqL K H a xs/\xs.length<=i⟩
def Ru{P:Program}{w:World}{K:Fg_}{elts:List Expr}{x1:Nat}{pos:Pos}(a e it:Addr)(ae:e≠it):
  Turn P w K (.Tuple elts x1 pos) (acX K a) [e,it] e (λi h=>(∃ab,IsEnum h e it ((i+1:Nat):Int) ab)/\h.IsListIter it a i) where
 mem:=by simp
 obj:=λi h st c hb=>by
  obtain⟨⟨ab,he⟩,⟨o1,e1,c1,d1⟩⟩:=st;simp only[zh,zg,or_false]at hb;rcases hb with rfl|rfl
  ·exact⟨_,he,λv z=>by cases z⟩
  ·exact⟨_,e1,λv z=>by rw[d1]at z;cases z⟩
 keep:=λi h h' st k=>by
  obtain⟨⟨ab,he⟩,h1⟩:=st;exact⟨⟨ab,k _ (by simp) _ he⟩,h1.at λo e=>k _ (by simp) o e⟩
 item:=by
  intro X hP hw hK hc i pins s σ H E I hf st hg;subst hP hw hK;obtain⟨xs,x,ad,hx⟩:=hg;obtain⟨aa,af,p1,_⟩:=I.list ad;obtain⟨u1,ah,al⟩:=af.get hx;obtain⟨⟨ab,he⟩,h1⟩:=st;have hL:=p1.isList
  have ak:a≠it:=λz=>by
   obtain⟨o1,g1,c1,_⟩:=h1;obtain⟨o2,g2,c2,_⟩:=hL;rw[z,g1]at g2;cases g2;rw[c1]at c2;exact absurd c2 (by decide)
  have aj:e≠a:=λz=>by
   obtain⟨o2,g2,c2,_⟩:=hL;rw[<-z,he]at g2;cases g2;exact absurd (show Value.type "enumerate" =Value.type "list" from c2) (by decide)
  have hsz:i+1<aa.toArray.size+1:=by
   have:=(zv.mp ah).1;simp;lia
  refine wpAny_pyNext_enum_itemD (acu ak (A:=X.A.in1) (show X.A.in1.handled=none from I.ok.hd hc)) he ⟨by lia,h1,hL⟩ hsz ae (by simp;exact⟨ae,aj⟩) λx' h' tk ac a1 a2 a3 a4 a5=>?_
  have ex:x'=u1:=by
   have ac:aa.toArray[i]? =some x':=ac;rw[show aa.toArray[i]? =some u1 by simpa using ah]at ac;exact(zt ac).symm
  rw[ex]at a1 a3;obtain⟨_,a2,_⟩:=a2;have a2:h'.IsListIter it a (i+1):=a2;refine⟨_,rfl,zz9 (s:={s with heap:=h',toks:=tk+1}) a1 λag b1 b2=>?_⟩;have ne:s.heap.objs.size≠e:=zzY (zu he)
  have k:∀c o,c∉[e,it]->s.heap.get? c=some o->ag.get? c=some o:=λc o hc q=>by
   simp only[zh,zg,or_false,not_or]at hc;exact(b2.2 c hc.1).trans (a5 c o hc.1 hc.2 q)
  have ai:ag.get? s.heap.objs.size=some {cls:=.type "tuple",data:=.seq #[.int ((i+1:Nat):Int) tk,u1]}:=(b2.2 _ ne).trans a3
  refine ⟨.ref s.heap.objs.size,upd H s.heap.objs.size (.tup [.int ((i+1:Nat):Int),x]),I.turnedT (t':=tk+1) hf (ze _) k ⟨by rw[zc];simp,[.int ((i+1:Nat):Int) tk,u1],.cons ⟨_,rfl⟩ (.cons al .nil),_,ai,rfl,_,rfl⟩,rfl,
   ⟨_,x,I.hok.fresh (ze _),rfl,rfl,λam q=>by rw[I.list_inj q ad];exact hx⟩,⟨⟨u1,by simpa using b1⟩,a2.at λo q=>(b2.2 _ (Ne.symm ae)).trans q⟩,λc hb=>?_⟩
  obtain ⟨o,q⟩:∃o,s.heap.get? c=some o:=by
   simp only[zh,zg,or_false]at hb;rcases hb with rfl|rfl
   ·exact⟨_,he⟩
   ·obtain⟨o,q,_⟩:=h1;exact⟨o,q⟩
  rw[fX (zK (zu q))];exact(hf c hb).1
 done:=by
  intro X hP hw hK hc i pins s σ H E I hf st hg;subst hP hw hK;obtain⟨xs,ad,hx⟩:=hg;obtain⟨aa,af,p1,_⟩:=I.list ad;obtain⟨⟨ab,he⟩,h1⟩:=st;have l1:=af.length;have hL:=p1.isList;refine wpAny_pyNext_enum_endD (Ul (n:=i+1) (A:=X.A.in1) (items:=aa.toArray) (by simp;lia) (show X.A.in1.handled=none from I.ok.hd hc)) he ⟨rfl,h1,hL⟩ λh' k=>⟨rfl,I.turnedN (t':=s.toks) hf λc o hc q=>?_⟩;simp only[zh,zg,or_false,not_or]at hc;exact k c o hc.2 q
 self:=λ_ _ _ _ _ st h=>by
  obtain⟨⟨ab,he⟩,_⟩:=st;exact zzF he h
section
variable{X:Cx}{K:Fg_}{ta:TA}{elts:List Expr}{x1:Nat}{tpos:Pos}
noncomputable def Zq(K:Fg_)(ta:TA):TI:=λσ H R=>ta σ H λvs H1=>∃a,vs=[.ref a]/\(∃xs,SqL K H1 a xs)/\R (acX K a) H1
def Yr{a:Expr}{p pos kpos cpos:Pos}{j:Nat}(hg:Gl X "enumerate") (hm:X.mg "enumerate" =none) (ha:PA X [a] ta) (he:backTo pos (starEach [a] X.env)=(false,eval a X.env)::backTo pos (starEach [] X.env):=by rfl) (hpl:(backTo pos (starEach [a] X.env)).any (·.1)=false:=by rfl) (hK:X.K=K:=by rfl):
  PI X (.Tuple elts x1 tpos) (.Call (.Name "enumerate" p) [a] [⟨some "start",.Constant (.int 1) j cpos,kpos⟩] pos) (Zq K ta):=by
 subst hK;intro pins s σ H R I h;refine yi (Et I hg hm (show bootBuiltins "enumerate" =some (.type "enumerate")from by decide+kernel) ?_);refine Xc (thn (ha pos pins s σ H _ I h) λus s1 ⟨vs,H1,I1,r1,l1,e,⟨xs,hx⟩,q⟩=>?_) he hpl rfl rfl;have hk:PK X [⟨some "start",.Constant (.int 1) j cpos,kpos⟩] (jW (tC (.int 1)) Ka):=aas fH acy;refine thn (hk pos pins s1 σ H1 (λzs H2=>zs=[.int 1]/\H2=H1) I1 ⟨rfl,rfl⟩) λws z ⟨zs,H2,I2,rz,ez,eH⟩=>?_;subst ez eH e;obtain⟨u,rfl,ru⟩:=vals1 r1;cases ru;obtain⟨v1,rfl,aa⟩:=vals1 rz;obtain⟨ad,rfl⟩:=aa;obtain⟨ac,_,p1,_⟩:=I2.list hx;refine RJ p1.isList λh' g1 g2 g3 k=>?_;have I3:Inv X pins σ H2 {z with heap:=h'}:=I2.kept (t':=z.toks) k;refine zzF (s:={z with heap:=h'}) g1 ⟨_,[z.heap.objs.size+1,z.heap.objs.size],_,_,H2,rfl,I3,Ru l1 _ _ (show((z.heap.objs.size:Nat)+1≠z.heap.objs.size) by lia),⟨⟨_,g1⟩,g2⟩,λc hc=>?_,q⟩
 have hc':z.heap.objs.size<=c:=by
  simp only[zh,zg,or_false]at hc
  have ab:∃k:Nat,c=z.heap.objs.size+k:=by
   rcases hc with rfl|rfl
   ·exact⟨1,rfl⟩
   ·exact⟨0,rfl⟩
  obtain⟨k,rfl⟩:=ab;exact yyg _ k
 exact I2.fpOk hc' (I2.hok.fresh hc')
def ap_iEnum1{σ:St}{H:Hp}{R:It->Hp->Prop}:Zq K ta σ H R=ta σ H λvs H1=>∃a,vs=[.ref a]/\(∃xs,SqL K H1 a xs)/\R (acX K a) H1:=rfl
variable{σ:St}{H:Hp}{g:TG}{tb:TS}{D:Ends}{a:Addr}{xs:List V}
def Dr.enum1(q:Nat->St->Hp->Prop)(h0:q 0 σ H)(hl:∀i σ H,i<=xs.length->q i σ H->SqL K H a xs)
  (hs:∀i x σ H p,xs[i]? =some x->q i σ H->H p=none->g (.ref p) σ (upd H p (.tup [.int ((i+1:Nat):Int),x])) λσ2 H2=>tb {D with nx:=q (i+1),ct:=q (i+1),bk:=D.nx} σ2 H2) (hd:∀σ H,q xs.length σ H->D.nx σ H):Dr (acX K a) g tb D σ H:=by
 refine⟨λi m σ H=>m=xs.length - i/\i<=xs.length/\q i σ H,⟨xs.length,by simp,zQ _,h0⟩,?_⟩;rintro i m σ H ⟨rfl,hi,p⟩;have q1:=hl i σ H hi p;by_cases z:i<xs.length
 ·refine .inr ⟨⟨xs,xs[i],q1,by simp[z]⟩,q (i+1),λσ' H' p'=>⟨xs.length - (i+1),by lia,rfl,z,p'⟩,λv H' y=>?_⟩
  obtain⟨pp,x,hp,rfl,rfl,e1⟩:=y;exact hs i x σ _ pp (e1 xs q1) p hp
 ·have e:i=xs.length:=by lia
  subst e;exact .inl ⟨⟨xs,q1,ze _⟩,hd σ H p⟩
end
end L2
namespace L2
open PySem PySem.W PySem.Spec PyProof.Rows
section
noncomputable def Jd(K:Fg_)(w:World)(a:Addr)(kvs:List (Key×V)):Prop:=
 (a==sysModules)=false/\∃(es:List DictEntry)(ep:Nat)(vs:List (Key×Value)),K.lookup a=some ⟨.type "dict",none,.dict es.toArray ep, #[]⟩/\KV kvs vs/\
  (∀P,Pairs (jm P w) es vs)/\(∀e∈es,∃k,Od k e.key=true/\e.hash=Yv w k)/\(vs.map (·.1)).Nodup
variable{X:Cx}{K:Fg_}{a:Addr}{kvs:List (Key×V)}{pins:List (Addr×Obj)}{σ:St}{H:Hp}{s:Shared}
def Jd.at(g:Jd X.K X.w a kvs)(I:Inv X pins σ H s):∃vs,KV kvs vs/\s.heap.DictOf (jm X.prog X.w) a vs:=by
 obtain⟨_,es,q,vs,hl,hv,hp,hk,hn⟩:=g;exact⟨vs,hv,_,es.toArray,q,I.kIn a _ hl,⟨rfl,rfl,rfl⟩,rfl,λe z=>hk e (by simpa using z),by simpa using hp X.prog,hn⟩
noncomputable def acA(K:Fg_)(w:World)(td ty:TE):TE:=λσ H Q=>td σ H λx H1=>ty σ H1 λy H2=>∃a kvs k v,x=.ref a/\Jd K w a kvs/\y=kV k/\oF kvs k=some v/\Q v H2
def VN{w:World}{o i:Expr}{pos:Pos}{td ty:TE}(ho:PE X o td)(hi:PE X i ty)(hs:adJ i)(hK:X.K=K:=by rfl)(hw:X.w=w:=by rfl):PE X (.Subscript o i pos) (acA K w td ty):=by
 subst hK hw;intro pins s σ H Q I h;refine Vo PySem.F.slot_dict_getitem.lookup hs (thn (ho pins s σ H _ I h) λu s1 ⟨x,H1,I1,rx,q1⟩=>thn (hi pins s1 σ H1 _ I1 q1) λiv s2 ⟨y,H2,z,ry,a,kvs,k,v,ex,g,ey,l,q2⟩=>?_);subst ex ey;obtain rfl:u=Value.ref a:=rx;obtain⟨vs,rel,dd⟩:=g.at z;obtain⟨w',hw,q⟩:=HY.some_of (v:=v) (o:=valueAt vs k) (by rw[<-l];exact rel.val k);exact⟨dd.typeIs,wpAny_getItem_of (Ir ry) dd.mapOf hw ⟨v,H2,z.tok _,q,q2⟩⟩
noncomputable def aea(K:Fg_)(w:World)(neg:Bool):R2:=λy x H Q=>∃a kvs k,x=.ref a/\Jd K w a kvs/\y=kV k/\Q (.bl (if neg then !(oF kvs k).isSome else(oF kvs k).isSome)) H
def Ui{w:World}(hK:X.K=K:=by rfl)(hw:X.w=w:=by rfl):OpR X (compareOp .NotIn) (aea K w true):=by
 subst hK hw;intro pins s σ H y x v u Q I z rx h;obtain⟨a,kvs,k,rfl,g,rfl,q⟩:=h;cases rx;obtain⟨vs,rel,dd⟩:=g.at I;refine wpAny_notIn_of (Ir z) g.1 dd.mapOf ?_;rw[<-(rel.val k).isSome_eq];exact⟨.bl _,H,I.tok _,rfl,q⟩
variable{td ty:TE}{Q:VK}{w:World}
def ap_gget:acA K w td ty σ H Q=td σ H λx H1=>ty σ H1 λy H2=>∃a kvs k v,x=.ref a/\Jd K w a kvs/\y=kV k/\oF kvs k=some v/\Q v H2:=rfl
def ap_inG{q:Bool}{x y:V}:aea K w q y x H Q=∃a kvs k,x=.ref a/\Jd K w a kvs/\y=kV k/\Q (.bl (if q then !(oF kvs k).isSome else(oF kvs k).isSome)) H:=rfl
end
end L2
namespace L2
open PySem PySem.W PySem.Spec PyProof.Rows
section
variable{X:Cx}
noncomputable def aee(te tf:TE):TE:=λσ H Q=>te σ H λv H1=>∃x:Str,v=.str x/\x.length<=1000/\tf σ H1 λu H2=>∃i:Int,u=.int i/\i.natAbs<2^300/\∀z,Q (.str z) H2
noncomputable def acz(te tf tg:TE):TE:=λσ H Q=>te σ H λv H1=>∃x:Str,v=.str x/\x.length<=1000/\tf σ H1 λu H2=>∃i:Int,u=.int i/\i.natAbs<2^300/\tg σ H2 λu H3=>∃j:Int,u=.int j/\j.natAbs<2^300/\∀z,Q (.str z) H3
variable{e f g:Expr}{pos:Pos}
def e0'(z:Str):(Str.empty++z)=z:=by
 show Str.mk (#[]++z.cps)=z;rw[zz2]
def la'(y z:Str):(y++z).length=y.length+z.length:=by
 show(y.cps++z.cps).size=_;rw[yyd];rfl
def WD{y z:Str}{j1 j2:Nat}{p1 p2 p3 p4:Pos}{te tf:TE}(he:PE X e te)(hf:PE X f tf)(h1:y.length<=1000:=by decide+kernel)(h2:z.length<=1000:=by decide+kernel):
  PE X (.JoinedStr [.FormattedValue e (-1) none p1,.Constant (.str y) j1 p2,.FormattedValue f (-1) none p3,.Constant (.str z) j2 p4] pos) (aee te tf):=by
 intro pins s σ H Q I h;refine yyk (Joins_cons (yd ?_));refine thn (he pins _ σ H _ I h) λv s1 ⟨w,H1,I1,r1,x,ex,hx,q⟩=>?_;subst ex;obtain⟨t1,rfl⟩:=r1;have l1:(Str.empty++x).length<=1000:=by rw[e0'];exact hx
 refine wpAny_formatField_str ⟨_,_,rfl,by rw[zc];lia,?_⟩ ⟨_,_,rfl,by rw[zc];lia,?_⟩ (by rw[zc];lia)
 all_goals
  refine Joins_cons (Calls.Constant_str ⟨y,_,rfl,by rw[la',zc];lia,Joins_cons (yd ?_)⟩);refine thn (hf pins _ σ H1 _ (I1.tok _) q) λv s2 ⟨w,H2,I2,r2,j,ej,hj,q⟩=>?_;subst ej;obtain⟨t2,rfl⟩:=r2;have aa:(jG j).length<=400:=lO hj;refine zzg (Qh hj) ⟨_,_,rfl,by rw[la',la',zc];show _+(jG j).length<=_;lia,Joins_cons (Calls.Constant_str ⟨z,_,rfl,by rw[la',la',la',zc];show _+(jG j).length+_<=_;lia,Joins_nil ⟨by rw[la',la',la',zc];show _+(jG j).length+_<=_;lia,.str _,H2,I2.tok _,⟨_,rfl⟩,q _⟩⟩)⟩
def RM{y z:Str}{j1 j2:Nat}{p1 p2 p3 p4 p5:Pos}{te tf tg:TE}(he:PE X e te)(hf:PE X f tf)(hg:PE X g tg)(h1:y.length<=1000:=by decide+kernel)(h2:z.length<=1000:=by decide+kernel):
  PE X (.JoinedStr [.FormattedValue e (-1) none p1,.Constant (.str y) j1 p2,.FormattedValue f (-1) none p3,.Constant (.str z) j2 p4,.FormattedValue g (-1) none p5] pos) (acz te tf tg):=by
 intro pins s σ H Q I h;refine yyk (Joins_cons (yd ?_));refine thn (he pins _ σ H _ I h) λv s1 ⟨w,H1,I1,r1,x,ex,hx,q⟩=>?_;subst ex;obtain⟨t1,rfl⟩:=r1;have l1:(Str.empty++x).length<=1000:=by rw[e0'];exact hx
 refine wpAny_formatField_str ⟨_,_,rfl,by rw[zc];lia,?_⟩ ⟨_,_,rfl,by rw[zc];lia,?_⟩ (by rw[zc];lia)
 all_goals
  refine Joins_cons (Calls.Constant_str ⟨y,_,rfl,by rw[la',zc];lia,Joins_cons (yd ?_)⟩);refine thn (hf pins _ σ H1 _ (I1.tok _) q) λv s2 ⟨w,H2,I2,r2,j,ej,hj,q⟩=>?_;subst ej;obtain⟨t2,rfl⟩:=r2;have aa:(jG j).length<=400:=lO hj;refine zzg (Qh hj) ⟨_,_,rfl,by rw[la',la',zc];show _+(jG j).length<=_;lia,Joins_cons (Calls.Constant_str ⟨z,_,rfl,by rw[la',la',la',zc];show _+(jG j).length+_<=_;lia,Joins_cons (yd ?_)⟩)⟩;refine thn (hg pins _ σ H2 _ (I2.tok _) q) λv s3 ⟨w,H3,I3,r3,i,ei,hi,q⟩=>?_;subst ei;obtain⟨t3,rfl⟩:=r3;have ab:(jG i).length<=400:=lO hi;refine zzg (Qh hi) ⟨_,_,rfl,by rw[la',la',la',la',zc];show _+(jG j).length+_+(jG i).length<=_;lia,Joins_nil ⟨by rw[la',la',la',la',zc];show _+(jG j).length+_+(jG i).length<=_;lia,.str _,H3,I3.tok _,⟨_,rfl⟩,q _⟩⟩
def ap_FTI{te q:TE}{σ:St}{H:Hp}{Q:VK}:aee te q σ H Q=te σ H λv H1=>∃x:Str,v=.str x/\x.length<=1000/\q σ H1 λu H2=>∃i:Int,u=.int i/\i.natAbs<2^300/\∀z,Q (.str z) H2:=rfl
def ap_FTII{te q tg:TE}{σ:St}{H:Hp}{Q:VK}:acz te q tg σ H Q=te σ H λv H1=>∃x:Str,v=.str x/\x.length<=1000/\q σ H1 λu H2=>∃i:Int,u=.int i/\i.natAbs<2^300/\tg σ H2 λu H3=>∃j:Int,u=.int j/\j.natAbs<2^300/\∀z,Q (.str z) H3:=rfl
end
end L2
namespace HT
open PySem PyProof.Rows
section
open PySem.SeqAt
open PySem.AutoSeq1 (wpAny_loadPart')
open PySem.MeetsSeq PySem.MeetsSeq2 PySem.MeetsSeq3
end
end HT
namespace L2
open PySem PySem.W PySem.Spec PySem.Calls PyProof.Rows
section
variable{X:Cx}
noncomputable def aeo:V->Option Int->Option Int->Hp->VK->Prop:=λx lo hi H Q=>∃z:Str,x=.str z/\z.length<=sizeLine/\Q (.str (Txt.slice z lo hi)) H
def Cw:SlR X aeo:=by
 intro pins s σ H x v vl vu lo hi sl Q I rx hs pl pu h;obtain⟨z,rfl,hz,q⟩:=h;obtain⟨t,rfl⟩:=rx
 have aa:∀{v:Value}{o:Option Int},IsPart v o->∃l,v=partValue l/\l.map (·.1)=o:=fun{v o} h=>by
  cases h with
  |none=>exact⟨none,rfl,rfl⟩
  |int i t=>exact⟨some (i,t),rfl,rfl⟩
 obtain⟨l,rfl,rfl⟩:=aa pl;obtain⟨u,rfl,rfl⟩:=aa pu;refine⟨"str",_,slot_str_getitem.lookup,typeIs_str s z t,?_⟩;refine wpAny_getItem_str_slice (st:=none) hs rfl ?_;have hl:=Txt.slice_le z (l.map (·.1)) (u.map (·.1));unfold Txt.slice at hl q;unfold sliceMade;split
 ·rename_i ab
  rw[zp (by exact ab)]at q;exact⟨.str z,H,I,⟨_,rfl⟩,q⟩
 ·rename_i ab
  rw[zk (by exact ab)]at hl q;exact⟨zF hl hz,.str _,H,I.tok _,⟨_,rfl⟩,q⟩
end
end L2
namespace L2
open PySem PySem.Spec PyProof.Rows
section
variable{K:Fg_}{H:Hp}{Q:VK}{σ:St}{v:V}{a0 a1 a2 a3 a4 a5 a6 a7 a8 a9:Option V}
def rd{x C dx:Addr}{fs:List (Str×V)}{f:Str}{R:V->Prop}(h:H x=some (.ins C dx fs))(c:Cls K C)(n:gD K C f)(l:List.lookup f fs=some v)(k:R v):∃C dx fs,H x=some (.ins C dx fs)/\Cls K C/\gD K C f/\∃v,List.lookup f fs=some v/\R v:=⟨C,dx,fs,h,c,n,v,l,k⟩
def sw{x C dx:Addr}{fs:List (Str×V)}{f:Str}{R:Addr->Addr->List (Str×V)->Prop}(h:H x=some (.ins C dx fs))(c:Cls K C)(n:gD K C f)(l:fs.length<1000)(k:R C dx fs):∃C dx fs,H x=some (.ins C dx fs)/\Cls K C/\gD K C f/\fs.length<1000/\R C dx fs:=⟨C,dx,fs,h,c,n,l,k⟩
def sz{n:Nat}(h:n<=1000:=by decide):n<=sizeLine:=by rw[zc];lia
def md{x C dx:Addr}{fs:List (Str×V)}{m:Str}{tab:List (Addr×Sp)}{sp:Sp}{R:Sp->Prop}(h:H x=some (.ins C dx fs))(i:(C,sp)∈tab)(l:List.lookup m fs=Option.none)(k:R sp):∃C dx fs,H x=some (.ins C dx fs)/\∃sp,(C,sp)∈tab/\List.lookup m fs=Option.none/\R sp:=⟨C,dx,fs,h,sp,i,l,k⟩
def ln0{α:Type}{P:List α->Prop}(h:P []):∀us:List α,us.length=0->P us:=by
 intro us e
 cases us with
 |nil=>exact h
 |cons=>cases e
def lnS{α:Type}{P:List α->Prop}{n:Nat}(h:∀a us,us.length=n->P (a::us)):∀us:List α,us.length=n+1->P us:=by
 intro us e
 cases us with
 |nil=>cases e
 |cons a us=>exact h a us (Nat.succ.inj e)
def ln1{α:Type}{P:List α->Prop}(h:∀a0,P [a0]):∀us:List α,us.length=1->P us:=lnS λa=>ln0 (h a)
def ln2{α:Type}{P:List α->Prop}(h:∀a0 a1,P [a0,a1]):∀us:List α,us.length=2->P us:=lnS λa=>ln1 (h a)
def ln3{α:Type}{P:List α->Prop}(h:∀a0 a1 a2,P [a0,a1,a2]):∀us:List α,us.length=3->P us:=lnS λa=>ln2 (h a)
def ln4{α:Type}{P:List α->Prop}(h:∀a0 a1 a2 a3,P [a0,a1,a2,a3]):∀us:List α,us.length=4->P us:=lnS λa=>ln3 (h a)
def ln5{α:Type}{P:List α->Prop}(h:∀a0 a1 a2 a3 a4,P [a0,a1,a2,a3,a4]):∀us:List α,us.length=5->P us:=lnS λa=>ln4 (h a)
def ln6{α:Type}{P:List α->Prop}(h:∀a0 a1 a2 a3 a4 a5,P [a0,a1,a2,a3,a4,a5]):∀us:List α,us.length=6->P us:=lnS λa=>ln5 (h a)
def ln7{α:Type}{P:List α->Prop}(h:∀a0 a1 a2 a3 a4 a5 a6,P [a0,a1,a2,a3,a4,a5,a6]):∀us:List α,us.length=7->P us:=lnS λa=>ln6 (h a)
def ln8{α:Type}{P:List α->Prop}(h:∀a0 a1 a2 a3 a4 a5 a6 a7,P [a0,a1,a2,a3,a4,a5,a6,a7]):∀us:List α,us.length=8->P us:=lnS λa=>ln7 (h a)
end
end L2
namespace L2
open PySem PySem.Spec PyProof.Rows
section
variable{X:Cx}{K:Fg_}{H:Hp}{Q:VK}{σ:St}{v:V}{a0 a1 a2 a3 a4 a5 a6 a7 a8 a9 a10 a11 a12 a13 a14:Option V}{P:V->Prop}{R:Addr->Prop}{i:Nat}{f m:Str}{tab:List (Addr×Sp)}{E:XK}{t:TA}{tv:TE}{D:Ends}{e:Expr}{tg:Expr}{st:Stmt}{a:Addr}
noncomputable def atV(σ:St)(i:Nat)(P:V->Prop):Prop:=match σ[i]? with
 |some (some v)=>P v
 |_=>False
noncomputable def onR(x:V)(P:Addr->Prop):Prop:=match x with
 |.ref a=>P a
 |_=>False
def atV_iff:atV σ i P=∃v,σ[i]? =some (some v)/\P v:=by
 unfold atV;split
 ·next v e=>exact propext ⟨λh=>⟨v,e,h⟩,fun⟨w,q,h⟩=>by rw[e]at q;cases q;exact h⟩
 ·next n=>exact propext ⟨λh=>h.elim,fun⟨w,q,_⟩=>(n w q).elim⟩
def JL{x:V}:onR x R=∃a,x=.ref a/\R a:=propext ⟨λh=>by
 cases x<;>first|exact h.elim|exact⟨_,rfl,h⟩,fun⟨a,e,h⟩=>by rw[e];exact h⟩
noncomputable def tV(i:Nat):TE:=λσ H Q=>atV σ i λv=>Q v H
noncomputable def tFV(K:Fg_)(i:Nat)(f:Str):TE:=λσ H Q=>atV σ i λx=>onR x λa=>∃C dx fs,H a=some (.ins C dx fs)/\Cls K C/\gD K C f/\∃v,List.lookup f fs=some v/\Q v H
noncomputable def tMV(tab:List (Addr×Sp))(m:Str)(E:XK)(i:Nat)(t:TA):TE:=λσ H Q=>atV σ i λx=>onR x λa=>∃C dx fs,H a=some (.ins C dx fs)/\∃sp,(C,sp)∈tab/\List.lookup m fs=none/\t σ H λvs H2=>sp (.ref a::vs) H2 Q E
noncomputable def sFV(K:Fg_)(i:Nat)(tv:TE)(f:Str):TS:=λD σ H=>tv σ H λy H1=>atV σ i λx=>onR x λa=>∃C dx fs,H1 a=some (.ins C dx fs)/\Cls K C/\gD K C f/\fs.length<1000/\D.nx σ (upd H1 a (.ins C dx (Ec f y fs)))
noncomputable def iLV(K:Fg_)(i:Nat):TI:=λσ H R=>atV σ i λx=>onR x λa=>(∃xs,SqL K H a xs)/\R (Itl K a) H
def adt:Ny i=tV i:=funext λσ=>funext λH=>funext λQ=>atV_iff.symm
def acF:abS K (Ny i) f=tFV K i f:=by
 funext σ H Q;unfold tFV abS Ny;rw[atV_iff];simp only[JL,exists_and_left]
def abD:Ql tab m E (Ny i) t=tMV tab m E i t:=by
 funext σ H Q;unfold tMV Ql Ny;rw[atV_iff];simp only[JL];refine propext ⟨fun⟨v,e,a,C,dx,fs,sp,q,h1,h2,z,h4⟩=>⟨v,e,a,q,C,dx,fs,h1,sp,h2,z,q▸h4⟩,fun⟨v,e,a,q,C,dx,fs,h1,sp,h2,z,h4⟩=>⟨v,e,a,C,dx,fs,sp,q,h1,h2,z,q▸h4⟩⟩
def abi:acr K (Ny i) tv f=sFV K i tv f:=by
 funext D σ H;unfold sFV acr Ny;simp only[atV_iff,JL,exists_and_left]
def abG:SQ K (Ny i)=iLV K i:=by
 funext σ H R;unfold iLV SQ Ny;rw[atV_iff];simp only[JL]
noncomputable def aaV(x:Str):Bool:=!(x==("__debug__" :Str)) && !(x==("__classdict__" :Str))
def orl{α:Sort _}{a:α}{p:Prop}:a=a\/p:=Or.inl rfl
def orr{α:Sort _}{a:α}{p:Prop}:p\/a=a:=Or.inr rfl
def nd1{x:Str}:[x].Nodup:=yQ.mpr ⟨zg,List.nodup_nil⟩
def nm1{x:Str}(h:aaV x=true):(x==("__debug__" :Str))=false:=by unfold aaV at h;revert h;cases x==("__debug__" :Str)<;>simp
def nm2{x:Str}(h:aaV x=true):(x==("__classdict__" :Str))=false:=by unfold aaV at h;revert h;cases x==("__classdict__" :Str)<;>simp
def pvD(i:Nat){x:Str}{pos:Pos}(q:X.N[i]? =some x:=by rfl)(hv:Vis X.env.scope x:=by walk_at "o") (hd:aaV x=true:=by rfl):PE X (.Name x pos) (tV i):=adt▸pv i q hv (nm1 hd) (nm2 hd)
def pav(i:Nat){x:Str}{pos:Pos}{es:List Expr}{t:TA}(z:PA X es t)(q:X.N[i]? =some x:=by rfl)(hv:Vis X.env.scope x:=by walk_at "o") (hd:aaV x=true:=by rfl) (hs:starEach (.Name x pos::es) X.env=(false,eval (.Name x pos) X.env)::starEach es X.env:=by rfl):PA X (.Name x pos::es) (jW (tV i) t):=fG (pvD i q hv hd) z hs
def aao{pos:Pos}(q:PE X e (Ny i))(hb:attributeBase e f X.env (eval e X.env)=eval e X.env)(z:X.K=K:=by rfl):PE X (.Attribute e f pos) (tFV K i f):=acF▸ZP q hb z
def iY{o value:Expr}{pos pos':Pos}(ha:PE X o (Ny i))(hv:PE X value tv)(q:swapsWith value (some (.Attribute o f pos')) pos.line X.env=pure false)(z:X.K=K:=by rfl):PS X (.Assign [.Attribute o f pos'] value pos) (sFV K i tv f):=abi▸Zw ha hv q z
def mQ(hl:PE X e (Ny i))(q:X.K=K:=by rfl):PI X tg e (iLV K i):=abG▸lU hl q
def nJ{CX:CXT}{pos apos:Pos}{o:Expr}{pl:Sem Bool}(q:PE X o (Ny i))(T:WR X CX m tab)(z:xO CX X E)
  (ht:eval (.Call (.Attribute o m apos) [] [] pos) X.env=(do
   let ov<-eval o X.env
   standAt apos.atName
   let(f,first)<-holding [ov] (getMethod ov m pl)
   callWith pos f first (backTo pos (starEach [] X.env)) (backToKw pos (keywordEach [] X.env))):=by rfl):
  PE X (.Call (.Attribute o m apos) [] [] pos) (tMV tab m E i Ka):=abD▸Vr (pl:=pl) q T z ht
def av_V:tV i σ H Q=atV σ i λv=>Q v H:=rfl
def av_F:tFV K i f σ H Q=atV σ i λx=>onR x λa=>∃C dx fs,H a=some (.ins C dx fs)/\Cls K C/\gD K C f/\∃v,List.lookup f fs=some v/\Q v H:=rfl
def av_M:tMV tab m E i t σ H Q=atV σ i λx=>onR x λa=>∃C dx fs,H a=some (.ins C dx fs)/\∃sp,(C,sp)∈tab/\List.lookup m fs=none/\t σ H λvs H2=>sp (.ref a::vs) H2 Q E:=rfl
def av_S:sFV K i tv f D σ H=tv σ H λy H1=>atV σ i λx=>onR x λa=>∃C dx fs,H1 a=some (.ins C dx fs)/\Cls K C/\gD K C f/\fs.length<1000/\D.nx σ (upd H1 a (.ins C dx (Ec f y fs))):=rfl
def av_L{R:It->Hp->Prop}:iLV K i σ H R=atV σ i λx=>onR x λa=>(∃xs,SqL K H a xs)/\R (Itl K a) H:=rfl
def av_r:onR (.ref a) R=R a:=rfl
def av0:atV (some v::σ) 0 P=P v:=rfl
def av1:atV (a0::some v::σ) 1 P=P v:=rfl
def av2:atV (a0::a1::some v::σ) 2 P=P v:=rfl
def av3:atV (a0::a1::a2::some v::σ) 3 P=P v:=rfl
def av4:atV (a0::a1::a2::a3::some v::σ) 4 P=P v:=rfl
def av5:atV (a0::a1::a2::a3::a4::some v::σ) 5 P=P v:=rfl
def av6:atV (a0::a1::a2::a3::a4::a5::some v::σ) 6 P=P v:=rfl
def av7:atV (a0::a1::a2::a3::a4::a5::a6::some v::σ) 7 P=P v:=rfl
def av8:atV (a0::a1::a2::a3::a4::a5::a6::a7::some v::σ) 8 P=P v:=rfl
def av9:atV (a0::a1::a2::a3::a4::a5::a6::a7::a8::some v::σ) 9 P=P v:=rfl
def av10:atV (a0::a1::a2::a3::a4::a5::a6::a7::a8::a9::some v::σ) 10 P=P v:=rfl
def av11:atV (a0::a1::a2::a3::a4::a5::a6::a7::a8::a9::a10::some v::σ) 11 P=P v:=rfl
def av12:atV (a0::a1::a2::a3::a4::a5::a6::a7::a8::a9::a10::a11::some v::σ) 12 P=P v:=rfl
def av13:atV (a0::a1::a2::a3::a4::a5::a6::a7::a8::a9::a10::a11::a12::some v::σ) 13 P=P v:=rfl
def av14:atV (a0::a1::a2::a3::a4::a5::a6::a7::a8::a9::a10::a11::a12::a13::some v::σ) 14 P=P v:=rfl
def av15:atV (a0::a1::a2::a3::a4::a5::a6::a7::a8::a9::a10::a11::a12::a13::a14::some v::σ) 15 P=P v:=rfl
def pc{k n:Nat}{f:Addr}{fd:FuncData}{ps:List Str}{sp:Sp}{x:Str}{p pos:Pos}{es:List Expr}(F:ji X.prog X.w X.K X.mg X.base CX0 k f fd ps sp)(z:nY n X.A)(hm:X.mg x=some (.ref f))(hk:PySem.W.keepIn X.K (.ref f)=true)(hb:Binds X.K fd ps [])(ha:PA X (e::es) t)(q:k<=n:=by decide)(hg:Gl X x:=by rfl)(hd:(x==("__debug__" :Str))=false:=by decide)
  (hst:starEach (e::es) X.env=(false,eval e X.env)::starEach es X.env:=by rfl) (hpl:(backTo pos (starEach es X.env)).any (·.1)=false:=by rfl):PE X (.Call (.Name x p) (e::es) [] pos) (Rc sp [] E0 t):=iC F (z.mono q) hg hm hk hb .nil Jv ha hd hst hpl
def mc{CX:CXT}{C f:Addr}{fd:FuncData}{ps:List Str}{sp:Sp}{k n:Nat}{r:List (Addr×Sp)}(c:Cls X.K C)(hm:Meth X.K C m f)(F:ji X.prog X.w X.K X.mg X.base CX k f fd ps sp)(z:nY n X.A)(hb:Binds X.K fd ps [])(t:WR X CX m r)(q:k<=n:=by decide):WR X CX m ((C,sp)::r):=.cons c hm F (z.mono q) hb t
end
end L2
namespace L2
open PySem PySem.Spec PyProof.Rows
structure FG(K:Fg_)(mg:Str->Option Value)(x:Str)(st:Stmt)(f:Addr)(fd:FuncData):Prop where
 m:mg x=some (.ref f)
 k:PySem.W.keepIn K (.ref f)=true
 F:Fun K x x st f fd
section
variable{X:Cx}{t:TA}{e:Expr}
def pcg{k n:Nat}{f:Addr}{fd:FuncData}{ps:List Str}{sp:Sp}{x:Str}{st:Stmt}{p pos:Pos}{es:List Expr}(F:ji X.prog X.w X.K X.mg X.base CX0 k f fd ps sp)(z:nY n X.A)(g:FG X.K X.mg x st f fd)(hb:Binds X.K fd ps [])(ha:PA X (e::es) t)(q:k<=n:=by decide)(hg:Gl X x:=by rfl)(hd:(x==("__debug__" :Str))=false:=by decide)
  (hst:starEach (e::es) X.env=(false,eval e X.env)::starEach es X.env:=by rfl) (hpl:(backTo pos (starEach es X.env)).any (·.1)=false:=by rfl):PE X (.Call (.Name x p) (e::es) [] pos) (Rc sp [] E0 t):=iC F (z.mono q) hg g.m g.k hb .nil Jv ha hd hst hpl
end
end L2
namespace L2
open PySem PySem.Spec PyProof.Rows
section
variable{M:Model}{A:Around}{E:Value->Shared->Prop}{s:Shared}
def JP{base:Heap}{l:List Env}{e L:Addr}{cls a0 fl:Value}{Q:Unit->Shared->Prop}(ad:base.StaysIn s.heap)(hl:s.heap.FunFrames base l)(R:s.heap.TracedAtW base e cls a0 fl)
  (h:∀h',base.StaysIn h'->h'.FunFrames base l->h'.TracedAtW base e cls a0 (rawInt L)->s.heap.UpToSlots h'->Q () {s with heap:=h'}):wpAny M A (setFlight (.ref e) (some L)) Q E s:=by
 obtain⟨oe,vs,T,oT,ts,he,hc,hd,h1,ab,ac,hT,aa,h3⟩:=R;have z3:3<ts.size:=(zz3.mp h3).1;have z:∀b,b≠T->(s.heap.update T (Obj.mapFields (·.setIfInBounds 3 ((some L).elim Value.none λf=>rawInt f)))).get? b=s.heap.get? b:=λb hb=>yE _ _ (Ne.symm hb)
 have nr:∀b o,s.heap.get? b=some o->(∀vs,o.data≠.fields vs)->b≠T:=λb o hb hn q=>by
  rw[q,hT]at hb;injection hb with hb;subst hb;exact hn ts aa
 unfold setFlight;refine zf (zzm he hd h1 ?_);rw[zp (show(Value.ref T !=Value.none)=true from by simp)];refine wpAny_setField hT aa z3 (h _ (λb o hb=>(z b λq=>by rw[q,ab]at hb;cases hb).trans (ad b o hb)) (hl.of_keeps λb o hb hn=>⟨o,(z b (nr b o hb hn)).trans hb,rfl⟩) ?_ λb o hb hn=>⟨o.slots,(z b (nr b o hb hn)).trans hb⟩);exact⟨oe,vs,T,_,_,(z e (Ne.symm ac)).trans he,hc,hd,h1,ab,ac,yg _ hT (Obj.isFreed_of_fields (Obj.data_mapFields aa _)),Obj.data_mapFields aa _,by simp[z3]⟩
def GC{base:Heap}{env:Env}{outer:List Env}{L e:Addr}{z:Obj}{vs:Array Value}{a0:Value}{Q:Unit->Shared->Prop}
  (q:A.frames=some (env::outer)) (hl:s.heap.FunFrames base (env::outer)) (hf:env.frame=some L)
  (he:s.heap.get? e=some z) (aa:base.StaysIn s.heap) (ab:base.get? e=none) (hd:z.data=.fields vs) (h1:vs[1]? =some .none) (h0:vs[0]? =some a0)
  (h:∀h',Heap.NotedW base (env::outer) e z.cls a0 (rawInt L) s.heap h'->Q () {s with heap:=h'}):wpAny M A (noteFrame (.ref e) env) Q E s:=by
 unfold noteFrame;simp only[hf];refine zf (zzm he hd h1 ?_);rw[zk (by decide)];exact wpAny_entryW q hl hf he aa ab hd (zz3.mp h1).1 h0 h
end
noncomputable def Wh(X:Cx)(E:XK):Prop:=∀(pins:List (Addr×Obj))(σ:St)(H:Hp)(s:Shared)(e C d ea:Addr)(t0:Value),Inv X pins σ H s->s.heap.get? e=some ⟨.ref C,some d,.fields #[t0,.none,.ref ea,.none,.bool true,.none], #[]⟩->H e=none->X.s₀.heap.get? e=none->E (.ref C) (some d) H->
 notedBy (model X.prog X.w) (X.A.mark (some (.ref ea))) X.env (λx s2=>cameBackBy (model X.prog X.w) X.A X.env X.xe x s2) (.ref e) s
section
variable{P:Program}{w:World}{K:Fg_}{mg:Str->Option Value}{base:Heap}{N:List Str}{qual:Str}{scope:Scope}{f:Addr}{cd:Value}{A:Around}{outer:List Env}{s₀:Shared}{H₀:Hp}{E:XK}
def Rf:Wh (pJ (CX1 P w) P w K mg base N qual scope f cd A outer s₀ H₀ E) E:=by
 intro pins σ H s e C d ea t0 I he hH hs hE;have fr:=I.ok.frames;have ad:∀env∈(envOfC qual scope s₀.heap.objs.size f cd::outer),∀b,env.frame=some b->b∈e::frs (envOfC qual scope s₀.heap.objs.size f cd::outer):=λenv he b hb=>zr _ (yc.mpr ⟨env,he,hb⟩);have stk:s.heap.FunFrames (PySem.W.hideAll s.heap (e::frs (envOfC qual scope s₀.heap.objs.size f cd::outer))) (envOfC qual scope s₀.heap.objs.size f cd::outer):=zzC I.stack ad;have ab:(PySem.W.hideAll s.heap (e::frs (envOfC qual scope s₀.heap.objs.size f cd::outer))).get? e=none:=zzj _ zi;show wpAny _ _ (noteFrame (.ref e) (envOfC qual scope s₀.heap.objs.size f cd)) _ _ s;refine zR (kZ (KD.noteFrame _ _) (GC (base:=PySem.W.hideAll s.heap (e::frs (envOfC qual scope s₀.heap.objs.size f cd::outer))) (Q:=λ_ s2=>∃h2,s2={s with heap:=h2}/\Heap.NotedW (PySem.W.hideAll s.heap (e::frs (envOfC qual scope s₀.heap.objs.size f cd::outer))) (envOfC qual scope s₀.heap.objs.size f cd::outer) e (.ref C) t0 (rawInt s₀.heap.objs.size) s.heap h2) fr stk rfl he (λb o q=>zz1 _ q) ab rfl rfl rfl λh2 lw=>⟨h2,rfl,lw⟩)) (λ_ s2 z=>?_) (λ_ _ z=>z);obtain⟨⟨h2,rfl,n1,n2,n3,n4⟩,aa⟩:=z
 show wpAny _ _ (do
  if(<-field (.ref e) 1)==.none then unsupported "frame.own-activation:exception-without-traceback"
  setFlight (.ref e) (some s₀.heap.objs.size)) _ _ _
 obtain⟨oe,vs,T,oT,ts,g1,g2,g3,g4,g5⟩:=id n3;refine zf (zzm g1 g3 g4 ?_);rw[zk (show¬((Value.ref T==Value.none)=true)from by simp)];refine zR (kZ (KD.setFlight _ _) (JP (Q:=λ_ s2=>∃h3,s2={s with heap:=h3}/\(PySem.W.hideAll s.heap (e::frs (envOfC qual scope s₀.heap.objs.size f cd::outer))).StaysIn h3/\h3.FunFrames (PySem.W.hideAll s.heap (e::frs (envOfC qual scope s₀.heap.objs.size f cd::outer))) (envOfC qual scope s₀.heap.objs.size f cd::outer)/\h3.TracedAtW (PySem.W.hideAll s.heap (e::frs (envOfC qual scope s₀.heap.objs.size f cd::outer))) e (.ref C) t0 (rawInt s₀.heap.objs.size)/\h2.UpToSlots h3) n1 n2 n3 λh3 a b c d=>⟨h3,rfl,a,b,c,d⟩)) (λ_ s3 z=>?_) (λ_ _ z=>z);obtain⟨⟨h3,rfl,m1,m2,m3,m4⟩,ae⟩:=z;show wpAny _ _ (leaving (envOfC qual scope s₀.heap.objs.size f cd) (.ref e)) _ _ _;unfold leaving;refine zf (wpAny_noteFrame_againW rfl m3 ?_);refine zR (kZ (KD.setFlight _ _) (wpAny_setFlight_noneW (Q:=λ_ s2=>∃h4,s2={s with heap:=h4}/\(PySem.W.hideAll s.heap (e::frs (envOfC qual scope s₀.heap.objs.size f cd::outer))).StaysIn h4/\h4.FunFrames (PySem.W.hideAll s.heap (e::frs (envOfC qual scope s₀.heap.objs.size f cd::outer))) (envOfC qual scope s₀.heap.objs.size f cd::outer)/\h4.TracedW (PySem.W.hideAll s.heap (e::frs (envOfC qual scope s₀.heap.objs.size f cd::outer))) e (.ref C) t0/\h3.UpToSlots h4) m1 m2 m3 λh4 a b c d=>⟨h4,rfl,a,b,c,λq o z1 z2=>⟨o.slots,d q o z1 z2⟩⟩)) (λ_ s3 z=>?_) (λ_ _ z=>z);obtain⟨⟨h4,rfl,p1,p2,p3,p4⟩,ac⟩:=z;exact HB I he rfl rfl rfl rfl hH hs hE (λz=>nomatch z) ⟨p1,p2,p3,((show s.heap.UpToSlots h2 from n4).trans m4).trans p4⟩ ((aa.trans ae).trans ac)
end
end L2
namespace L2
open PySem PySem.Spec PyProof.Rows
section
variable{prog:Program}{w:World}{A:Around}{E:Value->Shared->Prop}
def JH:entryFor table "proto.unchain" =some Builtin.«proto.unchain»:=entryFor_of_fast (by kernel_rfl)
def Ja:plainId "proto.unchain" =true:=by decide+kernel
def Rq{s:Shared}{e ea:Addr}{z:Obj}{q:Array Value}{Q:Value->Shared->Prop}(ha:s.heap.get? ea=some z)(hd:z.data=.fields q)(h2:q[2]? =some .none)(hq:Q .none s):
  wpAny (model prog w) A (runValue (.builtin "proto.unchain" ⟨[.ref e,.ref ea,.ref ea,.bool false],[]⟩)) Q E s:=by
 refine wpAny_runValue (codeAny_builtin JH ?_);rw[Around.under_plainId Ja _]
 show wpAny _ _ (do
  let context<-field (.ref ea) 2
  if context==.none then return<-ret .none
  if context==Value.ref e then
   rule "raise.context-cycle-cut"
   setField (.ref ea) 2 .none
   return<-ret .none
  if context==Value.ref ea then rule "raise.context-old-cycle";return<-ret .none
  let slow<-if false then field (.ref ea) 2 else pure (Value.ref ea)
  again (.builtin "proto.unchain" ⟨[.ref e,context,slow,.bool !false],[]⟩)) _ _ s
 refine zf (zzm ha hd h2 ?_);rw[zp (by decide)];exact zq hq
def Pk{C N ea:Addr}{nm q:Str}{bs bm:List Value}{hdct:Bool}{sn:List Str}{sub:List Value}{ab:Bool}{col:Option Bool}{dd:Option Addr}{k0 k1 k2 k3 k5:Option Value}{newId:String}{env:Env}{s:Shared}{x c:Sem Value}{Q:Flow->Shared->Prop}
  (hB:bm.contains (.type "BaseException")=true) (hh:A.handled=some (.ref ea)) (hc:∀{s:Shared}{R:Value->Shared->Prop},R .none s->wpAny (model prog w) A c R E s)
  (hx:wpAny (model prog w) A x (λv s₁=>∃e d t0 oa va,v=.ref e/\s₁.heap.get? C=some (excClassObj nm q C N bs bm hdct sn sub ab col dd k0 k1 k2 k3 k5 newId)/\s₁.heap.get? e=some ⟨.ref C,some d,.fields #[t0,.none,.none,.none,.bool false,.none], #[]⟩/\ea≠e/\
   s₁.heap.get? ea=some oa/\oa.data=.fields va/\va[2]? =some .none/\∀h',h'.get? e=some ⟨.ref C,some d,.fields #[t0,.none,.ref ea,.none,.bool true,.none], #[]⟩->(∀b,b≠e->h'.get? b=s₁.heap.get? b)->E (.ref e) {s₁ with heap:=h'}) (λ_ _=>False) s):
  wpAny (model prog w) A (raiseStmt env (some x) (some c)) Q E s:=by
 unfold raiseStmt;refine zf (zR hx (λv s₁ hv=>?_) λ_ _ z=>False.elim z);obtain⟨e,d,t0,oa,va,rfl,gC,ge,aa,ga,gd,g2,hE⟩:=hv;obtain⟨h,g,dr,t,os⟩:=s₁;have af:(Value.ref C::bm).contains (.type "BaseException")=true:=by rw[y9,hB,yyi]
 refine zf (ym (hc (zf (zq ?_))));dsimp only;refine zf (ym ?_);unfold excFromValue
 repeat (any_goals (first|assumption|(with_reducible refine zO ge ?_)|(with_reducible refine zO gC ?_)|(with_reducible refine y4 gC ?_;rw[af])|wp_step))
 have e1:(h.update e (Obj.mapFields λx=>x.setIfInBounds 3 Value.none)).get? e=some ⟨.ref C,some d,.fields #[t0,.none,.none,.none,.bool false,.none], #[]⟩:=yg (o:=⟨.ref C,some d,.fields #[t0,.none,.none,.none,.bool false,.none], #[]⟩) _ ge rfl;have e2:((h.update e (Obj.mapFields λx=>x.setIfInBounds 3 Value.none)).update e (Obj.mapFields λx=>x.setIfInBounds 4 (Value.bool true))).get? e=some ⟨.ref C,some d,.fields #[t0,.none,.none,.none,.bool true,.none], #[]⟩:=yg (o:=⟨.ref C,some d,.fields #[t0,.none,.none,.none,.bool false,.none], #[]⟩) _ e1 rfl;have e3:∀b,b≠e->((h.update e (Obj.mapFields λx=>x.setIfInBounds 3 Value.none)).update e (Obj.mapFields λx=>x.setIfInBounds 4 (Value.bool true))).get? b=h.get? b:=λb hb=>(yE _ _ (Ne.symm hb)).trans (yE _ _ (Ne.symm hb))
 have ae:C≠e:=λz=>by
  have gC:h.get? C=_:=gC;have ge:h.get? e=_:=ge;rw[z,ge]at gC;exact absurd (congrArg Obj.data (zt gC)) (λz=>nomatch z)
 generalize(h.update e (Obj.mapFields λx=>x.setIfInBounds 3 Value.none)).update e (Obj.mapFields λx=>x.setIfInBounds 4 (Value.bool true))=h2 at e2 e3⊢;have ad:=(e3 C ae).trans gC;have ac:=(e3 ea aa).trans ga;refine zO ad ?_;refine zq ?_;rw[zp (by rfl)];refine zq ?_;refine zf ?_;unfold setFlight;refine zf (zzm (x:=Value.none) e2 rfl rfl ?_);rw[zk (show¬((Value.none !=Value.none)=true)from by decide)];refine zq ?_;unfold raiseNew;refine zf (wpAny_handled ?_);rw[hh];dsimp only;rw[zp (show(Value.ref ea !=Value.ref e)=true from by simpa using aa)];refine zf (ym (Rq ac gd g2 ?_));refine zf ?_;refine wpAny_setField (a:=e) (i:=2) e2 rfl (show 2<6 from by decide) ?_;refine wpAny_throw (hE _ ?_ λb hb=>?_)
 ·exact yg (o:=⟨.ref C,some d,.fields #[t0,.none,.none,.none,.bool true,.none], #[]⟩) _ e2 rfl
 ·exact(yE _ _ (Ne.symm hb)).trans (e3 b hb)
end
end L2
namespace L2
open PySem PySem.Spec PyProof.Rows
structure UG(k:Nat)(A:Around):Prop where
 dp:A.depth+3*k+5<recursionLimit
 un:A.units+16*k+200<cLine
def UG.make{k:Nat}{A:Around}(r:UG (k+1) A)(C:Addr)(us:List Value)(q:List (Str×Value)):UG k (A.under (.builtin "type.__call__" ⟨.ref C::us,q⟩)):=
 ⟨by have:=r.dp;rw[Hy];lia,by have:=r.un;rw[Ie];lia⟩
structure Ry(P:Program)(w:World)(K:Fg_)(mg:Str->Option Value)(base:Heap)(k:Nat)(f:Addr)(fd:FuncData)(ps:List Str)(sp:Sp):Prop where
 len:∀vs H Q E,sp vs H Q E->vs.length=ps.length
 run:∀(A:Around)(outer:List Env)(s:Shared)(H:Hp)(args:Args)(us:List Value)(vs:List V)(Q:VK)(E:XK),UG k A->Zh P w K mg base A outer s H->BindsTo s fd args (ps.zip us)->Vals vs us->sp vs H Q E->
  codeAny (model P w) A (.call (.ref f) args) (CR CX0 outer P w H s Q E) s
def Ry.ok{P:Program}{w:World}{K:Fg_}{mg:Str->Option Value}{base:Heap}{k:Nat}{f:Addr}{fd:FuncData}{ps:List Str}{sp:Sp}(F:Ry P w K mg base k f fd ps sp):ji P w K mg base CX0 k f fd ps sp:=
 ⟨F.len,λA outer s H args us vs Q E q=>F.run A outer s H args us vs Q E ⟨q.dp,q.un⟩⟩
abbrev cxH(P:Program)(w:World)(K:Fg_)(mg:Str->Option Value)(base:Heap)(N:List Str)(qual:Str)(scope:Scope)(f:Addr)(cd:Value)(A:Around)(outer:List Env)(s:Shared)(H:Hp):Cx:=
 {pJ CX0 P w K mg base N qual scope f cd A outer s H E0 with calm:=false,xe:=λ_ _=>False}
def Fun.okH{P:Program}{w:World}{K:Fg_}{mg:Str->Option Value}{base:Heap}{x qual:Str}{st:Stmt}{f:Addr}{fd:FuncData}{N ps:List Str}{k:Nat}{sp:Sp}(F:Fun K x qual st f fd)(S:gb N ps (fP st))(len:∀vs H Q E,sp vs H Q E->vs.length=ps.length)
  (ac:∀(aa:Value)(A:Around)(outer:List Env)(s:Shared)(H:Hp)(vs:List V)(Q:VK)(E:XK),sp vs H Q E->
   ∃t,PSs (cxH P w K mg base N qual (fP st) f aa A outer s H) (iK st) t/\t {nx:=λ_ H'=>Q .non H',rt:=Q} (start N vs) H):Ry P w K mg base (k+1) f fd ps sp:=by
 obtain⟨oc,od,kV,ai,pm,an,aa,ct,ah,rfl,lk,af⟩:=F.ex;refine⟨len,λA outer s H args us vs Q E hr e0 hb r ae=>?_⟩;have hl:=len _ _ _ _ ae;have KX:K.In s.heap:=e0.mod.kin.keeps λb o e=>(e0.bs b o e).1;have ag:s.heap.NoLimit:=e0.mod.nolimit.keeps λb o e=>(e0.bs b o e).1
 have ab:∀y∈ps.zip us,(fP st).names.lookup y.1=some .local\/((fP st).names.lookup y.1=some .cell/\((cellsFrom (s.heap.objs.size+1) (fP st).names []).lookup y.1).isSome=true):=fun⟨n,v⟩ hy=>by
  rcases S.par n (zzQ hy).1 with q|q
  ·exact .inl q
  ·exact .inr ⟨q,zzz _ _ _ (.inl q)⟩
 refine codeAny_call_function (by have:=hr.dp;lia) (KX _ _ lk) rfl S.co S.gen rfl (PySem.W.codeRec_of KX af) (hb _ _ _ _ ?_);refine zz8 S.kind ab λenv he s1 x=>?_;subst he;refine⟨ag.keeps x.toInCall.keep,codeAny_func ?_⟩;obtain⟨t,ht,hq⟩:=ac aa A outer s H vs Q E ae;have J:Inv (pJ CX0 P w K mg base N qual (fP st) f aa {A with handled:=none} outer s H E0) [] (start N vs) H s1:=Kg S rfl ⟨e0.frames,e0.mod,e0.bs,e0.bsz,e0.funs,e0.frf,e0.hok,e0.bare⟩ hl r x
 have I:Inv (cxH P w K mg base N qual (fP st) f aa A outer s H) [] (start N vs) H s1:=
  ⟨⟨J.ok.mod,J.ok.kind,J.ok.glob,J.ok.blt,J.ok.above,J.ok.inj,J.ok.has,J.ok.cab,λz=>(nomatch z),Around.frames_deeper e0.frames,J.ok.stk,J.ok.exf,J.ok.bs,J.ok.bsz,J.ok.noex,J.ok.exfs,J.ok.funs,J.ok.frf⟩,J.os,J.bare,J.base,J.loc,J.cell,J.free,J.freeC,J.pin,J.hok,J.len⟩
 refine zR (ht [] s1 (start N vs) H _ I hq) (λfl s' hs=>?_) λe s' hs=>False.elim hs
 have ad:∀{σ':St}{H':Hp}{v:V}{u:Value},Inv (cxH P w K mg base N qual (fP st) f aa A outer s H) [] σ' H' s'->RelV v u->Q v H'->CE outer P w H s Q u s':=
  fun{σ' H' v u} J rv q=>⟨v,H',J.os,J.bare,J.base,J.hok,rv,q⟩
 cases fl with
 |ret u=>
  obtain⟨v,σ',H',J,rv,q⟩:=hs;exact ad J rv q
 |next=>
  obtain⟨σ',H',J,q⟩:=hs;exact ad (v:=V.non) (u:=Value.none) J rfl q
 |brk=>
  obtain⟨_,_,_,q⟩:=hs;exact False.elim q
 |cont=>
  obtain⟨_,_,_,q⟩:=hs;exact False.elim q
section
variable{X:Cx}{k:Nat}{f C:Addr}{fd:FuncData}{ps:List Str}{sp:Sp}{dvs:List V}{ds:List Value}
def RD{pins:List (Addr×Obj)}{σ:St}{H:Hp}{s:Shared}{Q:Addr->Hp->Prop}{us:List Value}{vs:List V}(M:xx X.K C f)(F:Ry X.prog X.w X.K X.mg X.base k f fd ps sp)(hr:UG (k+1) X.A)(hb:Binds X.K fd ps ds)(hd:Vals dvs ds)
  (I:Inv X pins σ H s) (r:Vals vs us) (hz:vs.length<=sizeLine)
  (h:∀e,H e=none->sp (.ref e::(vs++dvs)) (upd H e (Ke C e)) (λv H2=>v=.non/\Q e H2) E0):
  wpAny (model X.prog X.w) X.A (call (.ref C) us) (λu s'=>∃e H',u=.ref e/\X.s₀.heap.objs.size<=e/\Inv X pins σ H' s'/\Q e H') X.xe s:=by
 obtain⟨nm,qn,N,bs,bm,sn,sub,ab,col,dd,k0,k1,k2,k3,k5,g1,g2⟩:=M.obj I.kIn;obtain⟨oI,g3,g4⟩:=M.fun_ I.kIn;have hsz:=I.sz;have aa:=I.kIn;have hq:=h (s.heap.objs.size+1) (I.hok.fresh (zzw _));obtain⟨h0,g,d,tt,os⟩:=s;refine acL (K:=X.K) aa yr g2 g1 M.ini g3 g4 (by rw[<-r.length];exact hz) λh' mk=>?_;obtain⟨t0,q1,q2,q3⟩:=mk.there;have I2:Inv X pins σ (upd H (h0.objs.size+1) (Ke C (h0.objs.size+1))) ⟨h',g,d,tt,os⟩:=I.laid (t':=tt) mk.keeps (zzw _) (show iZ _ _ _ _ _ (Ke C _)from⟨⟨_,q1⟩,⟨_,q1⟩,λh1 h2 ⟨t1,z⟩ kk=>⟨t1,kk _ z⟩⟩);have r2:Vals (V.ref (h0.objs.size+1)::(vs++dvs)) (Value.ref (h0.objs.size+1)::(us++ds)):=.cons rfl (r.append hd)
 have hl:(Value.ref (h0.objs.size+1)::us++ds).length=ps.length:=by
  have e:=r2.length;rw[F.len _ _ _ _ hq]at e;exact e.symm
 refine codeAny_mono (F.run _ X.stack _ _ ⟨Value.ref (h0.objs.size+1)::us,[]⟩ (Value.ref (h0.objs.size+1)::(us++ds)) _ _ E0 (hr.make C us []) (I2.env0.make C us []) (hb _ (Value.ref (h0.objs.size+1)::us) I2.kIn hl) r2 hq) λr s' q=>?_
 cases r with
 |error e=>exact False.elim q
 |ok fl=>
  cases fl with
  |ret u=>
   obtain⟨v,H',I3,rv,ev,q3⟩:=I2.after q;subst ev;exact⟨rv,⟨_,H',rfl,zF hsz (zzw _),I3,q3⟩⟩
  |next=>exact False.elim q
  |brk=>exact False.elim q
  |cont=>exact False.elim q
end
end L2
namespace L2
open PySem PySem.Spec PyProof.Rows
section
variable{X:Cx}{k:Nat}{f C D:Addr}{fd:FuncData}{ps:List Str}{E:XK}{x y fn:Str}{np yp cpos pos rpos kpos hpos rp:Pos}{e a ke:Expr}{es:List Expr}{t:TA}{te:TX}
noncomputable def Rr(C e:Addr):HO:=.ext λh=>∃o vs,h.get? e=some o/\o.cls=.ref C/\o.data=.fields vs/\vs[2]? =some .none
noncomputable def abE(te:TX)(C D:Addr)(fn:Str)(E:XK)(t:TA):TS:=λDn σ H=>te σ H (λv H1=>Dn.rt v H1) λcls dd H1=>cls=.ref C/\dd=none/\∀ea,H1 ea=none->t σ (upd H1 ea (Rr C ea)) λvs H2=>∃n:Int,vs=[.int n]/\n.natAbs<2^300/\H2 ea=some (Rr C ea)/\∀d,H2 d=none->E (.ref D) (some d) (upd H2 d (.xd [(fn,.int n)]))
def Inv.landedN{pins:List (Addr×Obj)}{σ:St}{H1 H':Hp}{q s':Shared}{ea C:Addr}{a0:Value}{B h6:Heap}(I:Inv X pins σ H1 q)(os:s'.os=q.os)(bare:AllBare s'.gens)(un:Un (frs X.stack) [] H1 H' q.heap s'.heap)(hok:HOk X.prog X.w H' B)
  (fl:Heap.FlyingW B X.stack ea (.ref C) a0 s'.heap) (k1:∀b o,q.heap.get? b=some o->H1 b=none->b∉frs X.stack->B.get? b=some o) (k2:∀b o,q.heap.get? b=some o->b∉frs X.stack->∃o',B.get? b=some o') (hn:H' ea=none)
  (aa:Heap.FlyingW B X.stack ea (.ref C) a0 h6) (ab:s'.heap.UpToSlots h6) (ac:Bf h6 ea none):Inv X pins σ (upd H' ea (Rr C ea)) {s' with heap:=h6}:=by
 have I0:=I.landed os bare un hok fl k1 k2 hn aa ab
 have eH:upd (upd H' ea (aeb C ea)) ea (Rr C ea)=upd H' ea (Rr C ea):=by
  funext b;by_cases hb:b=ea
  ·subst hb;rw[fL,fL]
  ·rw[fX hb,fX hb,fX hb]
 rw[<-eH];obtain⟨oe,vs,q3,cc,dd,_⟩:=aa.first
 obtain⟨o2,q4,q5,q6⟩:=ac;rw[q3]at q4;cases q4;exact I0.write (t':=s'.toks) (x:=ea) (e:=ea) (by rw[fL];exact True.intro) (.inl rfl) (λb u _ z=>z) ⟨_,q3⟩ (show iZ _ _ _ _ _ (Rr C ea)from⟨⟨oe,vs,q3,cc,dd,q6 rfl vs dd⟩,⟨oe,q3⟩,λh1 h2 ⟨o,v2,e1,e2⟩ k=>⟨o,v2,k o e1,e2⟩⟩)
def aaf{fI:Addr}(hR:Wh X E)(h:PEx X (CX1 X.prog X.w) e te)(c:acv X.K C)(hg:Gl X x)(hm:X.mg x=some (.ref C))(bh:X.env.frame=some X.env.locals)(ae:X.stack=X.env::X.outer)
  (M:xx X.K D f) (F:Ry X.prog X.w X.K X.mg X.base k f fd ps (Jf D fn)) (hr:nY (k+1) X.A) (aq:Gl X y) (ba:X.mg y=some (.ref D)) (hb:Binds X.K fd ps []) (ha:∀ea,PA (X.inSuite ea) (a::es) t)
  (hd:(x==("__debug__" :Str))=false:=by decide) (hdb:(y==("__debug__" :Str))=false:=by decide) (hce:eval ke X.env=pure Value.none:=by rfl)
  (he:starEach (a::es) X.env=(false,eval a X.env)::starEach es X.env:=by rfl) (hpl:(backTo cpos (starEach es X.env)).any (·.1)=false:=by rfl):
  PS X (.Try [.Return (some e) rpos] [.ExceptHandler (some (.Name x np)) none [.Raise (some (.Call (.Name y yp) (a::es) [] cpos)) (some ke) rp] hpos] [] [] pos) (abE te C D fn E t):=by
 intro pins s σ H Dn I hw;refine wpAny_Try_except (zzL (wpAny_Return_some (zR (h pins s σ H _ _ I hw) (λv s1 ⟨y,H1,I1,r1,q1⟩=>?_) λev s' hx=>?_)))
 ·exact⟨y,σ,H1,I1,r1,q1⟩
 obtain⟨H1,s1,I1,ea,C',a0,H',B,dd,rfl,os,bare,un,hok,fl,k1,k2,hn,bi,hC,bd,hE⟩:=hx;subst bd;have bj:C'=C:=Value.ref.inj hC;subst bj;have fl':=fl;rw[ae]at fl';have az:X.A.frames=some (X.env::X.outer):=by rw[<-ae];exact I.ok.frames
 refine zR (kZ (KD.noteFrame _ _) (wpAny_looks_onW (Q:=λ_ s2=>∃h4,s2={s' with heap:=h4}/\Heap.HeldW B (X.env::X.outer) ea (.ref C') a0 X.env.locals h4/\Heap.UpToSlots s'.heap h4) az bh fl' λh4 aa ag=>⟨h4,rfl,aa,ag⟩)) (λ_ s2 z=>?_) (λ_ _ z=>z);obtain⟨⟨h4,rfl,aa,ag⟩,bf⟩:=z;refine zR (kZ (KD.setFlight _ _) (wpAny_landsW (Q:=λ_ s2=>∃h5,s2={s' with heap:=h5}/\Heap.FlyingW B (X.env::X.outer) ea (.ref C') a0 h5/\Heap.UpToSlots h4 h5) aa λh5 ad ah=>⟨h5,rfl,ad,ah⟩)) (λ_ s2 z=>?_) (λ_ _ z=>z);obtain⟨⟨h5,rfl,ad,ah⟩,be⟩:=z;have am:Bf h5 ea none:=(bi.dk bf).dk be;have up5':=ag.trans ah;have I5:Inv X pins σ (upd H' ea (Rr C' ea)) {s' with heap:=h5}:=I1.landedN os bare un hok fl k1 k2 hn (by rw[ae];exact ad) up5' am;obtain⟨bm,N,nm,qn,bs,br,sn,sub,ab,col,dd,g0,bu,bq,bp,bt,mN,gC,gN,gi,gT⟩:=c.obj I5.kIn;obtain⟨ob,ay,al⟩:=ad.there;refine wpAny_handleBy_cons (codeAny_handlers_test (nM (X:=X.inSuite ea) (I5.inSuite ea) hg hm ?_ hd)) (by intro q;cases q);refine yya gC ay al (gT.hasType rfl) (codeAny_handlers_suite ?_);refine zR (kZ (KD.setFlight _ _) (lands_againW (Q:=λ_ s2=>∃h6,s2={s' with heap:=h6}/\Heap.FlyingW B (X.env::X.outer) ea (.ref C') a0 h6/\Heap.UpToSlots h5 h6) ad λh6 ak ai=>⟨h6,rfl,ak,ai⟩)) (λ_ s2 z=>?_) (λ_ _ z=>z);obtain⟨⟨h6,rfl,ak,ai⟩,bb⟩:=z;have I6:Inv X pins σ (upd H' ea (Rr C' ea)) {s' with heap:=h6}:=I1.landedN os bare un hok fl k1 k2 hn (by rw[ae];exact ak) (up5'.trans ai) (am.dk bb);have J6:=I6.inSuite ea;refine zzL ?_;rw[arm_exec_Raise];obtain⟨nm2,bg,N2,bl,ax,bo,an,aw,ao,bn,au,bk,as,bc,av,G1,G2⟩:=M.obj I6.ok.mod.kin;refine zf (yA (Pk (C:=D) (nm:=nm2) (q:=bg) (N:=N2) (bs:=bl) (bm:=ax) (hdct:=true) (sn:=bo) (sub:=an) (ab:=aw) (col:=ao) (dd:=bn) (k0:=au) (k1:=bk) (k2:=as) (k3:=bc) (k5:=av) (newId:= "ValueError.__new__") (ea:=ea) (G2.hasType (by rfl)) rfl (λhq=>?_) ?_))
 ·show wpAny _ _ (do let v<-eval ke X.env;standAt rp;pure v) _ _ _
  rw[hce];exact zf (zq (zf (yA (zq hq))))
 refine zf (yi (nM J6 aq ba ?_ hdb));refine yI (h₀:=X.base) J6.ok.mod.kin M.kp (thn (ha ea cpos pins _ σ _ _ J6 (hE ea hn)) λus s1 ⟨vs,H3,I3,r,n,ev,ar,ap,q⟩=>⟨I3.kIn,?_⟩) he hpl;have ac:∀b,H3 b=none->b≠ea:=λb z w=>by rw[w,ap]at z;cases z
 refine thn (RD (X:=X.inSuite ea) (dvs:=[]) (ds:=[]) (Q:=λe H2=>∃d,H2 e=some (Bm D e d)/\H2 ea=some (Rr C' ea)/\ea≠e/\E (.ref D) (some d) (del H2 e)) M F ⟨hr.dp,hr.un⟩ hb .nil I3 r (by rw[ev,zc];show 1<=_;lia) λe he=>?_) λu s2 ⟨e,H2,eu,hsz,I2,d,q2,q4,q5,q3⟩=>?_
 ·subst ev
  refine⟨e,n,rfl,ar,fL,λd hd af=>⟨rfl,d,?_,?_,Ne.symm (ac e he),?_⟩⟩
  ·rw[fX (Ne.symm af),fL]
  ·have hd':H3 d=none:=by rw[fX af]at hd;exact hd
   rw[fX (Ne.symm (ac d hd')),fX (Ne.symm (ac e he)),fX (Ne.symm (ac e he))];exact ap
  ·have hd':H3 d=none:=by rw[fX af]at hd;exact hd
   have e1:del (upd (upd (upd H3 e (Ke D e)) e (Bm D e d)) d (.xd [(fn,.int n)])) e=upd H3 d (.xd [(fn,.int n)]):=by
    funext b;by_cases hb:b=e
    ·subst hb
     rw[pO,fX (Ne.symm af),he]
    ·rw[xR hb]
     by_cases aj:b=d
     ·subst aj;rw[fL,fL]
     ·rw[fX aj,fX aj,fX hb,fX hb]
   rw[e1];exact q d hd'
 ·subst eu
  refine zf (yA (zq ?_));obtain⟨⟨t0,gx⟩,_,_⟩:=(show iZ X.prog X.w H2 s2.heap e (Bm D e d)from I2.hok e _ q2);obtain⟨⟨oa,va,z1,z2,z3,z4⟩,_,_⟩:=(show iZ X.prog X.w H2 s2.heap ea (Rr C' ea)from I2.hok ea _ q4);refine⟨e,d,t0,oa,va,rfl,I2.bk _ _ G1,gx,q5,z1,z3,z4,λh' w1 w2=>?_⟩;have I7:=(I2.write (h':=h') (o:=.ext λh=>∃t0,h.get? e=some ⟨.ref D,some d,.fields #[t0,.none,.ref ea,.none,.bool true,.none], #[]⟩) (t':=s2.toks) (x:=e) (e:=e) (by rw[q2];exact True.intro) (.inl rfl) (λb u z w=>(w2 b z).trans w) ⟨_,w1⟩ ⟨⟨t0,w1⟩,⟨_,w1⟩,λh1 h2 ⟨t1,z⟩ kk=>⟨t1,kk _ z⟩⟩).drop fL
  have eH:∀o:HO,del (upd H2 e o) e=del H2 e:=λo=>by
   funext b;by_cases hb:b=e
   ·subst hb;rw[pO,pO]
   ·rw[xR hb,xR hb,fX hb]
  rw[eH]at I7;exact hR pins σ (del H2 e) _ e D d ea t0 (I7.outSuite I.ok) w1 pO (yT hsz) q3
def ap_tryN{Dn:Ends}{σ:St}{H:Hp}:abE te C D fn E t Dn σ H=te σ H (λv H1=>Dn.rt v H1) λcls dd H1=>cls=.ref C/\dd=none/\∀ea,H1 ea=none->t σ (upd H1 ea (Rr C ea)) λvs H2=>∃n:Int,vs=[.int n]/\n.natAbs<2^300/\H2 ea=some (Rr C ea)/\∀d,H2 d=none->E (.ref D) (some d) (upd H2 d (.xd [(fn,.int n)])):=rfl
end
end L2
local macro_rules | `(tactic| walk_at "u") => `(tactic| (rename_i h; first | (obtain ⟨e, _⟩ := h; subst e; rfl) | (obtain ⟨_, h⟩ := h; walk_at "u")))
local macro_rules | `(tactic| walk_at "v") => `(tactic| (intros; walk_at "u"))
local macro_rules | `(tactic| walk_at "k") => `(tactic| first | exact L2.CapOk.nil | (refine L2.CapOk.own ?_; walk_at "k") | (refine L2.CapOk.take (by with_unfolding_all rfl) (by first | exact Or.inl (by with_unfolding_all rfl) | exact Or.inr (by with_unfolding_all rfl)) (by first | exact Or.inl (by with_unfolding_all rfl) | exact Or.inr (by with_unfolding_all rfl)) (by with_unfolding_all rfl) ?_; walk_at "k"))
local macro_rules | `(tactic| walk_at "c") => `(tactic| (refine ⟨?c1, ?c3, ?c0, ?c4, ?c5, ?c6, ?c7⟩; (case c1 => with_unfolding_all rfl); (case c3 => walk_at "k"); (case c0 => rfl); (case c4 => decide +kernel); (case c5 => decide +kernel); (case c6 => with_unfolding_all rfl); (case c7 => (intro _; rfl))))
local macro_rules | `(tactic| walk_at "i") => do
  let x ← ("↓av_V ↓av_F ↓av_M ↓av_S ↓av_L ↓av0 ↓av1 ↓av2 ↓av3 ↓av4 ↓av5 ↓av6 ↓av7 ↓av8 ↓av9 ↓av10 ↓av11 ↓av12 ↓av13 ↓av14 ↓av15 av_r ap_iStr ap_fldK ap_sFld ap_methD ap_make ap_dget2 ap_dget ap_dput ap_dnewK ap_inD ap_leS ap_ixT ap_ixS ap_slT ap_rTupOf ap_rIn ap_lenS ap_lenSet ap_slRev ap_raiseF ap_xini ap_sxfld ap_xfld ap_FI ap_tryB ap_rStr ap_rJoin ap_rSplit ap_rStarts ap_rPart ap_iEnum1 ap_gget ap_inG ap_FTI ap_FTII ap_tryN ap_raise ap_xCall ap_iZip ap_iEnum ap_next ap_asg ap_name ap_var ap_c ap_op ap_un ap_rI ap_rI0 ap_rU ap_rEq ap_rNe ap_ret ap_retN ap_drop ap_if ap_test ap_tB ap_and ap_or ap_not ap_andV ap_notV ap_ifE ap_call ap_nil ap_cons ap_cb ap_lst ap_tup ap_chain ap_sl ap_noPart ap_part ap_gNil ap_gCons ap_gLst ap_gTup ap_bm ap_bm0 ap_ixL ap_slL ap_rLen ap_rSum ap_rAll ap_rListOf ap_rIsT ap_append ap_rCat ap_comp ap_iList ap_iTup ap_iRng1 ap_noIf ap_rMax ap_rMin scal_int scal_str scal_bl start_eq !List.map_cons !List.map_nil !List.length_cons !List.length_nil !List.cons_append !List.nil_append !List.append_nil !List.replicate_succ !List.replicate_zero !Nat.reduceAdd !Nat.reduceSub !Nat.sub_self !List.set_cons_zero !List.set_cons_succ !List.getElem?_cons_zero !List.getElem?_cons_succ !Option.some.injEq V.int.injEq V.bl.injEq V.str.injEq V.ref.injEq V.ty.injEq !List.cons.injEq !exists_eq_left' !exists_eq_left !exists_and_left !exists_eq' !exists_eq !true_and !and_true !and_assoc !exists_const !Bool.not_true !Bool.not_false !if_true !if_false !Bool.false_eq_true !decide_true !decide_false !reduceCtorEq !Bool.not_eq_true' !decide_eq_true_eq !decide_eq_false_iff_not".splitOn " ").toArray.mapM fun s => do
    let r := (s.drop 1).toString
    if s.front = '↓' then `(Lean.Parser.Tactic.simpLemma| ↓$(Lean.mkIdent ("L2." ++ r).toName):ident) else if s.front = '!' then `(Lean.Parser.Tactic.simpLemma| $(Lean.mkIdent r.toName):ident) else `(Lean.Parser.Tactic.simpLemma| $(Lean.mkIdent ("L2." ++ s).toName):ident)
  `(tactic| simp only [$[$x:simpLemma],*])
local macro_rules | `(tactic| walk_at "a") => `(tactic| (repeat (first | simp only [L2.ap_seq, L2.ap_for] | walk_at "i")))
namespace L2
open PySem PySem.Spec PyProof.Rows
def fv{X:Cx}(K:Fg_)(i:Nat){x f:Str}{pos pos':PySem.Pos}(q:X.N[i]? =some x:=by rfl)(hv:Vis X.env.scope x:=by first|exact Or.inl rfl|exact Or.inr (Or.inl rfl)|exact Or.inr (Or.inr rfl))(hd:(x==("__debug__" :Str))=false:=by decide) (hcd:(x==("__classdict__" :Str))=false:=by decide) (hb:PySem.attributeBase (.Name x pos') f X.env (PySem.eval (.Name x pos') X.env)=PySem.eval (.Name x pos') X.env:=by rfl) (hK:X.K=K:=by rfl):PE X (.Attribute (.Name x pos') f pos) (tFV K i f):=aao (pv i q hv hd hcd) hb hK
end L2
namespace My
open PySem L2 PyProof.Rows
open PySem.W (codeIn findCls findIn fnOf hasDictIn isFn keepIn makesIn mg_none_of mg_of nsIn plainGet plainOver readsIn specialIn)
noncomputable def top(i:Nat):Stmt:=PySem.Challenge.pw_lotledger_k83_texts_read_or_refused.main.body.getD i (.Pass ⟨0,0,0,0⟩)
abbrev xU:Stmt:=top 54
abbrev qe:Stmt:=top 45
abbrev jE:Stmt:=top 62
abbrev oK:Stmt:=top 44
abbrev wD:Stmt:=top 48
abbrev wK:Stmt:=top 49
abbrev wZ:Stmt:=top 46
abbrev wH:Stmt:=top 47
abbrev lN:Stmt:=top 52
abbrev nj:Stmt:=top 53
abbrev pH:Stmt:=top 61
abbrev CG:Stmt:=inClass (top 16) 1
abbrev Cm:Stmt:=inClass (top 16) 2
abbrev wL:Stmt:=top 30
abbrev xY:Stmt:=inClass (top 17) 1
abbrev Ak:Stmt:=inClass (top 17) 2
abbrev Aa:Stmt:=inClass (top 18) 1
abbrev Ad:Stmt:=inClass (top 18) 2
abbrev Ae:Stmt:=inClass (top 19) 1
abbrev Ac:Stmt:=inClass (top 19) 2
abbrev wF:Stmt:=inClass (top 20) 1
abbrev wA:Stmt:=inClass (top 20) 2
abbrev oN:Stmt:=inClass (top 21) 1
abbrev oH:Stmt:=inClass (top 21) 2
abbrev nU:Stmt:=top 38
abbrev lJ:Stmt:=top 23
abbrev oW:Stmt:=top 24
abbrev Ga:Stmt:=top 26
abbrev wX:Stmt:=top 25
abbrev mG:Stmt:=inClass (top 15) 0
abbrev kI:Stmt:=inClass (top 21) 0
abbrev pX:Stmt:=top 27
abbrev jq:Stmt:=inClass (top 16) 0
abbrev qd:Stmt:=top 28
abbrev wJ:Stmt:=top 29
abbrev jj:Stmt:=inClass (top 17) 0
abbrev nW:Stmt:=inClass (top 18) 0
abbrev jk:Stmt:=inClass (top 19) 0
abbrev mC:Stmt:=inClass (top 20) 0
abbrev kj:Stmt:=top 22
abbrev jO:Stmt:=top 42
abbrev nH:Stmt:=top 41
abbrev pG:Stmt:=top 40
abbrev mD:Stmt:=top 39
abbrev mK:Stmt:=top 37
abbrev lG:Stmt:=inClass (top 4) 0
abbrev oU:Stmt:=top 36
abbrev oO:Stmt:=top 35
abbrev Ah:Stmt:=top 63
abbrev vV:Stmt:=top 55
abbrev Ag:Stmt:=top 57
abbrev oM:Stmt:=top 56
abbrev pP:Stmt:=top 58
abbrev lD:Stmt:=top 59
abbrev CQ:Stmt:=top 60
abbrev WX:Stmt:=top 64
set_option genInjectivity false in
structure Adr where
 qh:Addr
 qi:Addr
 qj:Addr
 qk:Addr
 qm:Addr
 qo:Addr
 qp:Addr
 qq:Addr
 qr:Addr
 qt:Addr
 qv:Addr
 qw:Addr
 qx:Addr
 qy:Addr
 qz:Addr
 qA:Addr
 qB:Addr
 qC:Addr
 qD:Addr
 qE:Addr
 qF:Addr
 qG:Addr
 qH:Addr
 qI:Addr
 qJ:Addr
 qK:Addr
 qL:Addr
 qM:Addr
 qN:Addr
 qO:Addr
 qP:Addr
 qQ:Addr
 qR:Addr
 qS:Addr
 qT:Addr
 qU:Addr
 qV:Addr
 qW:Addr
 qX:Addr
 qY:Addr
 qZ:Addr
 ra:Addr
 rb:Addr
 re:Addr
 rf:Addr
 rh:Addr
 ri:Addr
 rj:Addr
 rl:Addr
 rm:Addr
 rn:Addr
 ro:Addr
 rq:Addr
 rA:Addr
 rB:Addr
 law:Addr
 rC:Addr
 rD:Addr
 rE:Addr
 rF:Addr
 rG:Addr
 rH:Addr
 rJ:Addr
 rK:Addr
 rL:Addr
 rM:Addr
 rN:Tok
 rO:Tok
 rP:Tok
 rQ:Tok
 rR:Tok
 rS:Tok
 rT:Tok
 rV:Tok
 rW:Tok
 rX:Tok
 rY:Addr
 rZ:Addr
set_option genInjectivity false in
structure Fds where
 qh:FuncData
 qi:FuncData
 qj:FuncData
 qk:FuncData
 qm:FuncData
 qo:FuncData
 qp:FuncData
 qq:FuncData
 qr:FuncData
 qt:FuncData
 qv:FuncData
 qw:FuncData
 qx:FuncData
 qy:FuncData
 qz:FuncData
 qA:FuncData
 qB:FuncData
 qC:FuncData
 qD:FuncData
 qE:FuncData
 qF:FuncData
 qG:FuncData
 qH:FuncData
 qI:FuncData
 qJ:FuncData
 qK:FuncData
 qL:FuncData
 qM:FuncData
 qN:FuncData
 qO:FuncData
 qP:FuncData
 qQ:FuncData
 qR:FuncData
 qS:FuncData
 qT:FuncData
 qU:FuncData
 qV:FuncData
 qW:FuncData
 qX:FuncData
 qY:FuncData
 qZ:FuncData
 ra:FuncData
 rb:FuncData
 re:FuncData
 rf:FuncData
 rh:FuncData
 ri:FuncData
 rj:FuncData
 rl:FuncData
 rm:FuncData
 rn:FuncData
 ro:FuncData
 rq:FuncData
 rA:FuncData
 rB:FuncData
 law:FuncData
structure Txt(w:World)(K:Fg_)(mg:Str->Option Value)(A:Adr)(D:Fds):Prop where
 r6:FG K mg "_law_text" xU A.qh D.qh
 r9:FG K mg "_law_digits" qe A.qi D.qi
 se:FG K mg "_law_pieces" jE A.qj D.qj
 sf:FG K mg "_law_cell_at" oK A.qk D.qk
 sh:FG K mg "_law_wares" wD A.qm D.qm
 sj:FG K mg "_law_entry" wK A.qo D.qo
 sk:FG K mg "_law_mixed" wZ A.qp D.qp
 sq:FG K mg "_law_cells" wH A.qq D.qq
 sr:FG K mg "_law_with_named" lN A.qr D.qr
 ss:FG K mg "_law_any" nj A.qt D.qt
 su:FG K mg "_law_spoilt" pH A.qv D.qv
 sv:Fun K "word" "Buy.word" CG A.qw D.qw
 sy:Fun K "told" "Buy.told" Cm A.qx D.qx
 sA:FG K mg "named_told" wL A.qy D.qy
 sC:Fun K "word" "Sell.word" xY A.qz D.qz
 sD:Fun K "told" "Sell.told" Ak A.qA D.qA
 sE:Fun K "word" "Gift.word" Aa A.qB D.qB
 sF:Fun K "told" "Gift.told" Ad A.qC D.qC
 sG:Fun K "word" "Give.word" Ae A.qD D.qD
 sI:Fun K "told" "Give.told" Ac A.qE D.qE
 sJ:Fun K "word" "Split.word" wF A.qF D.qF
 sK:Fun K "told" "Split.told" wA A.qG D.qG
 sL:Fun K "word" "Parting.word" oN A.qH D.qH
 sM:Fun K "told" "Parting.told" oH A.qI D.qI
 sN:FG K mg "kind_of_words" nU A.qJ D.qJ
 sO:FG K mg "is_whole_number" lJ A.qK D.qK
 sP:FG K mg "check_number" oW A.qL D.qL
 sQ:FG K mg "is_name" Ga A.qM D.qM
 sR:FG K mg "check_name" wX A.qN D.qN
 sS:Fun K "__init__" "Entry.__init__" mG A.qO D.qO
 sT:Fun K "__init__" "Parting.__init__" kI A.qP D.qP
 sU:FG K mg "check_trade" pX A.qQ D.qQ
 sW:Sy K "__init__" "Buy.__init__" jq A.qR D.qR [V.int 0]
 sX:FG K mg "check_named" qd A.qS D.qS
 sY:FG K mg "named_copy" wJ A.qT D.qT
 sZ:Sy K "__init__" "Sell.__init__" jj A.qU D.qU [V.int 0,V.non]
 ti:Fun K "__init__" "Gift.__init__" nW A.qV D.qV
 tj:Sy K "__init__" "Give.__init__" jk A.qW D.qW [V.non]
 tm:Fun K "__init__" "Split.__init__" mC A.qX D.qX
 tp:FG K mg "entry_that_tells" kj A.qY D.qY
 tq:FG K mg "is_written_number" jO A.qZ D.qZ
 tw:FG K mg "value_of_word" nH A.ra D.ra
 tz:FG K mg "lot_of_word" pG A.rb D.rb
 tD:FG K mg "named_of_words" mD A.re D.re
 tE:FG K mg "entry_of_words" mK A.rf D.rf
 tF:Fun K "__init__" "NoText.__init__" lG A.rh D.rh
 tG:FG K mg "entry_in_row" oU A.ri D.ri
 tH:FG K mg "read_entries" oO A.rj D.rj
 tI:FG K mg "_law_told" Ah A.rl D.rl
 tJ:FG K mg "_law_number" vV A.rm D.rm
 tK:FG K mg "_law_lots" Ag A.rn D.rn
 tL:FG K mg "_law_is_ware" oM A.ro D.ro
 tM:FG K mg "_law_within" pP A.rq D.rq
 tN:FG K mg "_law_read" lD A.rA D.rA
 tO:FG K mg "_law_due" CQ A.rB D.rB
 tP:FG K mg "law" WX A.law D.law
 tQ:mg "list" =none
 tR:mg "str" =none
 tS:mg "len" =none
 tT:mg "int" =none
 tU:mg "min" =none
 tW:mg "max" =none
 tX:mg "range" =none
 tY:mg "tuple" =none
 tZ:mg "enumerate" =none
 t5:mg "isinstance" =none
 t7:mg "bool" =none
 t9:mg "all" =none
 uc:mg "sum" =none
 ud:mg "set" =none
 ue:mg "zip" =none
 uf:mg "Buy" =some (.ref A.rC)
 ug:mg "Sell" =some (.ref A.rD)
 uh:mg "Gift" =some (.ref A.rE)
 ui:mg "Give" =some (.ref A.rF)
 uj:mg "Split" =some (.ref A.rG)
 uk:mg "Parting" =some (.ref A.rH)
 ul:mg "NoEntry" =some (.ref A.rJ)
 um:mg "Entry" =some (.ref A.rK)
 uo:mg "LotError" =some (.ref A.rL)
 up:mg "NoText" =some (.ref A.rM)
 uq:mg "MOST_LETTERS" =some (.int 8 A.rN)
 ur:mg "MOST_DAY" =some (.int 1000000 A.rO)
 ut:mg "MOST_NUMBER" =some (.int 1000000 A.rP)
 uu:mg "MOST_WHOLE" =some (.int 1000000 A.rQ)
 uv:mg "MOST_PIECES" =some (.int 1000000000 A.rR)
 uw:mg "MOST_PRICE" =some (.int 1000000000 A.rS)
 ux:mg "MOST_FEE" =some (.int 1000000000 A.rT)
 uy:mg "MOST_GIFT_COST" =some (.int 1000000000000000000 A.rV)
 uz:mg "MOST_SPLIT" =some (.int 1000 A.rW)
 uA:mg "MOST_FIGURES" =some (.int 19 A.rX)
 uB:mg "KINDS_THAT_NAME_LOTS" =some (.ref A.rY)
 uC:∀H:Hp,SqT K H A.rY [V.str "sell",V.str "give"]
 uD:mg "PLAIN_WORDS" =some (.ref A.rZ)
 uE:Jd K w A.rZ [(Sum.inr "buy",V.int 7),(Sum.inr "sell",V.int 7),(Sum.inr "gift",V.int 7),(Sum.inr "give",V.int 5),(Sum.inr "split",V.int 6),(Sum.inr "part",V.int 7)]
 uF:acv K A.rJ
 uG:xx K A.rM A.rh
 uH:acW K A.rM
 uI:gD K A.rM "row"
 uJ:adu K A.rL
 uK:Cls K A.rC
 uL:gD K A.rC "day"
 uM:gD K A.rC "number"
 uN:gD K A.rC "ware"
 uO:gD K A.rC "pieces"
 uP:gD K A.rC "price"
 uQ:gD K A.rC "fee"
 uR:gD K A.rC "cost"
 uS:Cls K A.rD
 uT:gD K A.rD "day"
 uU:gD K A.rD "number"
 uV:gD K A.rD "ware"
 uW:gD K A.rD "pieces"
 uX:gD K A.rD "price"
 uY:gD K A.rD "fee"
 uZ:gD K A.rD "named"
 u0:gD K A.rD "proceeds"
 u3:Cls K A.rE
 u4:gD K A.rE "day"
 u5:gD K A.rE "number"
 u6:gD K A.rE "ware"
 u7:gD K A.rE "pieces"
 u8:gD K A.rE "cost"
 u9:gD K A.rE "since"
 vc:Cls K A.rF
 vd:gD K A.rF "day"
 ve:gD K A.rF "number"
 vf:gD K A.rF "ware"
 vg:gD K A.rF "pieces"
 vh:gD K A.rF "named"
 vi:Cls K A.rG
 vj:gD K A.rG "day"
 vk:gD K A.rG "number"
 vm:gD K A.rG "ware"
 vn:gD K A.rG "many"
 vo:gD K A.rG "of"
 vp:Cls K A.rH
 vq:gD K A.rH "day"
 vv:gD K A.rH "number"
 vx:gD K A.rH "ware"
 vy:gD K A.rH "other"
 vz:gD K A.rH "share"
 vA:gD K A.rH "whole"
 vB:Mk K A.rH A.qP
 vC:Mk K A.rC A.qR
 vD:Mk K A.rD A.qU
 vE:Mk K A.rE A.qV
 vF:Mk K A.rF A.qW
 vG:Mk K A.rG A.qX
 vH:Meth K A.rC "word" A.qw
 vI:Meth K A.rD "word" A.qz
 vJ:Meth K A.rE "word" A.qB
 vK:Meth K A.rF "word" A.qD
 vL:Meth K A.rG "word" A.qF
 vM:Meth K A.rH "word" A.qH
 vN:Meth K A.rC "told" A.qx
 vO:Meth K A.rD "told" A.qA
 vP:Meth K A.rE "told" A.qC
 vQ:Meth K A.rF "told" A.qE
 vR:Meth K A.rG "told" A.qG
 vS:Meth K A.rH "told" A.qI
 vT:abI K A.rK "__init__" A.qO
local macro_rules | `(tactic| walk_at "s") => `(tactic| exact ⟨rfl, rfl, rfl, by decide +kernel, rfl, by decide +kernel, by decide +kernel⟩)
def iR:gb ["_law_told_here", "_law_text_here", "_law_row", "_law_words", "_law_rest", "_law_named"] ["_law_told_here"] (fP xU):=by walk_at "s"
def lR:gb ["_law_cell", "_law_bases", "_law_row", "_law_base"] ["_law_cell", "_law_bases"] (fP qe):=by walk_at "s"
def xJ:gb ["_law_cell", "_law_some"] ["_law_cell"] (fP jE):=by walk_at "s"
def En:gb ["_law_script", "_law_k"] ["_law_script", "_law_k"] (fP oK):=by walk_at "s"
def lC:gb ["_law_script", "_law_word", "_law_cell", "_law_many"] ["_law_script"] (fP wD):=by walk_at "s"
def gM:gb ["_law_cell", "_law_day", "_law_number_here", "_law_wares_here", "_law_held", "_law_kind", "_law_at", "_law_size", "_law_pieces_here", "_law_price", "_law_fee", "_law_many", "_law_ware", "_law_there", "_law_whole", "_law_other"] ["_law_cell", "_law_day", "_law_number_here", "_law_wares_here", "_law_held"] (fP wK):=by walk_at "s"
def pQ:gb ["_law_cell", "_law_k", "_law_number_here", "_law_other"] ["_law_cell", "_law_k"] (fP wZ):=by walk_at "s"
def mR:gb ["_law_script", "_law_many"] ["_law_script"] (fP wH):=by walk_at "s"
def ir:gb ["_law_told_here", "_law_cell", "_law_left", "_law_named", "_law_k", "_law_some"] ["_law_told_here", "_law_cell"] (fP lN):=by walk_at "s"
def iu:gb ["_law_script", "_law_most", "_law_wares_here", "_law_by", "_law_low", "_law_told_here", "_law_k", "_law_cell", "_law_small", "_law_great", "_law_kind", "_law_more", "_law_day", "_law_held", "_law_row"] ["_law_script", "_law_most"] (fP nj):=by walk_at "s"
def iU:gb ["_law_text_here", "_law_cell", "_law_way", "_law_sign", "_law_at", "_law_spot", "_law_rows", "_law_line"] ["_law_text_here", "_law_cell"] (fP pH):=by walk_at "s"
def Oo:gb ["self"] ["self"] (fP CG):=by walk_at "s"
def NK:gb ["self"] ["self"] (fP Cm):=by walk_at "s"
def JM:gb ["named"] ["named"] (fP wL):=by walk_at "s"
def KN:gb ["self"] ["self"] (fP xY):=by walk_at "s"
def Dk:gb ["self", "named"] ["self"] (fP Ak):=by walk_at "s"
def Ni:gb ["self"] ["self"] (fP Aa):=by walk_at "s"
def Mz:gb ["self"] ["self"] (fP Ad):=by walk_at "s"
def KC:gb ["self"] ["self"] (fP Ae):=by walk_at "s"
def Lh:gb ["self"] ["self"] (fP Ac):=by walk_at "s"
def Ip:gb ["self"] ["self"] (fP wF):=by walk_at "s"
def JW:gb ["self"] ["self"] (fP wA):=by walk_at "s"
def Ew:gb ["self"] ["self"] (fP oN):=by walk_at "s"
def EY:gb ["self"] ["self"] (fP oH):=by walk_at "s"
def mH:gb ["words", "kind", "more"] ["words"] (fP nU):=by walk_at "s"
def BW:gb ["value"] ["value"] (fP lJ):=by walk_at "s"
def Fl:gb ["what", "value", "least", "most"] ["what", "value", "least", "most"] (fP oW):=by walk_at "s"
def RW:gb ["value"] ["value"] (fP Ga):=by walk_at "s"
def Iv:gb ["what", "value"] ["what", "value"] (fP wX):=by walk_at "s"
def BZ:gb ["self", "day", "number", "ware"] ["self", "day", "number", "ware"] (fP mG):=by walk_at "s"
def xZ:gb ["self", "day", "number", "ware", "other", "share", "whole"] ["self", "day", "number", "ware", "other", "share", "whole"] (fP kI):=by walk_at "s"
def GR:gb ["pieces", "price", "fee"] ["pieces", "price", "fee"] (fP pX):=by walk_at "s"
def FZ:gb ["self", "day", "number", "ware", "pieces", "price", "fee"] ["self", "day", "number", "ware", "pieces", "price", "fee"] (fP jq):=by walk_at "s"
def lV:gb ["named", "pieces", "seen", "lot", "lot_pieces"] ["named", "pieces"] (fP qd):=by walk_at "s"
def Im:gb ["named"] ["named"] (fP wJ):=by walk_at "s"
def DG:gb ["self", "day", "number", "ware", "pieces", "price", "fee", "named"] ["self", "day", "number", "ware", "pieces", "price", "fee", "named"] (fP jj):=by walk_at "s"
def Dy:gb ["self", "day", "number", "ware", "pieces", "cost", "since"] ["self", "day", "number", "ware", "pieces", "cost", "since"] (fP nW):=by walk_at "s"
def DY:gb ["self", "day", "number", "ware", "pieces", "named"] ["self", "day", "number", "ware", "pieces", "named"] (fP jk):=by walk_at "s"
def CV:gb ["self", "day", "number", "ware", "many", "of"] ["self", "day", "number", "ware", "many", "of"] (fP mC):=by walk_at "s"
def nT:gb ["told", "word"] ["told"] (fP kj):=by walk_at "s"
def xr:gb ["word"] ["word"] (fP jO):=by walk_at "s"
def Dq:gb ["word"] ["word"] (fP nH):=by walk_at "s"
def xP:gb ["word", "halves"] ["word"] (fP pG):=by walk_at "s"
def CJ:gb ["words"] ["words"] (fP mD):=by walk_at "s"
def jF:gb ["words", "kind", "count", "told"] ["words"] (fP mK):=by walk_at "s"
def BJ:gb ["self", "row"] ["self", "row"] (fP lG):=by walk_at "s"
def Gp:gb ["row", "place"] ["row", "place"] (fP oU):=by walk_at "s"
def iH:gb ["text", "rows", "unended", "entries", "seen", "place", "row", "entry"] ["text"] (fP oO):=by walk_at "s"
def lZ:gb ["_law_text_here", "_law_found", "e"] ["_law_text_here"] (fP Ah):=by walk_at "s"
def Gs:gb ["_law_word"] ["_law_word"] (fP vV):=by walk_at "s"
def jU:gb ["_law_words", "_law_pieces_here", "_law_named", "_law_word", "_law_lot", "_law_cut", "_law_some"] ["_law_words", "_law_pieces_here"] (fP Ag):=by walk_at "s"
def Gg:gb ["_law_word"] ["_law_word"] (fP oM):=by walk_at "s"
def oV:gb ["_law_numbers", "_law_ranges", "_law_number_here", "_law_most"] ["_law_numbers", "_law_ranges"] (fP pP):=by walk_at "s"
def ig:gb ["_law_row", "_law_words", "_law_head", "_law_kind", "_law_rest", "_law_ranges", "_law_told_here", "_law_many", "_law_numbers", "_law_named"] ["_law_row"] (fP lD):=by walk_at "s"
def lM:gb ["_law_text_here", "_law_rows", "_law_told_here", "_law_known", "_law_k", "_law_row"] ["_law_text_here"] (fP CQ):=by walk_at "s"
def Mt:gb ["_law_script", "_law_text_here", "_law_k", "_law_drawn"] ["_law_script"] (fP WX):=by walk_at "s"
section
variable{P:Program}{w:World}{K:Fg_}{mg:Str->Option Value}{base:Heap}{A:Adr}{D:Fds}
def Ob(T:Txt w K mg A D):Binds K D.qh ["_law_told_here"] []:=T.r6.F.binds λ_ _ _ _ _ _=>ln1 λ_=>rfl
def kW(T:Txt w K mg A D):Binds K D.qi ["_law_cell", "_law_bases"] []:=T.r9.F.binds λ_ _ _ _ _ _=>ln2 λ_ _=>rfl
def Jk(T:Txt w K mg A D):Binds K D.qj ["_law_cell"] []:=T.se.F.binds λ_ _ _ _ _ _=>ln1 λ_=>rfl
def jH(T:Txt w K mg A D):Binds K D.qk ["_law_script", "_law_k"] []:=T.sf.F.binds λ_ _ _ _ _ _=>ln2 λ_ _=>rfl
def Nu(T:Txt w K mg A D):Binds K D.qm ["_law_script"] []:=T.sh.F.binds λ_ _ _ _ _ _=>ln1 λ_=>rfl
def Nh(T:Txt w K mg A D):Binds K D.qo ["_law_cell", "_law_day", "_law_number_here", "_law_wares_here", "_law_held"] []:=T.sj.F.binds λ_ _ _ _ _ _=>ln5 λ_ _ _ _ _=>rfl
def Dh(T:Txt w K mg A D):Binds K D.qp ["_law_cell", "_law_k"] []:=T.sk.F.binds λ_ _ _ _ _ _=>ln2 λ_ _=>rfl
def wN(T:Txt w K mg A D):Binds K D.qq ["_law_script"] []:=T.sq.F.binds λ_ _ _ _ _ _=>ln1 λ_=>rfl
def CT(T:Txt w K mg A D):Binds K D.qr ["_law_told_here", "_law_cell"] []:=T.sr.F.binds λ_ _ _ _ _ _=>ln2 λ_ _=>rfl
def RK(T:Txt w K mg A D):Binds K D.qt ["_law_script", "_law_most"] []:=T.ss.F.binds λ_ _ _ _ _ _=>ln2 λ_ _=>rfl
def JB(T:Txt w K mg A D):Binds K D.qv ["_law_text_here", "_law_cell"] []:=T.su.F.binds λ_ _ _ _ _ _=>ln2 λ_ _=>rfl
def RZ(T:Txt w K mg A D):Binds K D.qw ["self"] []:=T.sv.binds λ_ _ _ _ _ _=>ln1 λ_=>rfl
def RN(T:Txt w K mg A D):Binds K D.qx ["self"] []:=T.sy.binds λ_ _ _ _ _ _=>ln1 λ_=>rfl
def Dp(T:Txt w K mg A D):Binds K D.qy ["named"] []:=T.sA.F.binds λ_ _ _ _ _ _=>ln1 λ_=>rfl
def Pq(T:Txt w K mg A D):Binds K D.qz ["self"] []:=T.sC.binds λ_ _ _ _ _ _=>ln1 λ_=>rfl
def NZ(T:Txt w K mg A D):Binds K D.qA ["self"] []:=T.sD.binds λ_ _ _ _ _ _=>ln1 λ_=>rfl
def OJ(T:Txt w K mg A D):Binds K D.qB ["self"] []:=T.sE.binds λ_ _ _ _ _ _=>ln1 λ_=>rfl
def PJ(T:Txt w K mg A D):Binds K D.qC ["self"] []:=T.sF.binds λ_ _ _ _ _ _=>ln1 λ_=>rfl
def Ot(T:Txt w K mg A D):Binds K D.qD ["self"] []:=T.sG.binds λ_ _ _ _ _ _=>ln1 λ_=>rfl
def Oq(T:Txt w K mg A D):Binds K D.qE ["self"] []:=T.sI.binds λ_ _ _ _ _ _=>ln1 λ_=>rfl
def Mv(T:Txt w K mg A D):Binds K D.qF ["self"] []:=T.sJ.binds λ_ _ _ _ _ _=>ln1 λ_=>rfl
def Mi(T:Txt w K mg A D):Binds K D.qG ["self"] []:=T.sK.binds λ_ _ _ _ _ _=>ln1 λ_=>rfl
def Gv(T:Txt w K mg A D):Binds K D.qH ["self"] []:=T.sL.binds λ_ _ _ _ _ _=>ln1 λ_=>rfl
def Hl(T:Txt w K mg A D):Binds K D.qI ["self"] []:=T.sM.binds λ_ _ _ _ _ _=>ln1 λ_=>rfl
def FN(T:Txt w K mg A D):Binds K D.qJ ["words"] []:=T.sN.F.binds λ_ _ _ _ _ _=>ln1 λ_=>rfl
def Cp(T:Txt w K mg A D):Binds K D.qK ["value"] []:=T.sO.F.binds λ_ _ _ _ _ _=>ln1 λ_=>rfl
def gH(T:Txt w K mg A D):Binds K D.qL ["what", "value", "least", "most"] []:=T.sP.F.binds λ_ _ _ _ _ _=>ln4 λ_ _ _ _=>rfl
def SJ(T:Txt w K mg A D):Binds K D.qM ["value"] []:=T.sQ.F.binds λ_ _ _ _ _ _=>ln1 λ_=>rfl
def Dg(T:Txt w K mg A D):Binds K D.qN ["what", "value"] []:=T.sR.F.binds λ_ _ _ _ _ _=>ln2 λ_ _=>rfl
def jb(T:Txt w K mg A D):Binds K D.qO ["self", "day", "number", "ware"] []:=T.sS.binds λ_ _ _ _ _ _=>ln4 λ_ _ _ _=>rfl
def Bv(T:Txt w K mg A D):Binds K D.qP ["self", "day", "number", "ware", "other", "share", "whole"] []:=T.sT.binds λ_ _ _ _ _ _=>ln7 λ_ _ _ _ _ _ _=>rfl
def Bj(T:Txt w K mg A D):Binds K D.qQ ["pieces", "price", "fee"] []:=T.sU.F.binds λ_ _ _ _ _ _=>ln3 λ_ _ _=>rfl
def BR(T:Txt w K mg A D):Binds K D.qS ["named", "pieces"] []:=T.sX.F.binds λ_ _ _ _ _ _=>ln2 λ_ _=>rfl
def oE(T:Txt w K mg A D):Binds K D.qT ["named"] []:=T.sY.F.binds λ_ _ _ _ _ _=>ln1 λ_=>rfl
def Gk(T:Txt w K mg A D):Binds K D.qV ["self", "day", "number", "ware", "pieces", "cost", "since"] []:=T.ti.binds λ_ _ _ _ _ _=>ln7 λ_ _ _ _ _ _ _=>rfl
def Dt(T:Txt w K mg A D):Binds K D.qX ["self", "day", "number", "ware", "many", "of"] []:=T.tm.binds λ_ _ _ _ _ _=>ln6 λ_ _ _ _ _ _=>rfl
def Bt(T:Txt w K mg A D):Binds K D.qY ["told"] []:=T.tp.F.binds λ_ _ _ _ _ _=>ln1 λ_=>rfl
def Aj(T:Txt w K mg A D):Binds K D.qZ ["word"] []:=T.tq.F.binds λ_ _ _ _ _ _=>ln1 λ_=>rfl
def nR(T:Txt w K mg A D):Binds K D.ra ["word"] []:=T.tw.F.binds λ_ _ _ _ _ _=>ln1 λ_=>rfl
def Jy(T:Txt w K mg A D):Binds K D.rb ["word"] []:=T.tz.F.binds λ_ _ _ _ _ _=>ln1 λ_=>rfl
def Dz(T:Txt w K mg A D):Binds K D.re ["words"] []:=T.tD.F.binds λ_ _ _ _ _ _=>ln1 λ_=>rfl
def DN(T:Txt w K mg A D):Binds K D.rf ["words"] []:=T.tE.F.binds λ_ _ _ _ _ _=>ln1 λ_=>rfl
def lH(T:Txt w K mg A D):Binds K D.rh ["self", "row"] []:=T.tF.binds λ_ _ _ _ _ _=>ln2 λ_ _=>rfl
def GP(T:Txt w K mg A D):Binds K D.ri ["row", "place"] []:=T.tG.F.binds λ_ _ _ _ _ _=>ln2 λ_ _=>rfl
def Gu(T:Txt w K mg A D):Binds K D.rj ["text"] []:=T.tH.F.binds λ_ _ _ _ _ _=>ln1 λ_=>rfl
def Al(T:Txt w K mg A D):Binds K D.rl ["_law_text_here"] []:=T.tI.F.binds λ_ _ _ _ _ _=>ln1 λ_=>rfl
def mV(T:Txt w K mg A D):Binds K D.rm ["_law_word"] []:=T.tJ.F.binds λ_ _ _ _ _ _=>ln1 λ_=>rfl
def Ox(T:Txt w K mg A D):Binds K D.rn ["_law_words", "_law_pieces_here"] []:=T.tK.F.binds λ_ _ _ _ _ _=>ln2 λ_ _=>rfl
def xG(T:Txt w K mg A D):Binds K D.ro ["_law_word"] []:=T.tL.F.binds λ_ _ _ _ _ _=>ln1 λ_=>rfl
def Bb(T:Txt w K mg A D):Binds K D.rq ["_law_numbers", "_law_ranges"] []:=T.tM.F.binds λ_ _ _ _ _ _=>ln2 λ_ _=>rfl
def Oh(T:Txt w K mg A D):Binds K D.rA ["_law_row"] []:=T.tN.F.binds λ_ _ _ _ _ _=>ln1 λ_=>rfl
def CP(T:Txt w K mg A D):Binds K D.rB ["_law_text_here"] []:=T.tO.F.binds λ_ _ _ _ _ _=>ln1 λ_=>rfl
def vZ(T:Txt w K mg A D):∃ds,Binds K D.qR ["self", "day", "number", "ware", "pieces", "price", "fee"] ds/\Vals (([V.int 0]:List V).drop 1) ds:=T.sW.binds (ps:=["self", "day", "number", "ware", "pieces", "price", "fee"]) 1 λTd kV z pm an aa ct its us h1 h2=>by
  revert us;revert h1;revert its;refine ln1 λi0 us h2=>?_;have q:us.length=7:=by simpa using h2
  clear h2;revert q;revert us;exact ln7 λ_ _ _ _ _ _ _=>⟨_,rfl,rfl⟩
def pD(T:Txt w K mg A D):∃ds,Binds K D.qW ["self", "day", "number", "ware", "pieces", "named"] ds/\Vals (([V.non]:List V).drop 1) ds:=T.tj.binds (ps:=["self", "day", "number", "ware", "pieces", "named"]) 1 λTd kV z pm an aa ct its us h1 h2=>by
  revert us;revert h1;revert its;refine ln1 λi0 us h2=>?_;have q:us.length=6:=by simpa using h2
  clear h2;revert q;revert us;exact ln6 λ_ _ _ _ _ _=>⟨_,rfl,rfl⟩
def pA(T:Txt w K mg A D):∃ds,Binds K D.qU ["self", "day", "number", "ware", "pieces", "price", "fee", "named"] ds/\Vals (([V.int 0,V.non]:List V).drop 2) ds:=T.sZ.binds (ps:=["self", "day", "number", "ware", "pieces", "price", "fee", "named"]) 2 λTd kV z pm an aa ct its us h1 h2=>by
  revert us;revert h1;revert its;refine ln2 λi0 i1 us h2=>?_;have q:us.length=8:=by simpa using h2
  clear h2;revert q;revert us;exact ln8 λ_ _ _ _ _ _ _ _=>⟨_,rfl,rfl⟩
end
end My
namespace My
open PySem L2 PyProof.Rows
open PySem.W (codeIn findCls findIn fnOf hasDictIn isFn keepIn makesIn mg_none_of mg_of nsIn plainGet plainOver readsIn specialIn)
end My
namespace My
open PySem L2 PyProof.Rows
open PySem.W (codeIn findCls findIn fnOf hasDictIn isFn keepIn makesIn mg_none_of mg_of nsIn plainGet plainOver readsIn specialIn)
section
variable{P:Program}{w:World}{K:Fg_}{mg:Str->Option Value}{base:Heap}{A:Adr}{D:Fds}
def jY{t u:TS}{D:_}{σ:L2.St}{H:Hp}(h:∀v,v=u->aaX t v D σ H):aaX t u D σ H:=h u rfl
def Eg{wi:TI}{g:TG}{tb:TS}{D:_}{σ:L2.St}{H:Hp}(h:∀v,v=tb->ada wi g v D σ H):ada wi g tb D σ H:=h tb rfl
def aaz{c:_}{t u:TS}{D:_}{σ:L2.St}{H:Hp}(h:∀v w,v=t->w=u->acS c v w D σ H):acS c t u D σ H:=h t u rfl rfl
def Dr.listN{K:Fg_}{a:Addr}{xs:List V}{g:TG}{tb:TS}{D:_}{σ:L2.St}{H:Hp}(z:Nat->L2.St->Hp->Prop)(h0:z 0 σ H)(hl:∀i σ H,i<=xs.length->z i σ H->SqL K H a xs)(hs:∀i x σ H,xs[i]? =some x->z i σ H->∀N:L2.St->Hp->Prop,(∀σ H,z (i+1) σ H->N σ H)->g x σ H λσ2 H2=>tb {D with nx:=N,ct:=N,bk:=D.nx} σ2 H2)(hd:∀σ H,z xs.length σ H->D.nx σ H):Dr (Itl K a) g tb D σ H:=
 wV z h0 hl (λi x σ H h p=>hs i x σ H h p _ λ_ _ q=>q) hd
def Dr.rangeN{lo:Int}{n:Nat}{g:TG}{tb:TS}{D:_}{σ:L2.St}{H:Hp}(z:Nat->L2.St->Hp->Prop)(h0:z 0 σ H)(hs:∀i σ H,i<n->z i σ H->∀N:L2.St->Hp->Prop,(∀σ H,z (i+1) σ H->N σ H)->g (.int (lo+i)) σ H λσ2 H2=>tb {D with nx:=N,ct:=N,bk:=D.nx} σ2 H2)(hd:∀σ H,z n σ H->D.nx σ H):Dr (Itr lo n) g tb D σ H:=
 Dr.range z h0 (λi σ H h p=>hs i σ H h p _ λ_ _ q=>q) hd
def Dr.zipN{K:Fg_}{a b:Addr}{xs ys:List V}{g:TG}{tb:TS}{D:_}{σ:L2.St}{H:Hp}(Pv:Nat->L2.St->Hp->Prop)(aa:xs.length=ys.length)(h0:Pv 0 σ H)(hl:∀i σ H,i<=xs.length->Pv i σ H->SqL K H a xs/\SqL K H b ys)(hs:∀i x y σ H p,xs[i]? =some x->ys[i]? =some y->Pv i σ H->H p=none->∀N:L2.St->Hp->Prop,(∀σ H,Pv (i+1) σ H->N σ H)->g (.ref p) σ (upd H p (.tup [x,y])) λσ2 H2=>tb {D with nx:=N,ct:=N,bk:=D.nx} σ2 H2)(hd:∀σ H,Pv xs.length σ H->D.nx σ H):Dr (Itz K a b) g tb D σ H:=
 Dr.zip Pv aa h0 hl (λi x y σ H p h1 h2 q h3=>hs i x y σ H p h1 h2 q h3 _ λ_ _ z=>z) hd
def WW{x:Int}{m k:Nat}(q:x.natAbs<2^m)(h:m<=k):x.natAbs<2^k:=zL q (Nat.pow_le_pow_right (by decide) h)
noncomputable def Kc:Int->List Int->List Int
 |_,[]=>[]
 |c,b::r=>c%b::Kc (c/b) r
noncomputable def aaW:Int->List Int->Int
 |c,[]=>c
 |c,b::r=>aaW (c/b) r
theorem Kl:∀(c:Int)(l:List Int)(b:Int),Kc c (l++[b])=Kc c l++[aaW c l%b]
 |_,[],_=>rfl
 |c,x::r,b=>by show c%x::Kc (c/x) (r++[b])=_;rw[Kl];rfl
theorem Kz:∀(c:Int)(l:List Int)(b:Int),aaW c (l++[b])=aaW c l/b
 |_,[],_=>rfl
 |c,x::r,b=>by show aaW (c/x) (r++[b])=_;rw[Kz];rfl
theorem pI:∀(c:Int)(l:List Int),(Kc c l).length=l.length
 |_,[]=>rfl
 |c,x::r=>by show(Kc (c/x) r).length+1=_;rw[pI];rfl
def Ou{ns:List Int}{i:Nat}{y:V}(h:(ns.map V.int)[i]? =some y):∃z,y=V.int z/\ns[i]? =some z:=by
 rw[zE]at h
 cases e:ns[i]? with
 |none=>rw[e]at h;cases h
 |some z=>rw[e]at h;exact⟨z,(zt h).symm,rfl⟩
def tyL{K:Fg_}{H:Hp}{p:Addr}{xs:List V}(h:SqL K H p xs):tyV K "list" (.ref p) H:=.inl ⟨rfl,_,h⟩
noncomputable def FT(K:Fg_):Sp:=λvs H Q _=>∃(a:Addr)(ns:List Int)(k:Nat),vs=[.ref a,.int k]/\SqL K H a (ns.map V.int)/\Q (.int (ns.getD k 0)) H
def jz(T:Txt w K mg A D):ji P w K mg base CX0 1 A.qk D.qk ["_law_script", "_law_k"] (FT K):=by
 refine T.sf.F.okv En λ_ _ _ _ H vs Q E hr h=>?_
 ·obtain⟨a,ns,q,rfl,z,k⟩:=h
  refine ⟨_,(fK (iB (fY (xX) (pvD 1) (gw (gW (K:=K)) (by rfl) T.tS (by decide+kernel) (pav 0 fM)) (gk _)) (fQ (gj (gF (fV (K:=K)) (pvD 0) (pvD 1) (λ_ _=>rfl)))) gm)
   (fQ (gj fH))),?_⟩
  walk_at "a";refine⟨_,.inl z,?_⟩;rw[za];by_cases h:q<ns.length
  ·rw[zp (by lia)]
   refine⟨_,z,_,gR (j:=q) (v:=.int (ns.getD q 0)) ?_,k⟩;rw[zE,zD h,zz4,zD h];rfl
  ·rw[zk (by lia)]
   rw[zz4,yL (by lia)]at k;exact k
def oh(xs:List V)(n:Nat):CK xs (some (n:Int)) none=xs.drop n:=by
 unfold CK;rw[HT.sIx_none,HT.sIx_nat];rcases Nat.le_total n xs.length with h|h
 ·rw[yyj h,zX (by rw[z6];exact ze _)]
 ·rw[Nat.min_eq_right h,zzD (ze _),zzD h,List.take_nil]
def JR{l:Addr}{k:Int}{H:Hp}{Q:VK}:adx (.ref l) (.int k) H Q=∃xs,H l=some (.lst xs)/\ -(2^63)<=k/\k<2^63/\xs.length*k.toNat<=sizeLine/\∀p,H p=none->Q (.ref p) (upd H p (.lst (List.replicate k.toNat xs).flatten)):=by simp[adx]
noncomputable def Nm(z:Str):Prop:=1<=z.length/\z.length<=8/\∀c∈z.cps.toList,97<=c/\c<=122
instance (z:Str):Decidable (Nm z):=inferInstanceAs (Decidable (_/\_/\_))
noncomputable def WV(v:V):Prop:=(∃i:Int,v=.int i)\/∃z:Str,v=.str z/\z.length<=1000000
noncomputable def isI:V->Bool
 |.int _=>true
 |_=>false
noncomputable def Ay:Sp:=λvs H Q _=>∃v,vs=[v]/\WV v/\Q (.bl (isI v)) H
def BX(T:Txt w K mg A D):ji P w K mg base CX0 1 A.qK D.qK ["value"] Ay:=by
 refine T.sO.F.okv BW λ_ _ _ _ H vs Q E hr h=>?_
 ·obtain⟨v,rfl,q,k⟩:=h
  refine⟨_,(fQ (gj (TF (gw (Ax (K:=K)) (by rfl) T.t5 (by decide+kernel) (pav 0 (fG (XS "int" (by rfl) T.tT (by decide+kernel)) fM))) (Vm (abk (gw (Ax (K:=K)) (by rfl) T.t5 (by decide+kernel) (pav 0 (fG (XS "bool" (by rfl) T.t7 (by decide+kernel)) fM)))))))),?_⟩;rcases q with⟨i,rfl⟩|⟨z,rfl,_⟩
  ·walk_at "a"
   refine⟨_,.int i,true,by with_unfolding_all rfl,?_⟩;walk_at "a";refine⟨_,.int i,false,by with_unfolding_all rfl,?_⟩;walk_at "a";exact k
  ·walk_at "a"
   refine⟨_,.str z,false,by with_unfolding_all rfl,?_⟩;walk_at "a";exact k
noncomputable def InR(v:V)(lo hi:Int):Prop:=∃i:Int,v=.int i/\lo<=i/\i<=hi
noncomputable def Fe(A:Adr):Sp:=λvs H Q E=>∃(z:Str)(v:V)(lo hi:Int),vs=[.str z,v,.int lo,.int hi]/\WV v/\z.length<=1000/\lo.natAbs<2^300/\hi.natAbs<2^300/\
 (InR v lo hi->Q .non H)/\(¬InR v lo hi->E (.ref A.rJ) none H)
def gG(T:Txt w K mg A D):ji P w K mg base (CX1 P w) 2 A.qL D.qL ["what", "value", "least", "most"] (Fe A):=by
 refine T.sP.F.okX Fl (by walk_at "v") (λ_ _ _ _ H vs Q E hr h=>?_)
 ·obtain⟨z,v,lo,hi,rfl,hv,hz,h1,h2,k,kE⟩:=h
  refine⟨_,(fQ (iB (PW.pt (nZ (xM (xN (pcg (BX T) hr T.sO (Cp T) (pav 1 fM)))) (nZ (fY (xX) (pvD 1) (pvD 2) (gk _)) (lY (fY (xu) (pvD 1) (pvD 3) (gk _)))))) (fQ (ou mq rfl T.uF (by rfl) T.ul (fG (RM (pvD 0) (pvD 2) (pvD 3)) fM))) gm)),?_⟩;rcases id hv with⟨i,rfl⟩|⟨y,rfl,_⟩
  ·walk_at "a"
   refine⟨_,rfl,hv,?_⟩;rw[show isI (V.int i)=true from rfl];walk_at "a";by_cases q:i<lo
   ·rw[zp q]
    exact⟨hz,h1,h2,λ_=>⟨sz,kE fun⟨j,e,a,b⟩=>by cases e;lia⟩⟩
   ·rw[zk q]
    by_cases aa:hi<i
    ·rw[zp aa]
     exact⟨hz,h1,h2,λ_=>⟨sz,kE fun⟨j,e,a,b⟩=>by cases e;lia⟩⟩
    ·rw[zk aa]
     exact k ⟨i,rfl,by lia,by lia⟩
  ·walk_at "a"
   refine⟨_,rfl,hv,?_⟩;rw[show isI (V.str y)=false from rfl];walk_at "a";exact⟨hz,h1,h2,λ_=>⟨sz,kE fun⟨j,e,a,b⟩=>by cases e⟩⟩
noncomputable def okS:V->Bool
 |.str x=>x.cps.toList.all λc=>decide (97<=c) && decide (c<=122)
 |_=>true
def aaw(l:List Nat):((l.map λc=>V.str ⟨#[c]⟩).map okS).all id=l.all λc=>decide (97<=c) && decide (c<=122):=by
 induction l with
 |nil=>rfl
 |cons c l ih=>
  rw[zj,zj,yz,yz,ih];show((decide (97<=c) && decide (c<=122)) && true && _)=_;rw[yH]
def YX{z:Str}(h1:1<=z.length)(h2:z.length<=8):(z.cps.toList.all λc=>decide (97<=c) && decide (c<=122))=decide (Nm z):=by
 rw[yP,y6,decide_eq_true_iff];constructor
 ·intro h
  refine⟨h1,h2,λc q=>?_⟩;have:=h c q;rw[zU,decide_eq_true_iff,decide_eq_true_iff]at this;exact this
 ·intro h c q
  rw[zU,decide_eq_true_iff,decide_eq_true_iff];exact h.2.2 c q
noncomputable def nmV:V->Bool
 |.str z=>decide (Nm z)
 |_=>false
def MK(a b:Nat):([a]<[b])↔a<b:=by
 rw[List.cons_lt_cons_iff];exact⟨λh=>h.elim id λh=>absurd h.2 (List.not_lt_nil _),.inl⟩
noncomputable def Sg:Sp:=λvs H Q _=>∃v:V,vs=[v]/\WV v/\∀H',Same H H'->Q (.bl (nmV v)) H'
def Sd(T:Txt w K mg A D):ji P w K mg base CX0 1 A.qM D.qM ["value"] Sg:=by
 refine T.sQ.F.okv RW λ_ _ _ _ H vs Q E hr h=>?_
 ·obtain⟨v,rfl,hv,k⟩:=h
  refine ⟨_,(fK (iB (PW.pt (nZ (xM (xN (gw (Ax (K:=K)) (by rfl) T.t5 (by decide+kernel) (pav 0 (fG (XS "str" (by rfl) T.tR (by decide+kernel)) fM))))) (nZ (fY (xX) (gw jB (by rfl) T.tS (by decide+kernel) (pav 0 fM)) fH (gk _)) (lY (fY (xu) (gw jB (by rfl) T.tS (by decide+kernel) (pav 0 fM)) (jh (v:=V.int 8) (by rfl) T.uq ⟨_,rfl⟩) (gk _)))))) (fQ (gj Gz)) gm)
   (fQ (gj (gw (Ks (K:=K) rfl) (by rfl) T.t9 (by decide+kernel) (fG (jA (cap:=[none]) (N':=["sign"]) rfl (by walk_at "c") (QJ (pvD 0)) (λ_ _ _ _=>(gA (i:=0) nd1 rfl orl orr)) (λ_ _ _ _=>jD) (λ_ _ _ _=>(IW (Av) (Av) fZ (pvD 0) fZ))) fM))))),?_⟩
  rcases hv with⟨i,rfl⟩|⟨z,rfl,aa⟩
  ·walk_at "a"
   refine⟨_,.int i,false,by with_unfolding_all rfl,?_⟩;walk_at "a";exact k H (same_refl H)
  walk_at "a";refine⟨_,.str z,true,by with_unfolding_all rfl,?_⟩;walk_at "a";have q:z.length<=sizeLine:=by rw[zc];lia
  have k:∀H',Same H H'->Q (.bl (decide (Nm z))) H':=k;refine⟨q,?_⟩;by_cases n1:1<=z.length
  rotate_left
  ·rw[zp (by lia)]
   rw[zB (λh:Nm z=>n1 h.1)]at k;exact k H (same_refl H)
  rw[zk (by lia)];refine⟨q,?_⟩;by_cases n2:z.length<=8
  rotate_left
  ·rw[zp (by lia)]
   rw[zB (λh:Nm z=>n2 h.2.1)]at k;exact k H (same_refl H)
  rw[zk (by lia)];refine jC.str (λσ=>∃v,σ=[v]) (λ_=>true) (λv=> .bl (okS v)) ⟨none,rfl⟩ q ?_ ?_
  ·rintro x hx σ H5 R1 R2 ⟨v,rfl⟩ sm k1 k2
   obtain⟨c,hc,rfl⟩:=zC.mp hx;walk_at "a";have ea:(Str.ofString "a").cps.toList=[97]:=by decide+kernel
   have ez:(Str.ofString "z").cps.toList=[122]:=by decide+kernel
   rw[ea,ez]
   have hv:(if¬[c]<[97]then V.bl !decide ([122]<[c])else V.bl false)=V.bl (okS (.str ⟨#[c]⟩)):=by
    show _=V.bl ((decide (97<=c) && decide (c<=122)) && true);by_cases h1:97<=c
    ·rw[zp (by rw[MK];lia),zS h1]
     by_cases h2:c<=122
     ·rw[zS h2,zB (by rw[MK];lia)];rfl
     ·rw[zB h2,zS (by rw[MK];lia)];rfl
    ·rw[zk (by rw[MK];lia),zB h1];rfl
   have k1:=k1 rfl [some (V.str {cps:= #[c]})] H5 ⟨_,rfl⟩ (same_refl _);rw[<-hv]at k1;by_cases h1:¬[c]<[97]
   ·rw[zp h1]at k1⊢;exact k1
   ·rw[zk h1]at k1⊢;exact k1
  ·intro Da H' hD sm e
   rw[lu]at e;walk_at "a";refine⟨(L2.signs z).map okS,fU (by rw[e,zP];rfl),?_⟩;have h3:((L2.signs z).map okS).all id=decide (Nm z):=(aaw z.cps.toList).trans (YX n1 n2);rw[h3];exact k H' sm
noncomputable def NmW(v:V):Prop:=∃z,v=.str z/\Nm z
def Ud{v:V}:nmV v=true↔NmW v:=by
 constructor
 ·intro h
  cases v with
  |str z=>exact⟨z,rfl,zzE h⟩
  |_=>cases h
 ·rintro⟨z,rfl,h⟩
  exact zS h
noncomputable def Jz(A:Adr):Sp:=λvs H Q E=>∃(t:Str)(v:V),vs=[.str t,v]/\WV v/\t.length<=1000/\(NmW v->∀H',Same H H'->Q .non H')/\(¬NmW v->∀H',Same H H'->E (.ref A.rJ) none H')
def Bd(T:Txt w K mg A D):ji P w K mg base (CX1 P w) 2 A.qN D.qN ["what", "value"] (Jz A):=by
 refine T.sR.F.okX Iv (by walk_at "v") (λ_ _ _ _ H vs Q E hr h=>?_)
 ·obtain⟨t,v,rfl,hv,q,k,kE⟩:=h
  refine⟨_,(fQ (iB (xM (xN (pcg (Sd T) hr T.sQ (SJ T) (pav 1 fM)))) (fQ (ou mq rfl T.uF (by rfl) T.ul (fG (WD (pvD 0) (jh (v:=V.int 8) (by rfl) T.uq ⟨_,rfl⟩)) fM))) gm)),?_⟩;walk_at "a";refine⟨v,rfl,hv,λH' s'=>?_⟩;walk_at "a";by_cases hn:nmV v=true
  ·rw[zk (by rw[hn];exact λz=>nomatch z)]
   exact k (Ud.mp hn) H' s'
  ·rw[zp (by simpa using hn)]
   exact⟨q,by decide,λ_=>⟨sz,kE (λz=>hn (Ud.mpr z)) H' s'⟩⟩
noncomputable def Tr(p r f:V):Prop:=InR p 1 1000000000/\InR r 0 1000000000/\InR f 0 1000000000
noncomputable def Hg(A:Adr):Sp:=λvs H Q E=>∃(p r f:V),vs=[p,r,f]/\WV p/\WV r/\WV f/\(Tr p r f->Q .non H)/\(¬Tr p r f->E (.ref A.rJ) none H)
def xK(T:Txt w K mg A D):ji P w K mg base (CX1 P w) 3 A.qQ D.qQ ["pieces", "price", "fee"] (Hg A):=by
 refine T.sU.F.okX GR (by walk_at "v") (λ_ _ _ _ H vs Q E hr h=>?_)
 ·obtain⟨p,r,f,rfl,w1,w2,w3,k,z⟩:=h
  refine ⟨_,(fK (gU (iC (gG (K:=K) T) (hr.mono (by decide)) (by rfl) T.sP.m T.sP.k (gH T) .nil gq (fG fZ (pav 0 (fG fH (fG (jh (v:=V.int 1000000000) (by rfl) T.uv ⟨_,rfl⟩) fM))))))
   (fK (gU (iC (gG (K:=K) T) (hr.mono (by decide)) (by rfl) T.sP.m T.sP.k (gH T) .nil gq (fG fZ (pav 1 (fG fH (fG (jh (v:=V.int 1000000000) (by rfl) T.uw ⟨_,rfl⟩) fM))))))
   (fQ (gU (iC (gG (K:=K) T) (hr.mono (by decide)) (by rfl) T.sP.m T.sP.k (gH T) .nil gq (fG fZ (pav 2 (fG fH (fG (jh (v:=V.int 1000000000) (by rfl) T.ux ⟨_,rfl⟩) fM))))))))),?_⟩
  walk_at "a";refine⟨_,_,_,_,rfl,w1,by decide+kernel,by decide,by decide,λh1=>?_,λh1=>z λh=>h1 h.1⟩;walk_at "a";refine⟨_,_,_,_,rfl,w2,by decide+kernel,by decide,by decide,λh2=>?_,λh2=>z λh=>h2 h.2.1⟩;walk_at "a";refine⟨_,_,_,_,rfl,w3,by decide+kernel,by decide,by decide,λq=>?_,λq=>z λh=>q h.2.2⟩;exact k ⟨h1,h2,q⟩
def Jb{f:Str}{v:V}{fs:List (Str×V)}(ns:List Str)(e:fs.map (·.1)=ns:=by rfl)(h:ns.contains f=false:=by decide+kernel):Ec f v fs=fs++[(f,v)]:=JD f v (e▸h)
noncomputable def fsE(d n:Int)(w:Str):List (Str×V):=[("day",.int d),("number",.int n),("ware",.str w)]
structure Base(d n:Int)(w:Str):Prop where
 d0:0<=d
 d1:d<=1000000
 n0:0<=n
 n1:n<=1000000
 w:Nm w
structure CE(K:Fg_)(C:Addr):Prop where
 c:Cls K C
 d:gD K C "day"
 n:gD K C "number"
 w:gD K C "ware"
structure New(B H:Hp)(x:Addr)(C dx:Addr)(fs:List (Str×V)):Prop where
 s:Same B H
 n:B x=none
 h:H x=some (.ins C dx fs)
def New.put{B H:Hp}{x C dx:Addr}{fs gs:List (Str×V)}(h:New B H x C dx fs)(e:gs=gs):New B (upd H x (.ins C dx gs)) x C dx gs:=⟨h.s.upd h.n,h.n,fL⟩
def New.same{B H H':Hp}{x C dx:Addr}{fs:List (Str×V)}(h:New B H x C dx fs)(e:Same H H'):New B H' x C dx fs:=⟨h.s.trans e,h.n,e _ _ h.h⟩
noncomputable def adz(d n w:V):Prop:=∃d' n' w',d=.int d'/\n=.int n'/\w=.str w'/\Base d' n' w'
noncomputable def Ck(K:Fg_)(A:Adr):Sp:=λvs H Q E=>∃(x:Addr)(d n w:V)(B:Hp)(C dx:Addr),vs=[.ref x,d,n,w]/\WV d/\WV n/\WV w/\New B H x C dx []/\CE K C/\
 (∀d' n' w',d=.int d'->n=.int n'->w=.str w'->Base d' n' w'->∀H',New B H' x C dx (fsE d' n' w')->Q .non H')/\(¬adz d n w->∀H',Same B H'->E (.ref A.rJ) none H')
def iV(T:Txt w K mg A D):ji P w K mg base (CX1 P w) 3 A.qO D.qO ["self", "day", "number", "ware"] (Ck K A):=by
 refine T.sS.okX BZ (by walk_at "v") (λ_ _ _ _ H vs Q E hr h=>?_)
 ·obtain⟨x,d,n,w,B,C,dx,rfl,w1,w2,w3,q,z,k,kE⟩:=h
  refine ⟨_,(fK (gU (iC (gG (K:=K) T) (hr.mono (by decide)) (by rfl) T.sP.m T.sP.k (gH T) .nil gq (fG fZ (pav 1 (fG fH (fG (jh (v:=V.int 1000000) (by rfl) T.ur ⟨_,rfl⟩) fM))))))
   (fK (gU (iC (gG (K:=K) T) (hr.mono (by decide)) (by rfl) T.sP.m T.sP.k (gH T) .nil gq (fG fZ (pav 2 (fG fH (fG (jh (v:=V.int 1000000) (by rfl) T.ut ⟨_,rfl⟩) fM))))))
   (fK (gU (iC (Bd (K:=K) T) (hr.mono (by decide)) (by rfl) T.sR.m T.sR.k (Dg T) .nil gq (fG fZ (pav 3 fM))))
   (fK (iY (K:=K) (pv 0) (pvD 1) rfl)
   (fK (iY (K:=K) (pv 0) (pvD 2) rfl)
   (fQ (iY (K:=K) (pv 0) (pvD 3) rfl))))))),?_⟩
  walk_at "a";refine⟨_,_,_,_,rfl,w1,by decide+kernel,by decide,by decide,λh1=>?_,λh1=>kE (fun⟨d',n',w',e1,e2,e3,hb⟩=>h1 ⟨_,e1,hb.d0,hb.d1⟩) _ q.s⟩;walk_at "a";refine⟨_,_,_,_,rfl,w2,by decide+kernel,by decide,by decide,λh2=>?_,λh2=>kE (fun⟨d',n',w',e1,e2,e3,hb⟩=>h2 ⟨_,e2,hb.n0,hb.n1⟩) _ q.s⟩;walk_at "a";refine⟨_,_,rfl,w3,by decide+kernel,λh3 H' sm=>?_,λh3 H' sm=>kE (fun⟨d',n',w',e1,e2,e3,hb⟩=>h3 ⟨_,e3,hb.w⟩) _ (q.s.trans sm)⟩;obtain⟨d,rfl,d0,d1⟩:=h1;obtain⟨n,rfl,n0,n1⟩:=h2;obtain⟨w,rfl,hw⟩:=h3
  try walk_at "a"
  have q:=q.same sm;refine sw q.h z.c z.d (by decide) (?_);rw[JD _ _ (by decide+kernel)];have q:=q.put (gs:=[]++[(Str.ofString "day",V.int d)]) rfl;refine sw q.h z.c z.n (by simp) (?_);rw[Jb (f:=Str.ofString "number") ["day"]];have q:=q.put (gs:=([]++[(Str.ofString "day",V.int d)])++[(Str.ofString "number",V.int n)]) rfl;refine sw q.h z.c z.w (by simp) (?_);rw[Jb (f:=Str.ofString "ware") ["day", "number"]];exact k d n w rfl rfl rfl ⟨d0,d1,n0,n1,hw⟩ _ (q.put rfl)
abbrev Rs:=List (Addr×Int×Int)
abbrev Ws:=List (Addr×V×V)
noncomputable def refs(rs:Rs):List V:=rs.map λr=>V.ref r.1
noncomputable def Jj(rs:Ws):List V:=rs.map λr=>V.ref r.1
noncomputable def Gw(H:Hp)(rs:Rs):Prop:=∀r∈rs,H r.1=some (.tup [.int r.2.1,.int r.2.2])
noncomputable def Pg(H:Hp)(rs:Ws):Prop:=∀r∈rs,H r.1=some (.tup [r.2.1,r.2.2])
def Gw.same{H H':Hp}{rs:Rs}(h:Gw H rs)(s:Same H H'):Gw H' rs:=λr q=>s _ _ (h r q)
def Pg.same{H H':Hp}{rs:Ws}(h:Pg H rs)(s:Same H H'):Pg H' rs:=λr q=>s _ _ (h r q)
noncomputable def wR(r:Addr×Int×Int):Addr×V×V:=(r.1,.int r.2.1,.int r.2.2)
def Zg{a b:Addr×Int×Int}(h:wR a=wR b):a=b:=by
 obtain⟨a1,a2,a3⟩:=a;obtain⟨b1,q,z⟩:=b;unfold wR at h;cases h;rfl
theorem JN:∀{a b:Rs},a.map wR=b.map wR->a=b
 |[],[],_=>rfl
 |[],_::_,h=>by cases h
 |_::_,[],h=>by cases h
 |x::a,y::b,h=>by
  rw[zj,zj]at h;injection h with h1 h2
  rw[Zg h1,JN h2]
def Kh(rs:Rs):Jj (rs.map wR)=refs rs:=by
 unfold Jj refs;rw[zP];rfl
def Pg.ints{H:Hp}{rs:Rs}(h:Pg H (rs.map wR)):Gw H rs:=λr q=>h _ (y3 q)
structure DQ(rs:Rs)(p:Int):Prop where
 l:rs.length<=300000
 b:∀r∈rs,0<=r.2.1/\r.2.1<=1000000/\1<=r.2.2/\r.2.2<=p
 u:(rs.map (·.2.1)).Nodup
 s:(rs.map (·.2.2)).sum=p
noncomputable def NL(H:Hp)(v:V):Option Rs->Prop
 |none=>v=.non
 |some rs=>∃l,v=.ref l/\H l=some (.lst (refs rs))/\Gw H rs
noncomputable def NW(H:Hp)(v:V):Option Ws->Prop
 |none=>v=.non
 |some rs=>∃l,v=.ref l/\H l=some (.lst (Jj rs))/\Pg H rs/\(∀r∈rs,WV r.2.1/\WV r.2.2)/\rs.length<=300000
noncomputable def GQ(p:Int):Option Rs->Prop
 |none=>True
 |some rs=>DQ rs p
noncomputable def wO(o:Option Rs):Option Ws:=o.map (List.map wR)
noncomputable def Vk(p:Int)(o:Option Ws):Prop:=∃o':Option Rs,o=wO o'/\GQ p o'
theorem NL.same{H H':Hp}{v:V}{o:Option Rs}(h:NL H v o)(s:Same H H'):NL H' v o:=by
 cases o with
 |none=>exact h
 |some rs=>obtain⟨l,e,h1,h2⟩:=h;exact⟨l,e,s _ _ h1,h2.same s⟩
theorem NW.same{H H':Hp}{v:V}{o:Option Ws}(h:NW H v o)(s:Same H H'):NW H' v o:=by
 cases o with
 |none=>exact h
 |some rs=>obtain⟨l,e,h1,h2,q⟩:=h;exact⟨l,e,s _ _ h1,h2.same s,q⟩
theorem NW.ints{H:Hp}{v:V}{o:Option Rs}(h:NW H v (wO o)):NL H v o:=by
 cases o with
 |none=>exact h
 |some rs=>
  obtain⟨l,e,h1,h2,_⟩:=h;rw[Kh]at h1;exact⟨l,e,h1,h2.ints⟩
def Ek{κ:Type} [DecidableEq κ] (kvs:List (κ×V)) (k:κ) (v:V):(putK kvs k v).length<=kvs.length+1:=by
 unfold putK;split
 ·rw[za];lia
 ·rw[zm];exact ze _
def TV{rs:Ws}{i:Nat}{y:V}(h:(Jj rs)[i]? =some y):∃r,rs[i]? =some r/\y=.ref r.1:=by
 unfold Jj at h;rw[zE]at h
 cases e:rs[i]? with
 |none=>rw[e]at h;cases h
 |some r=>rw[e]at h;exact⟨r,rfl,(zt h).symm⟩
def fresh_at{rs:Rs}{i:Nat}{r:Addr×Int×Int}(h:(rs.map (·.2.1)).Nodup)(e:rs[i]? =some r):r.2.1∉(rs.take i).map (·.2.1):=by
 intro hm;have hl:i<rs.length:=(zv.mp e).1;have h2:rs.map (·.2.1)=(rs.take i).map (·.2.1)++(rs.drop i).map (·.2.1):=by rw[<-zo,zzI]
 rw[h2]at h
 have q:=(zzh.mp h).2.2 _ hm r.2.1 (by
  rw[zC];exact⟨r,by rw[List.mem_iff_getElem?];exact⟨0,by rw[List.getElem?_drop];exact e⟩,rfl⟩)
 exact q rfl
def jL(rs:Rs):(refs rs).length=rs.length:=by unfold refs;rw[za]
def Uk(rs:Ws):(Jj rs).length=rs.length:=by unfold Jj;rw[za]
noncomputable def secs(H:Hp):V->V
 |.ref a=>match H a with
  |some (.tup [_,x])=>x
  |_=> .non
 |_=> .non
def Oc{H:Hp}{r:Addr×Int×Int}(h:H r.1=some (.tup [.int r.2.1,.int r.2.2])):secs H (.ref r.1)=.int r.2.2:=by
 show(match H r.1 with|some (.tup [_,x])=>x|_=> .non)=_;rw[h]
def Mm{H:Hp}{rs:Rs}(h:Gw H rs):(refs rs).map (secs H)=rs.map λr=>V.int r.2.2:=by
 unfold refs;rw[zP];exact zzq λr q=>Oc (h r q)
def Ce{p:Int}{rs:Ws}(h:Vk p (some rs)):∃q:Rs,rs=q.map wR/\DQ q p:=by
 obtain⟨o',e,z⟩:=h
 cases o' with
 |none=>cases e
 |some q=>exact⟨q,zt e,z⟩
def Qg{p:Int}{rs:Ws}{i:Nat}{r:Addr×V×V}(h:Vk p (some rs))(e:rs[i]? =some r):InR r.2.1 0 1000000/\InR r.2.2 1 p:=by
 obtain⟨z,rfl,hg⟩:=Ce h;rw[zE]at e
 cases q:z[i]? with
 |none=>rw[q]at e;cases e
 |some r'=>
  rw[q]at e;cases zt e;obtain⟨b0,b1,b2,b3⟩:=hg.b r' (zb q);exact⟨⟨_,rfl,b0,b1⟩,⟨_,rfl,b2,b3⟩⟩
def Px{p:Int}{rs:Ws}{z:Rs}{i:Nat}{b:Addr}{x y:Int}(h:Vk p (some rs))(e:rs[i]? =some (b,.int x,.int y))(ht:rs.take i=z.map wR):x∉z.map (·.2.1):=by
 obtain⟨aa,rfl,hg⟩:=Ce h;rw[<-z8]at ht;rw[<-JN ht];rw[zE]at e
 cases q:aa[i]? with
 |none=>rw[q]at e;cases e
 |some r'=>
  rw[q]at e;have e2:r'=(b,x,y):=Zg (zt e);have:=fresh_at hg.u q;rw[e2]at this;exact this
noncomputable def GK(K:Fg_)(A:Adr):Sp:=λvs H Q E=>∃(v:V)(p:Int)(o:Option Ws),vs=[v,.int p]/\NW H v o/\p.natAbs<2^300/\
 (Vk p o->∀H',Same H H'->Q .non H')/\(¬Vk p o->∀H',Same H H'->E (.ref A.rJ) none H')
def xH(T:Txt w K mg A D):ji P w K mg base (CX1 P w) 3 A.qS D.qS ["named", "pieces"] (GK K A):=by
 refine T.sX.F.okX lV (by walk_at "v") (λ_ _ _ _ H vs Q E hr h=>?_)
 ·obtain⟨v,p,o,rfl,hn,hp,k,kE⟩:=h
  refine ⟨_,(fK (iB (fY (Lz) (pvD 0) jJ (gk _)) (fQ (ZJ)) gm)
   (fK (iB (xM (xN (gw (Ax (K:=K)) (by rfl) T.t5 (by decide+kernel) (pav 0 (fG (XS "list" (by rfl) T.tQ (by decide+kernel)) fM))))) (fQ (ou mq rfl T.uF (by rfl) T.ul (fG fZ fM))) gm)
   (fK (gn (i:=2) lV.nd rfl orl Eh)
   (fK (wj PassesOwn.leaving rfl (mQ (K:=K) (pv 0)) (wG (K:=K) (n:=2) rfl (gO (gA (i:=3) lV.nd rfl orl) (gO (gA (i:=4) lV.nd rfl orl) nP)))
    (fK (gU (iC (gG (K:=K) T) (hr.mono (by decide)) (by rfl) T.sP.m T.sP.k (gH T) .nil gq (fG fZ (pav 3 (fG fH (fG (jh (v:=V.int 1000000) (by rfl) T.ut ⟨_,rfl⟩) fM))))))
    (fK (gU (iC (gG (K:=K) T) (hr.mono (by decide)) (by rfl) T.sP.m T.sP.k (gH T) .nil gq (fG fZ (pav 4 (fG fH (pav 1 fM))))))
    (fK (iB (fY (FP (Bg hr)) (pvD 3) (pvD 2) (by with_unfolding_all rfl)) (fQ (ou mq rfl T.uF (by rfl) T.ul (fG (Nb (pvD 3)) fM))) gm)
    (fQ (JV (Bg hr) (pvD 2) (pvD 3) Gz rfl))))))
   (fQ (iB (fY (Hh) (gw (Nf (K:=K) rfl) (by rfl) T.uc (by decide+kernel) (fG (jA (cap:=[none]) (N':=["pair"]) rfl (by walk_at "c") (mQ (K:=K) (pv 0)) (λ_ _ _ _=>(gA (i:=0) nd1 rfl orl orr)) (λ_ _ _ _=>jD) (λ_ _ _ _=>(gF (jP (K:=K)) (pvD 0) fH (λ_ _=>rfl)))) fM)) (pvD 1) (gk _)) (fQ (ou mq rfl T.uF (by rfl) T.ul (fG fZ fM))) gm)))))),?_⟩
  cases o with
  |none=>
   cases hn;walk_at "a";exact k ⟨none,rfl,True.intro⟩ H (same_refl H)
  |some rs=>
   obtain⟨l,rfl,hl,hL,hW,ae⟩:=hn;walk_at "a";refine⟨_,.lst hl,true,by with_unfolding_all rfl,?_⟩;walk_at "a";intro sd ad;refine⟨⟨_,(fO ad).seq (fU hl)⟩,?_⟩
   refine wV (K:=K) (xs:=Jj rs) (λi σ H2=>∃v3 v4 kvs aa,σ=[some (.ref l),some (.int p),some (.ref sd),v3,v4]/\Same H H2/\H2 sd=some (.dK kvs)/\kvs.length<=i/\rs.take i=List.map wR aa/\(∀j:Int,(oF kvs (Sum.inl j)).isSome=true↔j∈aa.map (·.2.1))/\(∀r∈aa,0<=r.2.1/\r.2.1<=1000000/\1<=r.2.2/\r.2.2<=p)/\(aa.map (·.2.1)).Nodup)
    ⟨none,none,[],[],rfl,fO ad,fL,ze _,rfl,λ_=>⟨(λh=>nomatch h),(λh=>nomatch h)⟩,(λ_ h=>nomatch h),.nil⟩ (λi σ H2 _ ⟨_,_,_,_,_,s2,_⟩=>s2.seq (fU hl)) ?_ ?_
   ·rintro i y σ H2 hi ⟨v3,v4,kvs,aa,rfl,s2,h2,hk,ht,hv,hb,hu⟩
    obtain⟨r,ab,rfl⟩:=TV hi;have ai:i<rs.length:=(zv.mp ab).1;have ac:r∈rs:=zb ab;obtain⟨w1,w2⟩:=hW r ac;walk_at "a";refine⟨_,iD (s2 _ _ (hL r ac)),rfl,?_⟩;walk_at "a";refine⟨_,_,_,_,rfl,w1,by decide+kernel,by decide,by decide,λb1=>?_,λb1=>kE (λhg=>b1 (Qg hg ab).1) H2 s2⟩;refine⟨_,_,_,_,rfl,w2,by decide+kernel,by decide,hp,λb2=>?_,λb2=>kE (λhg=>b2 (Qg hg ab).2) H2 s2⟩;obtain⟨b,x1,x2⟩:=r;obtain⟨x,rfl,a0,a1⟩:=b1;obtain⟨z,rfl,c0,c1⟩:=b2;walk_at "a";refine⟨_,Dc (k:=Sum.inl x) h2,?_⟩;by_cases hs:(oF kvs (Sum.inl x)).isSome=true
    ·rw[zp hs]
     exact⟨zW (show x.natAbs<=1000000 by lia) (by decide),λ_ _=>⟨sz,kE (λhg=>Px hg ab ht ((hv _).mp hs)) H2 s2⟩⟩
    ·rw[zk hs]
     have ag:x∉aa.map (·.2.1):=λh=>hs ((hv _).mpr h);refine⟨_,Gn (k:=Sum.inl x) h2 (by rw[zc];lia),s2.upd ad,_,fL,?_,aa++[(b,x,z)],?_,?_,?_,?_⟩
     ·have:=Ek kvs (Sum.inl x:Key) (V.bl true)
      lia
     ·rw[yq,ab,ht,zo]
      rfl
     ·intro j
      rw[zo,zG,iW,<-hv j];by_cases e:x=j
      ·subst e
       simp
      ·rw[zk (λz=>e (yyl z).symm)]
       exact⟨.inl,λh=>h.elim id λh=>absurd (zJ.mp h).symm e⟩
     ·intro q hq
      rcases zG.mp hq with hq|hq
      ·exact hb q hq
      ·rw[zJ.mp hq]
       exact⟨a0,a1,c0,c1⟩
     ·rw[zo]
      exact zzh.mpr ⟨hu,by simp,λa ha b af z=>by
       rw[zj,yo,zJ]at af;exact ag (by have e:x=a:=(z.trans af).symm;rw[e];exact ha)⟩
   ·rintro σ H2 ⟨v3,v4,kvs,aa,rfl,s2,h2,hk,ht,hv,hb,hu⟩
    rw[Uk,zX (ze _)]at ht;subst ht;rw[za]at ae;rw[Kh]at hl;have hL:=hL.ints;walk_at "a";refine⟨⟨_,s2.seq (fU hl)⟩,?_⟩;refine jC.list (xs:=refs aa) (λσ=>∃v,σ=[v]) (λ_=>true) (secs H) (s2.seq (fU hl)) ⟨none,rfl⟩ (by rw[jL,zc];lia) ?_ ?_
    ·rintro x hx σ H5 R1 R2 ⟨v,rfl⟩ sm k1 k2
     obtain⟨r,ac,rfl⟩:=zC.mp hx;walk_at "a";refine⟨_,iD (sm _ _ (s2 _ _ (hL r ac))),_,gR (j:=1) rfl,?_⟩;have:=k1 rfl [some (V.ref r.1)] H5 ⟨_,rfl⟩ (same_refl _);rw[Oc (hL r ac)]at this;exact this
    ·intro Da H' hD sm e
     rw[lu,Mm hL]at e;walk_at "a";refine⟨aa.map (·.2.2),fU (by rw[e,zP];rfl),?_⟩
     try walk_at "a"
     by_cases hs:(aa.map (·.2.2)).sum=p
     ·rw[zk (λz=>z hs)]
      exact k ⟨some aa,rfl,⟨ae,hb,hu,hs⟩⟩ H' (s2.trans sm)
     ·rw[zp hs]
      refine⟨sz,kE (λhg=>?_) H' (s2.trans sm)⟩;obtain⟨ah,e2,hg⟩:=Ce hg;rw[<-JN e2]at hg;exact hs hg.s
noncomputable def JC(K:Fg_):Sp:=λvs H Q _=>∃(v:V)(o:Option Ws),vs=[v]/\NW H v o/\∀v' H',Same H H'->NW H' v' o->(∀q,v'=.ref q->H q=none)->Q v' H'
def mY(T:Txt w K mg A D):ji P w K mg base CX0 1 A.qT D.qT ["named"] (JC K):=by
 refine T.sY.F.okv Im λ_ _ _ _ H vs Q E hr h=>?_
 ·obtain⟨v,o,rfl,hn,k⟩:=h
  refine⟨_,(fQ (gj (Ei (fY (Lz) (pvD 0) jJ (gk _)) jJ (iy (Hw (K:=K)) (by rfl) T.tQ (by decide+kernel) (pav 0 fM))))),?_⟩;simp only[start_eq]
  cases o with
  |none=>
   cases hn;walk_at "a";exact k _ H (same_refl H) rfl (λq e=>by cases e)
  |some rs=>
   obtain⟨l,rfl,hl,hL,hW⟩:=hn;walk_at "a";exact⟨_,.inl (fU hl),λq z=>k _ _ (fO z) ⟨q,rfl,fL,hL.same (fO z),hW⟩ (λq' e=>by cases e;exact z)⟩
local macro_rules | `(tactic| walk_at "n") => `(tactic| ((try dsimp only); refine jY fun u hu => ?_; rw [ap_seq]; walk_at "i"; subst hu))
def NL.updI{H:Hp}{v:V}{o:Option Rs}{x C dx:Addr}{fs:List (Str×V)}{u:HO}(h:NL H v o)(hx:H x=some (.ins C dx fs)):NL (upd H x u) v o:=by
 cases o with
 |none=>exact h
 |some rs=>
  obtain⟨l,e,h1,h2⟩:=h;refine⟨l,e,?_,λr hr=>?_⟩
  ·rw[fX (λz=>by rw[z,hx]at h1;cases h1)];exact h1
  ·have q:=h2 r hr
   rw[fX (λz=>by rw[z,hx]at q;cases q)];exact q
inductive Ent where
 |buy (d n:Int) (w:Str) (p r f:Int)
 |sell (d n:Int) (w:Str) (p r f:Int) (o:Option Rs)
 |gift (d n:Int) (w:Str) (p c s:Int)
 |give (d n:Int) (w:Str) (p:Int) (o:Option Rs)
 |split (d n:Int) (w:Str) (m f:Int)
 |part (d n:Int) (w u:Str) (s t:Int)
noncomputable def Rg(lo hi x:Int):Prop:=lo<=x/\x<=hi
noncomputable def Ent.good:Ent->Prop
 |.buy d n w p r f=>Base d n w/\Rg 1 1000000000 p/\Rg 0 1000000000 r/\Rg 0 1000000000 f
 |.sell d n w p r f o=>Base d n w/\Rg 1 1000000000 p/\Rg 0 1000000000 r/\Rg 0 1000000000 f/\GQ p o
 |.gift d n w p c s=>Base d n w/\Rg 1 1000000000 p/\Rg 0 1000000000000000000 c/\Rg 0 d s
 |.give d n w p o=>Base d n w/\Rg 1 1000000000 p/\GQ p o
 |.split d n w m f=>Base d n w/\Rg 1 1000 m/\Rg 1 1000 f
 |.part d n w u s t=>Base d n w/\Nm u/\u≠w/\Rg 1 1000000 t/\Rg 0 t s
noncomputable def Ent.fs(nv:V):Ent->List (Str×V)
 |.buy d n w p r f=>[("day",.int d),("number",.int n),("ware",.str w),("pieces",.int p),("price",.int r),("fee",.int f),("cost",.int (p*r+f))]
 |.sell d n w p r f _=>[("day",.int d),("number",.int n),("ware",.str w),("pieces",.int p),("price",.int r),("fee",.int f),("named",nv),("proceeds",.int (p*r - f))]
 |.gift d n w p c s=>[("day",.int d),("number",.int n),("ware",.str w),("pieces",.int p),("cost",.int c),("since",.int s)]
 |.give d n w p _=>[("day",.int d),("number",.int n),("ware",.str w),("pieces",.int p),("named",nv)]
 |.split d n w m f=>[("day",.int d),("number",.int n),("ware",.str w),("many",.int m),("of",.int f)]
 |.part d n w u s t=>[("day",.int d),("number",.int n),("ware",.str w),("other",.str u),("share",.int s),("whole",.int t)]
noncomputable def Ent.word:Ent->Str
 |.buy ..=> "buy"
 |.sell ..=> "sell"
 |.gift ..=> "gift"
 |.give ..=> "give"
 |.split ..=> "split"
 |.part ..=> "part"
noncomputable def Ent.args(nv:V):Ent->List V
 |.buy d n w p r f=>[.int d,.int n,.str w,.int p,.int r,.int f]
 |.sell d n w p r f _=>[.int d,.int n,.str w,.int p,.int r,.int f,nv]
 |.gift d n w p c s=>[.int d,.int n,.str w,.int p,.int c,.int s]
 |.give d n w p _=>[.int d,.int n,.str w,.int p,nv]
 |.split d n w m f=>[.int d,.int n,.str w,.int m,.int f]
 |.part d n w u s t=>[.int d,.int n,.str w,.str u,.int s,.int t]
noncomputable def Ent.lots:Ent->Option Rs
 |.sell _ _ _ _ _ _ o=>o
 |.give _ _ _ _ o=>o
 |_=>none
noncomputable def Ent.cls(A:Adr):Ent->Addr
 |.buy ..=>A.rC
 |.sell ..=>A.rD
 |.gift ..=>A.rE
 |.give ..=>A.rF
 |.split ..=>A.rG
 |.part ..=>A.rH
noncomputable def Made(A:Adr)(B H:Hp)(x:Addr)(e:Ent):Prop:=∃dx nv,New B H x (e.cls A) dx (e.fs nv)/\NL H nv e.lots/\∀q,nv=.ref q->B q=none
noncomputable def IsE(A:Adr)(H:Hp)(x:Addr)(e:Ent):Prop:=∃dx nv,H x=some (.ins (e.cls A) dx (e.fs nv))/\NL H nv e.lots
theorem IsE.same{A:Adr}{H H':Hp}{x:Addr}{e:Ent}(s:Same H H'):IsE A H x e->IsE A H' x e:=fun⟨dx,q,h,n⟩=>⟨dx,q,s _ _ h,n.same s⟩
def Nx{B H:Hp}{x C dx:Addr}{gs:List (Str×V)}{f:Str}{v:V}{R:Hp->Prop}(ks:List Str)(q:New B H x C dx gs)(c:Cls K C)(n:gD K C f)(e:gs.map (·.1)=ks)(h:ks.contains f=false)(hl:ks.length<1000)(k:∀H',New B H' x C dx (gs++[(f,v)])->R H'):∃C dx fs,H x=some (.ins C dx fs)/\Cls K C/\gD K C f/\fs.length<1000/\R (upd H x (.ins C dx (Ec f v fs))):=by
 refine⟨C,dx,gs,q.h,c,n,by rw[<-e,za]at hl;exact hl,?_⟩;rw[Jb ks e h];exact k _ (q.put rfl)
def aah{B H:Hp}{x C dx:Addr}{gs:List (Str×V)}{f:Str}{v z:V}{o:Option Rs}{R:Hp->Prop}(ks:List Str)(q:New B H x C dx gs)(hL:NL H z o)(c:Cls K C)(n:gD K C f)(e:gs.map (·.1)=ks)(h:ks.contains f=false)(hl:ks.length<1000)(k:∀H',New B H' x C dx (gs++[(f,v)])->NL H' z o->R H'):∃C dx fs,H x=some (.ins C dx fs)/\Cls K C/\gD K C f/\fs.length<1000/\R (upd H x (.ins C dx (Ec f v fs))):=by
 refine⟨C,dx,gs,q.h,c,n,by rw[<-e,za]at hl;exact hl,?_⟩;rw[Jb ks e h];exact k _ (q.put rfl) (hL.updI q.h)
def YQ{p r:Int}(h1:Rg 1 1000000000 p)(h2:Rg 0 1000000000 r):Ol p r:=Ol.big (zW (show p.natAbs<=1000000000 from by unfold Rg at h1;lia) (by decide)) (zW (show r.natAbs<=1000000000 from by unfold Rg at h2;lia) (by decide))
noncomputable def Bo:Ent->Bool:=λe=>match e with|.buy ..=>true|_=>false
def Zo(T:Txt w K mg A D):CE K A.rC:=⟨T.uK,T.uL,T.uM,T.uN⟩
noncomputable def oJ:Ent->Bool:=λe=>match e with|.sell ..=>true|_=>false
def Wr(T:Txt w K mg A D):CE K A.rD:=⟨T.uS,T.uT,T.uU,T.uV⟩
noncomputable def pZ:Ent->Bool:=λe=>match e with|.gift ..=>true|_=>false
def SX(T:Txt w K mg A D):CE K A.rE:=⟨T.u3,T.u4,T.u5,T.u6⟩
noncomputable def oR:Ent->Bool:=λe=>match e with|.give ..=>true|_=>false
def UW(T:Txt w K mg A D):CE K A.rF:=⟨T.vc,T.vd,T.ve,T.vf⟩
noncomputable def mU:Ent->Bool:=λe=>match e with|.split ..=>true|_=>false
def Qj(T:Txt w K mg A D):CE K A.rG:=⟨T.vi,T.vj,T.vk,T.vm⟩
noncomputable def pR:Ent->Bool:=λe=>match e with|.part ..=>true|_=>false
def Ht(T:Txt w K mg A D):CE K A.rH:=⟨T.vp,T.vq,T.vv,T.vx⟩
def La{e:Ent}(h:Bo e=true):∃d n w p r f,e=.buy d n w p r f:=by cases e<;>first|exact⟨_,_,_,_,_,_,rfl⟩|cases h
def CW{e:Ent}(h:oJ e=true):∃d n w p r f o,e=.sell d n w p r f o:=by cases e<;>first|exact⟨_,_,_,_,_,_,_,rfl⟩|cases h
def Aq{e:Ent}(h:pZ e=true):∃d n w p c s,e=.gift d n w p c s:=by cases e<;>first|exact⟨_,_,_,_,_,_,rfl⟩|cases h
def Cy{e:Ent}(h:oR e=true):∃d n w p o,e=.give d n w p o:=by cases e<;>first|exact⟨_,_,_,_,_,rfl⟩|cases h
def of_split{e:Ent}(h:mU e=true):∃d n w m f,e=.split d n w m f:=by cases e<;>first|exact⟨_,_,_,_,_,rfl⟩|cases h
def wB{e:Ent}(h:pR e=true):∃d n w u s t,e=.part d n w u s t:=by cases e<;>first|exact⟨_,_,_,_,_,_,rfl⟩|cases h
noncomputable def spI(A:Adr)(C:Addr)(m:Nat)(isk:Ent->Bool)(lot:Bool):Sp:=λvs H Q E=>∃(x:Addr)(as:List V)(nl:V)(o:Option Ws)(B:Hp)(dx:Addr),vs=.ref x::(as++if lot then[nl]else[])/\as.length=m/\(∀v∈as,WV v)/\NW B nl o/\(lot=false->nl=.non)/\New B H x C dx []/\
 (∀e:Ent,isk e=true->as++(if lot then[nl]else[])=e.args nl->o=wO e.lots->e.good->∀H',Made A B H' x e->Q .non H')/\((∀e:Ent,isk e=true->as++(if lot then[nl]else[])=e.args nl->o=wO e.lots->¬e.good)->∀H',Same B H'->E (.ref A.rJ) none H')
def acY{x c:Int}(q:0<=x)(h1:x<=1000000000000000000):x.natAbs<2^300:=zW (show x.natAbs<=1000000000000000000 by lia) (by decide)
def adS{q:List V}(h:q.length=5):∃a b c d e,q=[a,b,c,d,e]:=match q,h with|[a,b,c,d,e],_=>⟨a,b,c,d,e,rfl⟩
def Yw{q:List V}(h:q.length=6):∃a b c d e f,q=[a,b,c,d,e,f]:=match q,h with|[a,b,c,d,e,f],_=>⟨a,b,c,d,e,f,rfl⟩
def aei{q:List V}(h:q.length=4):∃a b c d,q=[a,b,c,d]:=match q,h with|[a,b,c,d],_=>⟨a,b,c,d,rfl⟩
def Gd(T:Txt w K mg A D):ji P w K mg base (CX1 P w) 4 A.qR D.qR ["self", "day", "number", "ware", "pieces", "price", "fee"] (spI A A.rC 6 Bo false):=by
 refine T.sW.okX FZ (λvs H Q E h=>?_) (λ_ _ _ _ H vs Q E hr h=>?_)
 ·obtain⟨x,as,nl,o,B,dx,rfl,hl,_⟩:=h
  simp[hl]
 ·obtain⟨x,as,nl,o,B,dx,rfl,hl,hW,hv,aa,z,k,kE⟩:=h
  obtain⟨d,n,w,p,r,f,rfl⟩:=Yw hl;have ac:=hW d (zb (i:=0) rfl);have af:=hW n (zb (i:=1) rfl);have ab:=hW w (zb (i:=2) rfl);have ag:=hW p (zb (i:=3) rfl);have ad:=hW r (zb (i:=4) rfl);have ae:=hW f (zb (i:=5) rfl)
  refine ⟨_,(fK (gU (mZ T.vT (iV (K:=K) T) (hr.mono (by decide)) (by rfl) T.um T.sS.kp (jb T) .nil gq (pav 0 (pav 1 (pav 2 (pav 3 fM))))))
   (fK (gU (iC (xK (K:=K) T) (hr.mono (by decide)) (by rfl) T.sU.m T.sU.k (Bj T) .nil gq (pav 4 (pav 5 (pav 6 fM)))))
   (fK (iY (K:=K) (pv 0) (pvD 4) rfl)
   (fK (iY (K:=K) (pv 0) (pvD 5) rfl)
   (fK (iY (K:=K) (pv 0) (pvD 6) rfl)
   (fQ (iY (K:=K) (pv 0) (fW iz (fW mJ (pvD 4) (pvD 5)) (pvD 6)) rfl))))))),?_⟩
  simp only[start_eq,yx,if_false,z0];walk_at "n";refine⟨x,d,n,w,B,_,dx,rfl,ac,af,ab,z,Zo T,λd2 n2 w2 e1 e2 e3 g1 H1 z=>?_,λb H1 s1=>kE (λe hk ha ho hg=>by obtain⟨d1,n1,w1,p1,r1,f1,rfl⟩:=La hk;cases ha;exact b ⟨_,_,_,rfl,rfl,rfl,hg.1⟩) H1 s1⟩;subst e1 e2 e3;walk_at "n";refine⟨_,_,_,rfl,ag,ad,ae,λg2=>?_,λb=>kE (λe hk ha ho hg=>by obtain⟨d1,n1,w1,p1,r1,f1,rfl⟩:=La hk;cases ha;exact b ⟨⟨_,rfl,hg.2.1.1,hg.2.1.2⟩,⟨_,rfl,hg.2.2.1.1,hg.2.2.1.2⟩,⟨_,rfl,hg.2.2.2.1,hg.2.2.2.2⟩⟩) _ z.s⟩;obtain⟨⟨p,rfl,p0,p1⟩,⟨r,rfl,r0,r1⟩,⟨f,rfl,f0,f1⟩⟩:=g2;have hg:(Ent.buy d2 n2 w2 p r f).good:=⟨g1,⟨p0,p1⟩,⟨r0,r1⟩,⟨f0,f1⟩⟩;walk_at "n";refine Nx ["day", "number", "ware"] z T.uK T.uO rfl (by decide+kernel) (by decide) λH2 z=>?_;walk_at "n";refine Nx ["day", "number", "ware", "pieces"] z T.uK T.uP rfl (by decide+kernel) (by decide) λH2 z=>?_;walk_at "n";refine Nx ["day", "number", "ware", "pieces", "price"] z T.uK T.uQ rfl (by decide+kernel) (by decide) λH2 z=>?_;walk_at "a";refine⟨YQ hg.2.1 hg.2.2.1,Nx ["day", "number", "ware", "pieces", "price", "fee"] z T.uK T.uR rfl (by decide+kernel) (by decide) λH2 z=>k _ rfl rfl ?_ hg H2 ⟨dx,.non,z,rfl,λq e=>by cases e⟩⟩;cases aa rfl
  cases o with
  |none=>rfl
  |some rs=>obtain⟨_,e,_⟩:=hv;cases e
def DX(T:Txt w K mg A D):ji P w K mg base (CX1 P w) 4 A.qV D.qV ["self", "day", "number", "ware", "pieces", "cost", "since"] (spI A A.rE 6 pZ false):=by
 refine T.ti.okX Dy (λvs H Q E h=>?_) (λ_ _ _ _ H vs Q E hr h=>?_)
 ·obtain⟨x,as,nl,o,B,dx,rfl,hl,_⟩:=h
  simp[hl]
 ·obtain⟨x,as,nl,o,B,dx,rfl,hl,hW,hv,aa,z,k,kE⟩:=h
  obtain⟨d,n,w,p,c,s,rfl⟩:=Yw hl;have ac:=hW d (zb (i:=0) rfl);have ae:=hW n (zb (i:=1) rfl);have ab:=hW w (zb (i:=2) rfl);have af:=hW p (zb (i:=3) rfl);have ad:=hW c (zb (i:=4) rfl);have ag:=hW s (zb (i:=5) rfl)
  refine ⟨_,(fK (gU (mZ T.vT (iV (K:=K) T) (hr.mono (by decide)) (by rfl) T.um T.sS.kp (jb T) .nil gq (pav 0 (pav 1 (pav 2 (pav 3 fM))))))
   (fK (gU (iC (gG (K:=K) T) (hr.mono (by decide)) (by rfl) T.sP.m T.sP.k (gH T) .nil gq (fG fZ (pav 4 (fG fH (fG (jh (v:=V.int 1000000000) (by rfl) T.uv ⟨_,rfl⟩) fM))))))
   (fK (gU (iC (gG (K:=K) T) (hr.mono (by decide)) (by rfl) T.sP.m T.sP.k (gH T) .nil gq (fG fZ (pav 5 (fG fH (fG (jh (v:=V.int 1000000000000000000) (by rfl) T.uy ⟨_,rfl⟩) fM))))))
   (fK (gU (iC (gG (K:=K) T) (hr.mono (by decide)) (by rfl) T.sP.m T.sP.k (gH T) .nil gq (fG fZ (pav 6 (fG fH (pav 1 fM))))))
   (fK (iY (K:=K) (pv 0) (pvD 4) rfl)
   (fK (iY (K:=K) (pv 0) (pvD 5) rfl)
   (fQ (iY (K:=K) (pv 0) (pvD 6) rfl)))))))),?_⟩
  simp only[start_eq,yx,if_false,z0];walk_at "n";refine⟨x,d,n,w,B,_,dx,rfl,ac,ae,ab,z,SX T,λd2 n2 w2 e1 e2 e3 g1 H1 z=>?_,λb H1 s1=>kE (λe hk ha ho hg=>by obtain⟨d1,n1,w1,p1,c1,s1,rfl⟩:=Aq hk;cases ha;exact b ⟨_,_,_,rfl,rfl,rfl,hg.1⟩) H1 s1⟩;subst e1 e2 e3;walk_at "n";refine⟨_,_,_,_,rfl,af,by decide+kernel,by decide,by decide,λg2=>?_,λb=>kE (λe hk ha ho hg=>by obtain⟨d1,n1,w1,p1,c1,s1,rfl⟩:=Aq hk;cases ha;exact b ⟨_,rfl,hg.2.1.1,hg.2.1.2⟩) _ z.s⟩;walk_at "n";refine⟨_,_,_,_,rfl,ad,by decide+kernel,by decide,by decide,λg3=>?_,λb=>kE (λe hk ha ho hg=>by obtain⟨d1,n1,w1,p1,c1,s1,rfl⟩:=Aq hk;cases ha;exact b ⟨_,rfl,hg.2.2.1.1,hg.2.2.1.2⟩) _ z.s⟩;walk_at "n";refine⟨_,_,_,_,rfl,ag,by decide+kernel,by decide,acY (c:=0) g1.d0 (by have:=g1.d1;lia),λg4=>?_,λb=>kE (λe hk ha ho hg=>by obtain⟨d1,n1,w1,p1,c1,s1,rfl⟩:=Aq hk;cases ha;exact b ⟨_,rfl,hg.2.2.2.1,hg.2.2.2.2⟩) _ z.s⟩;obtain⟨p,rfl,p0,p1⟩:=g2;obtain⟨c,rfl,c0,c1⟩:=g3;obtain⟨s,rfl,s0,s1⟩:=g4;have hg:(Ent.gift d2 n2 w2 p c s).good:=⟨g1,⟨p0,p1⟩,⟨c0,c1⟩,⟨s0,s1⟩⟩;walk_at "n";refine Nx ["day", "number", "ware"] z T.u3 T.u7 rfl (by decide+kernel) (by decide) λH2 z=>?_;walk_at "n";refine Nx ["day", "number", "ware", "pieces"] z T.u3 T.u8 rfl (by decide+kernel) (by decide) λH2 z=>?_;walk_at "a";refine Nx ["day", "number", "ware", "pieces", "cost"] z T.u3 T.u9 rfl (by decide+kernel) (by decide) λH2 z=>k _ rfl rfl ?_ hg H2 ⟨dx,.non,z,rfl,λq e=>by cases e⟩;cases aa rfl
  cases o with
  |none=>rfl
  |some rs=>obtain⟨_,e,_⟩:=hv;cases e
def CZ(T:Txt w K mg A D):ji P w K mg base (CX1 P w) 4 A.qX D.qX ["self", "day", "number", "ware", "many", "of"] (spI A A.rG 5 mU false):=by
 refine T.tm.okX CV (λvs H Q E h=>?_) (λ_ _ _ _ H vs Q E hr h=>?_)
 ·obtain⟨x,as,nl,o,B,dx,rfl,hl,_⟩:=h
  simp[hl]
 ·obtain⟨x,as,nl,o,B,dx,rfl,hl,hW,hv,aa,z,k,kE⟩:=h
  obtain⟨d,n,w,m,f,rfl⟩:=adS hl;have ac:=hW d (zb (i:=0) rfl);have af:=hW n (zb (i:=1) rfl);have ab:=hW w (zb (i:=2) rfl);have ad:=hW m (zb (i:=3) rfl);have ae:=hW f (zb (i:=4) rfl)
  refine ⟨_,(fK (gU (mZ T.vT (iV (K:=K) T) (hr.mono (by decide)) (by rfl) T.um T.sS.kp (jb T) .nil gq (pav 0 (pav 1 (pav 2 (pav 3 fM))))))
   (fK (gU (iC (gG (K:=K) T) (hr.mono (by decide)) (by rfl) T.sP.m T.sP.k (gH T) .nil gq (fG fZ (pav 4 (fG fH (fG (jh (v:=V.int 1000) (by rfl) T.uz ⟨_,rfl⟩) fM))))))
   (fK (gU (iC (gG (K:=K) T) (hr.mono (by decide)) (by rfl) T.sP.m T.sP.k (gH T) .nil gq (fG fZ (pav 5 (fG fH (fG (jh (v:=V.int 1000) (by rfl) T.uz ⟨_,rfl⟩) fM))))))
   (fK (iY (K:=K) (pv 0) (pvD 4) rfl)
   (fQ (iY (K:=K) (pv 0) (pvD 5) rfl)))))),?_⟩
  simp only[start_eq,yx,if_false,z0];walk_at "n";refine⟨x,d,n,w,B,_,dx,rfl,ac,af,ab,z,Qj T,λd2 n2 w2 e1 e2 e3 g1 H1 z=>?_,λb H1 s1=>kE (λe hk ha ho hg=>by obtain⟨d1,n1,w1,m1,f1,rfl⟩:=of_split hk;cases ha;exact b ⟨_,_,_,rfl,rfl,rfl,hg.1⟩) H1 s1⟩;subst e1 e2 e3;walk_at "n";refine⟨_,_,_,_,rfl,ad,by decide+kernel,by decide,by decide,λg2=>?_,λb=>kE (λe hk ha ho hg=>by obtain⟨d1,n1,w1,m1,f1,rfl⟩:=of_split hk;cases ha;exact b ⟨_,rfl,hg.2.1.1,hg.2.1.2⟩) _ z.s⟩;walk_at "n";refine⟨_,_,_,_,rfl,ae,by decide+kernel,by decide,by decide,λg3=>?_,λb=>kE (λe hk ha ho hg=>by obtain⟨d1,n1,w1,m1,f1,rfl⟩:=of_split hk;cases ha;exact b ⟨_,rfl,hg.2.2.1,hg.2.2.2⟩) _ z.s⟩;obtain⟨m,rfl,m0,m1⟩:=g2;obtain⟨f,rfl,f0,f1⟩:=g3;have hg:(Ent.split d2 n2 w2 m f).good:=⟨g1,⟨m0,m1⟩,⟨f0,f1⟩⟩;walk_at "n";refine Nx ["day", "number", "ware"] z T.vi T.vn rfl (by decide+kernel) (by decide) λH2 z=>?_;walk_at "a";refine Nx ["day", "number", "ware", "many"] z T.vi T.vo rfl (by decide+kernel) (by decide) λH2 z=>k _ rfl rfl ?_ hg H2 ⟨dx,.non,z,rfl,λq e=>by cases e⟩;cases aa rfl
  cases o with
  |none=>rfl
  |some rs=>obtain⟨_,e,_⟩:=hv;cases e
def Ao(T:Txt w K mg A D):ji P w K mg base (CX1 P w) 4 A.qP D.qP ["self", "day", "number", "ware", "other", "share", "whole"] (spI A A.rH 6 pR false):=by
 refine T.sT.okX xZ (λvs H Q E h=>?_) (λ_ _ _ _ H vs Q E hr h=>?_)
 ·obtain⟨x,as,nl,o,B,dx,rfl,hl,_⟩:=h
  simp[hl]
 ·obtain⟨x,as,nl,o,B,dx,rfl,hl,hW,hv,aa,z,k,kE⟩:=h
  obtain⟨d,n,w,u,s,t,rfl⟩:=Yw hl;have ad:=hW d (zb (i:=0) rfl);have ae:=hW n (zb (i:=1) rfl);have ac:=hW w (zb (i:=2) rfl);have af:=hW u (zb (i:=3) rfl);have ag:=hW s (zb (i:=4) rfl);have ab:=hW t (zb (i:=5) rfl)
  refine ⟨_,(fK (gU (mZ T.vT (iV (K:=K) T) (hr.mono (by decide)) (by rfl) T.um T.sS.kp (jb T) .nil gq (pav 0 (pav 1 (pav 2 (pav 3 fM))))))
   (fK (gU (iC (Bd (K:=K) T) (hr.mono (by decide)) (by rfl) T.sR.m T.sR.k (Dg T) .nil gq (fG fZ (pav 4 fM))))
   (fK (iB (fY (jT) (pvD 4) (pvD 3) (gk _)) (fQ (ou mq rfl T.uF (by rfl) T.ul (fG fZ fM))) gm)
   (fK (gU (iC (gG (K:=K) T) (hr.mono (by decide)) (by rfl) T.sP.m T.sP.k (gH T) .nil gq (fG fZ (pav 6 (fG fH (fG (jh (v:=V.int 1000000) (by rfl) T.uu ⟨_,rfl⟩) fM))))))
   (fK (gU (iC (gG (K:=K) T) (hr.mono (by decide)) (by rfl) T.sP.m T.sP.k (gH T) .nil gq (fG fZ (pav 5 (fG fH (pav 6 fM))))))
   (fK (iY (K:=K) (pv 0) (pvD 4) rfl)
   (fK (iY (K:=K) (pv 0) (pvD 5) rfl)
   (fQ (iY (K:=K) (pv 0) (pvD 6) rfl))))))))),?_⟩
  simp only[start_eq,yx,if_false,z0];walk_at "n";refine⟨x,d,n,w,B,_,dx,rfl,ad,ae,ac,z,Ht T,λd2 n2 w2 e1 e2 e3 g1 H1 z=>?_,λb H1 s1=>kE (λe hk ha ho hg=>by obtain⟨d1,n1,w1,u1,s1,t1,rfl⟩:=wB hk;cases ha;exact b ⟨_,_,_,rfl,rfl,rfl,hg.1⟩) H1 s1⟩;subst e1 e2 e3;walk_at "n";refine⟨_,_,rfl,af,by decide+kernel,λg2 H2 sm=>?_,λb H2 sm=>kE (λe hk ha ho hg=>by obtain⟨d1,n1,w1,u1,s1,t1,rfl⟩:=wB hk;cases ha;exact b ⟨_,rfl,hg.2.1⟩) H2 (z.s.trans sm)⟩;have z:=z.same sm;obtain⟨u,rfl,gu⟩:=g2;walk_at "n";by_cases g3:u=w2
  ·rw[zp g3]
   exact⟨sz,kE (λe hk ha ho hg=>by obtain⟨d1,n1,w1,u1,s1,t1,rfl⟩:=wB hk;cases ha;exact hg.2.2.1 g3) _ z.s⟩
  rw[zk g3];walk_at "n";refine⟨_,_,_,_,rfl,ab,by decide+kernel,by decide,by decide,λg4=>?_,λb=>kE (λe hk ha ho hg=>by obtain⟨d1,n1,w1,u1,s1,t1,rfl⟩:=wB hk;cases ha;exact b ⟨_,rfl,hg.2.2.2.1.1,hg.2.2.2.1.2⟩) _ z.s⟩;obtain⟨t,rfl,t0,t1⟩:=g4;walk_at "n";refine⟨_,_,_,_,rfl,ag,by decide+kernel,by decide,acY (c:=0) (by lia) (by lia),λg5=>?_,λb=>kE (λe hk ha ho hg=>by obtain⟨d1,n1,w1,u1,s1,t1,rfl⟩:=wB hk;cases ha;exact b ⟨_,rfl,hg.2.2.2.2.1,hg.2.2.2.2.2⟩) _ z.s⟩;obtain⟨s,rfl,s0,s1⟩:=g5;have hg:(Ent.part d2 n2 w2 u s t).good:=⟨g1,gu,g3,⟨t0,t1⟩,⟨s0,s1⟩⟩;walk_at "n";refine Nx ["day", "number", "ware"] z T.vp T.vy rfl (by decide+kernel) (by decide) λH2 z=>?_;walk_at "n";refine Nx ["day", "number", "ware", "other"] z T.vp T.vz rfl (by decide+kernel) (by decide) λH2 z=>?_;walk_at "a";refine Nx ["day", "number", "ware", "other", "share"] z T.vp T.vA rfl (by decide+kernel) (by decide) λH2 z=>k _ rfl rfl ?_ hg H2 ⟨dx,.non,z,rfl,λq e=>by cases e⟩;cases aa rfl
  cases o with
  |none=>rfl
  |some rs=>obtain⟨_,e,_⟩:=hv;cases e
def DR(T:Txt w K mg A D):ji P w K mg base (CX1 P w) 4 A.qU D.qU ["self", "day", "number", "ware", "pieces", "price", "fee", "named"] (spI A A.rD 6 oJ true):=by
 refine T.sZ.okX DG (λvs H Q E h=>?_) (λ_ _ _ _ H vs Q E hr h=>?_)
 ·obtain⟨x,as,nl,o,B,dx,rfl,hl,_⟩:=h
  simp[hl]
 ·obtain⟨x,as,nl,o,B,dx,rfl,hl,hW,hv,aa,z,k,kE⟩:=h
  obtain⟨d,n,w,p,r,f,rfl⟩:=Yw hl;have ac:=hW d (zb (i:=0) rfl);have af:=hW n (zb (i:=1) rfl);have ab:=hW w (zb (i:=2) rfl);have ag:=hW p (zb (i:=3) rfl);have ad:=hW r (zb (i:=4) rfl);have ae:=hW f (zb (i:=5) rfl)
  refine ⟨_,(fK (gU (mZ T.vT (iV (K:=K) T) (hr.mono (by decide)) (by rfl) T.um T.sS.kp (jb T) .nil gq (pav 0 (pav 1 (pav 2 (pav 3 fM))))))
   (fK (gU (iC (xK (K:=K) T) (hr.mono (by decide)) (by rfl) T.sU.m T.sU.k (Bj T) .nil gq (pav 4 (pav 5 (pav 6 fM)))))
   (fK (gU (iC (xH (K:=K) T) (hr.mono (by decide)) (by rfl) T.sX.m T.sX.k (BR T) .nil gq (pav 7 (pav 4 fM))))
   (fK (iY (K:=K) (pv 0) (pvD 4) rfl)
   (fK (iY (K:=K) (pv 0) (pvD 5) rfl)
   (fK (iY (K:=K) (pv 0) (pvD 6) rfl)
   (fK (iY (K:=K) (pv 0) (pcg (mY T) hr T.sY (oE T) (pav 7 fM)) rfl)
   (fQ (iY (K:=K) (pv 0) (fW Hv (fW mJ (pvD 4) (pvD 5)) (pvD 6)) rfl))))))))),?_⟩
  simp only[start_eq,if_true,yy,yR];walk_at "n";refine⟨x,d,n,w,B,_,dx,rfl,ac,af,ab,z,Wr T,λd2 n2 w2 e1 e2 e3 g1 H1 z=>?_,λb H1 s1=>kE (λe hk ha ho hg=>by obtain⟨d1,n1,w1,p1,r1,f1,o1,rfl⟩:=CW hk;cases ha;exact b ⟨_,_,_,rfl,rfl,rfl,hg.1⟩) H1 s1⟩;subst e1 e2 e3;walk_at "n";refine⟨_,_,_,rfl,ag,ad,ae,λg2=>?_,λb=>kE (λe hk ha ho hg=>by obtain⟨d1,n1,w1,p1,r1,f1,o1,rfl⟩:=CW hk;cases ha;exact b ⟨⟨_,rfl,hg.2.1.1,hg.2.1.2⟩,⟨_,rfl,hg.2.2.1.1,hg.2.2.1.2⟩,⟨_,rfl,hg.2.2.2.1.1,hg.2.2.2.1.2⟩⟩) _ z.s⟩;obtain⟨⟨p,rfl,p0,p1⟩,⟨r,rfl,r0,r1⟩,⟨f,rfl,f0,f1⟩⟩:=g2;walk_at "n";refine⟨_,_,o,rfl,hv.same z.s,acY (c:=0) (by lia) (by lia),λg3 H2 sm=>?_,λb H2 sm=>kE (λe hk ha ho hg=>by obtain⟨d1,n1,w1,p1,r1,f1,o1,rfl⟩:=CW hk;cases ha;exact b ⟨_,ho,hg.2.2.2.2⟩) _ (z.s.trans sm)⟩;obtain⟨o,rfl,go⟩:=g3;have hg:(Ent.sell d2 n2 w2 p r f o).good:=⟨g1,⟨p0,p1⟩,⟨r0,r1⟩,⟨f0,f1⟩,go⟩;have z:=z.same sm;walk_at "n";refine Nx ["day", "number", "ware"] z T.uS T.uW rfl (by decide+kernel) (by decide) λH2 z=>?_;walk_at "n";refine Nx ["day", "number", "ware", "pieces"] z T.uS T.uX rfl (by decide+kernel) (by decide) λH2 z=>?_;walk_at "n";refine Nx ["day", "number", "ware", "pieces", "price"] z T.uS T.uY rfl (by decide+kernel) (by decide) λH2 z=>?_;walk_at "n";refine⟨_,wO o,rfl,hv.same z.s,λv' H3 sm aa hq=>?_⟩;have hb:∀q,v'=.ref q->B q=none:=λq e=>z.s.free (hq q e);refine aah ["day", "number", "ware", "pieces", "price", "fee"] (z.same sm) aa.ints T.uS T.uZ rfl (by decide+kernel) (by decide) λH2 z aa=>?_;walk_at "a";exact⟨YQ hg.2.1 hg.2.2.1,aah ["day", "number", "ware", "pieces", "price", "fee", "named"] z aa T.uS T.u0 rfl (by decide+kernel) (by decide) λH2 z aa=>k _ rfl rfl rfl hg H2 ⟨dx,v',z,aa,hb⟩⟩
def Du(T:Txt w K mg A D):ji P w K mg base (CX1 P w) 4 A.qW D.qW ["self", "day", "number", "ware", "pieces", "named"] (spI A A.rF 4 oR true):=by
 refine T.tj.okX DY (λvs H Q E h=>?_) (λ_ _ _ _ H vs Q E hr h=>?_)
 ·obtain⟨x,as,nl,o,B,dx,rfl,hl,_⟩:=h
  simp[hl]
 ·obtain⟨x,as,nl,o,B,dx,rfl,hl,hW,hv,aa,z,k,kE⟩:=h
  obtain⟨d,n,w,p,rfl⟩:=aei hl;have ac:=hW d (zb (i:=0) rfl);have ad:=hW n (zb (i:=1) rfl);have ab:=hW w (zb (i:=2) rfl);have ae:=hW p (zb (i:=3) rfl)
  refine ⟨_,(fK (gU (mZ T.vT (iV (K:=K) T) (hr.mono (by decide)) (by rfl) T.um T.sS.kp (jb T) .nil gq (pav 0 (pav 1 (pav 2 (pav 3 fM))))))
   (fK (gU (iC (gG (K:=K) T) (hr.mono (by decide)) (by rfl) T.sP.m T.sP.k (gH T) .nil gq (fG fZ (pav 4 (fG fH (fG (jh (v:=V.int 1000000000) (by rfl) T.uv ⟨_,rfl⟩) fM))))))
   (fK (gU (iC (xH (K:=K) T) (hr.mono (by decide)) (by rfl) T.sX.m T.sX.k (BR T) .nil gq (pav 5 (pav 4 fM))))
   (fK (iY (K:=K) (pv 0) (pvD 4) rfl)
   (fQ (iY (K:=K) (pv 0) (pcg (mY T) hr T.sY (oE T) (pav 5 fM)) rfl)))))),?_⟩
  simp only[start_eq,if_true,yy,yR];walk_at "n";refine⟨x,d,n,w,B,_,dx,rfl,ac,ad,ab,z,UW T,λd2 n2 w2 e1 e2 e3 g1 H1 z=>?_,λb H1 s1=>kE (λe hk ha ho hg=>by obtain⟨d1,n1,w1,p1,o1,rfl⟩:=Cy hk;cases ha;exact b ⟨_,_,_,rfl,rfl,rfl,hg.1⟩) H1 s1⟩;subst e1 e2 e3;walk_at "n";refine⟨_,_,_,_,rfl,ae,by decide+kernel,by decide,by decide,λg2=>?_,λb=>kE (λe hk ha ho hg=>by obtain⟨d1,n1,w1,p1,o1,rfl⟩:=Cy hk;cases ha;exact b ⟨_,rfl,hg.2.1.1,hg.2.1.2⟩) _ z.s⟩;obtain⟨p,rfl,p0,p1⟩:=g2;walk_at "n";refine⟨_,_,o,rfl,hv.same z.s,acY (c:=0) (by lia) (by lia),λg3 H2 sm=>?_,λb H2 sm=>kE (λe hk ha ho hg=>by obtain⟨d1,n1,w1,p1,o1,rfl⟩:=Cy hk;cases ha;exact b ⟨_,ho,hg.2.2⟩) _ (z.s.trans sm)⟩;obtain⟨o,rfl,go⟩:=g3;have hg:(Ent.give d2 n2 w2 p o).good:=⟨g1,⟨p0,p1⟩,go⟩;have z:=z.same sm;walk_at "n";refine Nx ["day", "number", "ware"] z T.vc T.vg rfl (by decide+kernel) (by decide) λH2 z=>?_;walk_at "a";refine⟨_,wO o,rfl,hv.same z.s,λv' H3 sm aa hq=>?_⟩;have hb:∀q,v'=.ref q->B q=none:=λq e=>z.s.free (hq q e);exact aah ["day", "number", "ware", "pieces"] (z.same sm) aa.ints T.vc T.vh rfl (by decide+kernel) (by decide) λH2 z aa=>k _ rfl rfl rfl hg H2 ⟨dx,v',z,aa,hb⟩
def str_len(a b:Str):(a++b).length=a.length+b.length:=by
 show(a.cps++b.cps).size=_;rw[yyd];rfl
def PQ:∀d:Fin 10,(Nat.digitChar d.val).toNat=48+d.val:=by decide
theorem Ve:∀(k:Nat)(cs:List Nat),cs.length=k+1->(∀c∈cs,48<=c/\c<=57)->cs[0]? ≠some 48->∃m,0<m/\(Nat.toDigits 10 m).map Char.toNat=cs
 |0,cs,hl,hc,h0=>by
  match cs,hl with
  |[c],_=>
   have h:=hc c zi;have hn:c≠48:=λe=>h0 (by rw[e];rfl);refine⟨c - 48,by lia,?_⟩;rw[Nat.toDigits_of_lt_base (by lia)];have:=PQ ⟨c - 48,by lia⟩;show[(Nat.digitChar (c - 48)).toNat]=[c];rw[this];show[48+(c - 48)]=[c];congr 1;lia
 |k+1,cs,hl,hc,h0=>by
  have aa:cs≠[]:=λz=>by rw[z]at hl;cases hl
  obtain⟨l,c,rfl⟩:∃l c,cs=l++[c]:=⟨cs.dropLast,cs.getLast aa,(zzS aa).symm⟩;have ab:l.length=k+1:=by rw[zm]at hl;simpa using hl
  obtain⟨q,hq,e⟩:=Ve k l ab (λx hx=>hc x (yB _ hx)) (λz=>h0 (by rw[zZ (by lia)];exact z));have h:=hc c (zM _ zi);refine⟨10*q+(c - 48),by lia,?_⟩;rw[Nat.toDigits_of_base_le (by decide) (by lia),show(10*q+(c - 48))/10=q by lia,show(10*q+(c - 48))%10=c - 48 by lia,zo,e];have:=PQ ⟨c - 48,by lia⟩;show l++[(Nat.digitChar (c - 48)).toNat]=l++[c];rw[this];show l++[48+(c - 48)]=l++[c];congr 2;lia
def Mj{z:Str}{c:Nat}:Txt.startswith z ⟨#[c]⟩=true↔z.cps.toList[0]? =some c:=by
 rw[<-PySem.StrLaws.subAt_one];unfold Txt.startswith;rw[zU,decide_eq_true_iff]
def Hu:Str.ofString "0" =⟨#[48]⟩:=by decide+kernel
def Fg{z:Str}(h:z.length=0):z=Str.ofString "" :=by
 refine L2.str_ext ?_;rw[show(Str.ofString "").cps.toList=[] by decide+kernel];exact z7 (by rw[zH];exact h)
noncomputable def jN(z:Str):Bool:=decide (z≠Str.ofString "") && decide (z.length<=19) && !(Txt.startswith z (Str.ofString "0") && decide (z≠Str.ofString "0")) && z.cps.toList.all λc=>decide (48<=c) && decide (c<=57)
noncomputable def val(z:Str):V:=if jN z=true then .int ((PySem.intText? z).getD 0)else .str z
def RL{z:Str}(h:jN z=true):∃m:Nat,z=jG (m:Int)/\(m:Int).natAbs<2^300:=by
 unfold jN at h;rw[zU,zU,zU,decide_eq_true_iff,decide_eq_true_iff,y6]at h;obtain⟨⟨⟨h1,h2⟩,h3⟩,h4⟩:=h
 have hc:∀c∈z.cps.toList,48<=c/\c<=57:=λc hm=>by
  have:=h4 c hm;rw[zU,decide_eq_true_iff,decide_eq_true_iff]at this;exact this
 have hl:z.cps.toList.length=z.length:=zH;have hpos:0<z.length:=yK λe=>h1 (Fg e)
 have q:∀m:Nat,(Nat.toDigits 10 m).map Char.toNat=z.cps.toList->z=jG (m:Int)/\(m:Int).natAbs<2^300:=λm e=>by
  refine⟨L2.str_ext ?_,?_⟩
  ·unfold jG
   rw[zzf];exact e.symm
  ·have e2:=congrArg List.length e
   rw[za,hl]at e2;have:=(zzl (b:=10) (n:=m) (k:=19) (by decide) (by decide)).mp (by lia);exact Nat.lt_trans (show(m:Int).natAbs<10^19 by lia) (by decide)
 by_cases h0:z.cps.toList[0]? =some 48
 ·have hz:z=Str.ofString "0" :=by
   rw[Hu]at h3;rw[Mj.mpr h0,Bool.true_and]at h3;rw[Hu]
   simpa using h3
  refine⟨0,q 0 ?_⟩;rw[hz];decide+kernel
 ·obtain⟨m,_,e⟩:=Ve (z.length - 1) z.cps.toList (by lia) hc h0
  exact⟨m,q m e⟩
def Py{z:Str}(h:jN z=true):∃m:Nat,z=jG (m:Int)/\(m:Int).natAbs<2^300/\val z=.int m:=by
 obtain⟨m,e,hm⟩:=RL h;refine⟨m,e,hm,?_⟩;unfold val;rw[zp h,e,L2.num_text (by lia) hm];rfl
def Fp{z:Str}(h:¬jN z=true):val z=.str z:=by unfold val;rw[zk h]
def Wa{z:Str}(q:z.length<=1000000):WV (val z):=by
 by_cases h:jN z=true
 ·obtain⟨m,_,_,e⟩:=Py h
  rw[e];exact .inl ⟨_,rfl⟩
 ·rw[Fp h]
  exact .inr ⟨z,rfl,q⟩
noncomputable def okD:V->Bool
 |.str x=>x.cps.toList.all λc=>decide (48<=c) && decide (c<=57)
 |_=>true
def aaU(l:List Nat):((l.map λc=>V.str ⟨#[c]⟩).map okD).all id=l.all λc=>decide (48<=c) && decide (c<=57):=by
 induction l with
 |nil=>rfl
 |cons c l ih=>
  rw[zj,zj,yz,yz,ih];show((decide (48<=c) && decide (c<=57)) && true && _)=_;rw[yH]
noncomputable def xF:Sp:=λvs H Q _=>∃z:Str,vs=[.str z]/\z.length<=1000000/\∀H',Same H H'->Q (.bl (jN z)) H'
def xq(T:Txt w K mg A D):ji P w K mg base CX0 1 A.qZ D.qZ ["word"] xF:=by
 refine T.tq.F.okv xr λ_ _ _ _ H vs Q E hr h=>?_
 ·obtain⟨z,rfl,hl,k⟩:=h
  refine ⟨_,(fK (iB (PW.pt (nZ (fY (jT) (pvD 0) fZ (gk _)) (lY (fY (xu) (gw jB (by rfl) T.tS (by decide+kernel) (pav 0 fM)) (jh (v:=V.int 19) (by rfl) T.uA ⟨_,rfl⟩) (gk _))))) (fQ (gj Gz)) gm)
   (fK (iB (PW.pt (Be (xN (jV (K:=K) zT PySem.F.slot_str_startswith PySem.F.type_str_startswith JG (pvD 0) (fG fZ fM))) (wU (fY (Hh) (pvD 0) fZ (gk _))))) (fQ (gj Gz)) gm)
   (fQ (gj (gw (Ks (K:=K) rfl) (by rfl) T.t9 (by decide+kernel) (fG (jA (cap:=[none]) (N':=["sign"]) rfl (by walk_at "c") (QJ (pvD 0)) (λ_ _ _ _=>(gA (i:=0) nd1 rfl orl orr)) (λ_ _ _ _=>jD) (λ_ _ _ _=>(IW (Av) (Av) fZ (pvD 0) fZ))) fM)))))),?_⟩
  have hz:z.length<=sizeLine:=by rw[zc];lia
  walk_at "a";by_cases h0:z=Str.ofString ""
  ·rw[zp h0]
   have e:jN z=false:=by unfold jN;rw[zB (λc=>c h0)];rfl
   rw[<-e];exact k H (same_refl H)
  rw[zk h0];refine⟨hz,?_⟩;by_cases h1:19<(z.length:Int)
  ·rw[zp h1]
   have e:jN z=false:=by unfold jN;rw[zB (p:=z.length<=19) (by lia),yJ];rfl
   rw[<-e];exact k H (same_refl H)
  rw[zk h1]
  have e1:jN z=(!(Txt.startswith z (Str.ofString "0") && decide (z≠Str.ofString "0")) && z.cps.toList.all λc=>decide (48<=c) && decide (c<=57)):=by
   unfold jN;rw[zS h0,zS (show z.length<=19 by lia)];rfl
  have aa:(Txt.startswith z (Str.ofString "0") && decide (z≠Str.ofString "0"))=false->jC [none] (aaY z) (Fy 0) Eb (Qq acP acP (tC (V.str (Str.ofString "0"))) (tV 0) (tC (V.str (Str.ofString "9")))) [some (V.str z)] H λx H1=>acT K [x] H1 Q:=by
   intro e2;rw[e2,Bool.not_false,Bool.true_and]at e1;refine jC.str (λσ=>∃v,σ=[v]) (λ_=>true) (λv=> .bl (okD v)) ⟨none,rfl⟩ hz ?_ ?_
   ·rintro x hx σ H5 R1 R2 ⟨v,rfl⟩ sm k1 k2
    obtain⟨c,hc,rfl⟩:=zC.mp hx;walk_at "a";have ea:(Str.ofString "0").cps.toList=[48]:=by decide+kernel
    have ez:(Str.ofString "9").cps.toList=[57]:=by decide+kernel
    rw[ea,ez]
    have hv:(if¬[c]<[48]then V.bl !decide ([57]<[c])else V.bl false)=V.bl (okD (.str ⟨#[c]⟩)):=by
     show _=V.bl ((decide (48<=c) && decide (c<=57)) && true);by_cases h1:48<=c
     ·rw[zp (by rw[MK];lia),zS h1]
      by_cases h2:c<=57
      ·rw[zS h2,zB (by rw[MK];lia)];rfl
      ·rw[zB h2,zS (by rw[MK];lia)];rfl
     ·rw[zk (by rw[MK];lia),zB h1];rfl
    have k1:=k1 rfl [some (V.str {cps:= #[c]})] H5 ⟨_,rfl⟩ (same_refl _);rw[<-hv]at k1;by_cases h1:¬[c]<[48]
    ·rw[zp h1]at k1⊢;exact k1
    ·rw[zk h1]at k1⊢;exact k1
   ·intro Da H' hD sm e
    rw[lu]at e;walk_at "a";refine⟨(L2.signs z).map okD,fU (by rw[e,zP];rfl),?_⟩;rw[show((L2.signs z).map okD).all id=jN z from(aaU z.cps.toList).trans e1.symm];exact k H' sm
  refine⟨rfl,?_⟩;by_cases hs:Txt.startswith z (Str.ofString "0")=true
  ·rw[zp hs]
   by_cases q:z=Str.ofString "0"
   ·rw[zk (λc=>c q)]
    exact aa (by rw[hs,zB (λc=>c q)];rfl)
   ·rw[zp q]
    have e:jN z=false:=by rw[e1,hs,zS q];rfl
    rw[<-e];exact k H (same_refl H)
  ·rw[zk hs]
   exact aa (by rw[zzK]at hs;rw[hs];rfl)
noncomputable def DW:Sp:=λvs H Q _=>∃z:Str,vs=[.str z]/\z.length<=1000000/\∀H',Same H H'->Q (val z) H'
def mL(T:Txt w K mg A D):ji P w K mg base CX0 2 A.ra D.ra ["word"] DW:=by
 refine T.tw.F.okv Dq λ_ _ _ _ H vs Q E hr h=>?_
 ·obtain⟨z,rfl,hl,k⟩:=h
  refine⟨_,(fQ (gj (Ei (xN (pcg (xq T) hr T.tq (Aj T) (pav 0 fM))) (iy Bw (by rfl) T.tT (by decide+kernel) (pav 0 fM)) (pvD 0)))),?_⟩;walk_at "a";refine⟨z,rfl,hl,λH1 q=>?_⟩;by_cases h:jN z=true
  ·obtain⟨m,e,hm,ev⟩:=Py h
   rw[h];walk_at "i";rw[ev]at k;subst e;exact⟨m,rfl,by lia,hm,k H1 q⟩
  ·rw[Fp h]at k
   rw[zzK]at h;rw[h];walk_at "i";exact k H1 q
abbrev jx(z:Str):Str×Str×Str:=Txt.partition z (Str.ofString ":")
def Iu(z:Str):(jx z).1.length<=z.length/\(jx z).2.2.length<=z.length:=by
 have h:=congrArg Str.length (zz0 z (Str.ofString ":"));rw[str_len,str_len]at h;unfold jx;lia
noncomputable def Gr(z:Str):V×V:=(val (jx z).1,val (jx z).2.2)
noncomputable def GX:Sp:=λvs H Q _=>∃z:Str,vs=[.str z]/\z.length<=1000000/\∀t H',Same H H'->H t=none->H' t=some (.tup [(Gr z).1,(Gr z).2])->Q (.ref t) H'
def Hj(T:Txt w K mg A D):ji P w K mg base CX0 3 A.rb D.rb ["word"] GX:=by
 refine T.tz.F.okv xP λ_ _ _ _ H vs Q E hr h=>?_
 ·obtain⟨z,rfl,hl,k⟩:=h
  refine ⟨_,(fK (gn (i:=1) xP.nd rfl orl (jV (K:=K) zT zz5 zz6 Dj (pvD 0) (fG fZ fM)))
   (fQ (gj (ju (fG (pcg (mL T) hr T.tw (nR T) (fG (gF (jP (K:=K)) (pvD 1) fH (λ_ _=>rfl)) fM)) (fG (pcg (mL T) hr T.tw (nR T) (fG (gF (jP (K:=K)) (pvD 1) fH (λ_ _=>rfl)) fM)) fM)))))),?_⟩
  obtain⟨l1,l2⟩:=Iu z;simp only[start_eq];walk_at "n";refine⟨rfl,by decide+kernel,by lia,λp hp=>?_⟩;have sp:=fO (o:=.tup [.str (jx z).1,.str (jx z).2.1,.str (jx z).2.2]) hp;generalize q:upd H p _=H1 at*;have h1:H1 p=some (.tup [.str (jx z).1,.str (jx z).2.1,.str (jx z).2.2]):=by rw[<-q];exact fL
  try walk_at "i"
  refine⟨_,iD h1,_,rfl,_,rfl,by lia,λH2 s2=>?_⟩;refine⟨_,iD (s2 _ _ h1),_,rfl,_,rfl,by lia,λH3 s3=>?_⟩;exact⟨sz,λt ht=>k t _ (((sp.trans s2).trans s3).trans (fO ht)) (((sp.trans s2).trans s3).free ht) fL⟩
noncomputable def NT(H:Hp)(v:V):Option Rs->Prop
 |none=>v=.non
 |some rs=>∃l,v=.ref l/\H l=some (.tup (refs rs))/\Gw H rs
theorem NT.same{H H':Hp}{v:V}{o:Option Rs}(h:NT H v o)(s:Same H H'):NT H' v o:=by
 cases o with
 |none=>exact h
 |some rs=>obtain⟨l,e,h1,h2⟩:=h;exact⟨l,e,s _ _ h1,h2.same s⟩
local macro_rules | `(tactic| walk_at "m") => `(tactic| ((try dsimp only); rw [ap_seq]; walk_at "i"))
noncomputable def xW(H:Hp)(t:Addr)(e:Ent):Prop:=∃nt,H t=some (.tup (.str e.word::e.args nt))/\NT H nt e.lots
theorem xW.same{H H':Hp}{t:Addr}{e:Ent}(s:Same H H'):xW H t e->xW H' t e:=fun⟨q,h,n⟩=>⟨q,s _ _ h,n.same s⟩
def HF{H:Hp}{x dx C:Addr}(z:H x=none)(q:H dx=none):New H (upd (upd H dx (.own x)) x (.ins C dx [])) x C dx []:=⟨(fO q).upd z,z,fL⟩
noncomputable def Ent.day:Ent->Int
 |.buy d ..=>d
 |.sell d ..=>d
 |.gift d ..=>d
 |.give d ..=>d
 |.split d ..=>d
 |.part d ..=>d
noncomputable def Ent.num:Ent->Int
 |.buy _ n ..=>n
 |.sell _ n ..=>n
 |.gift _ n ..=>n
 |.give _ n ..=>n
 |.split _ n ..=>n
 |.part _ n ..=>n
noncomputable def Ent.ware:Ent->Str
 |.buy _ _ w ..=>w
 |.sell _ _ w ..=>w
 |.gift _ _ w ..=>w
 |.give _ _ w ..=>w
 |.split _ _ w ..=>w
 |.part _ _ w ..=>w
def abJ(T:Txt w K mg A D)(e:Ent):CE K (e.cls A):=by
 cases e with
 |buy=>exact Zo T
 |sell=>exact Wr T
 |gift=>exact SX T
 |give=>exact UW T
 |split=>exact Qj T
 |part=>exact Ht T
def Fj(e:Ent)(q:V):(e.fs q).lookup (Str.ofString "number")=some (.int e.num):=by cases e<;>rfl
def Gw.put{H:Hp}{rs:Rs}{l:Addr}{xs:List V}{u:HO}(h:Gw H rs)(hl:H l=some (.lst xs)):Gw (upd H l u) rs:=λr q=>by
 have h2:=h r q;rw[fX (λz=>by rw[z,hl]at h2;cases h2)];exact h2
noncomputable def Rj(ws:List Str):Option Ws->Prop
 |none=>ws=[]
 |some rs=>ws≠[]/\rs.map (·.2)=ws.map Gr
theorem abv{H:Hp}:∀{ws:List Str}{acc:List V},acc.length=ws.length->(∀(i:Nat) v,acc[i]? =some v->∃b z,ws[i]? =some z/\v=.ref b/\H b=some (.tup [(Gr z).1,(Gr z).2]))->∃rs:Ws,acc=Jj rs/\rs.map (·.2)=ws.map Gr/\Pg H rs
 |[],acc,hl,_=>⟨[],z7 hl,rfl,λr hr=>nomatch hr⟩
 |z::ws,acc,hl,h=>by
  cases acc with
  |nil=>cases hl
  |cons v acc=>
   obtain⟨b,z',e1,e2,e3⟩:=h 0 v rfl;cases zt e1;obtain⟨rs,a1,a2,a3⟩:=abv (ws:=ws) (acc:=acc) (Nat.succ.inj hl) λi v hv=>h (i+1) v hv;refine⟨(b,Gr z)::rs,by rw[e2,a1];rfl,?_,λq hq=>?_⟩
   ·rw[zj,zj,a2]
   ·rcases zh.mp hq with e|hq
    ·subst e;exact e3
    ·exact a3 q hq
noncomputable def Cu:Sp:=λvs H Q _=>∃(q:Addr)(ws:List Str),vs=[.ref q]/\H q=some (.lst (ws.map V.str))/\ws.length<=300000/\(∀z∈ws,z.length<=1000000)/\
 ∀v o H',Same H H'->NW H' v o->Rj ws o->(∀l,v=.ref l->H l=none)->Q v H'
def Cj(T:Txt w K mg A D):ji P w K mg base CX0 4 A.re D.re ["words"] Cu:=by
 refine T.tD.F.okv CJ λ_ _ _ _ H vs Q E hr h=>?_
 ·obtain⟨q,ws,rfl,hq,hl,hz,k⟩:=h
  refine⟨_,(fQ (gj (Ei (fY (jT) (gw (gW (K:=K)) (by rfl) T.tS (by decide+kernel) (pav 0 fM)) fH (gk _)) jJ (jA (cap:=[none]) (N':=["word"]) rfl (by walk_at "c") (mQ (K:=K) (pv 0)) (λ_ _ _ _=>(gA (i:=0) nd1 rfl orl orr)) (λ_ _ _ _=>jD) (λ_ _ _ _=>(pcg (Hj T) hr T.tz (Jy T) (pav 0 fM))))))),?_⟩;walk_at "a";refine⟨_,.inl (fU hq),?_⟩;rw[za];by_cases h0:ws=[]
  ·rw[h0,zp (show((([]:List Str).length:Nat):Int)=0 from rfl)]
   exact k .non none H (same_refl H) rfl h0 λl z=>nomatch z
  ·have hp:0<ws.length:=List.length_pos_iff.mpr h0
   rw[zk (by lia)];refine⟨⟨_,fU hq⟩,?_⟩;refine jC.listE (K:=K) (λσ=>∃a,σ=[a]) (λi v H'=>∃b z,ws[i]? =some z/\v=.ref b/\H' b=some (.tup [(Gr z).1,(Gr z).2])) (fU hq) ⟨_,rfl⟩ (by rw[za,zc];lia) ?_ ?_
   ·rintro Da i x hx σ H5 R ⟨_,rfl⟩ sm hD ⟨acc,hA⟩ kk
    rw[zE]at hx
    cases e:ws[i]? with
    |none=>rw[e]at hx;cases hx
    |some z=>
     rw[e]at hx;cases zt hx;walk_at "i";exact⟨z,rfl,hz z (zb e),λt H7 s7 hn ht=>kk _ _ H7 ⟨_,rfl⟩ s7 λH' s'=>⟨t,z,e,rfl,s' _ _ (λz=>by rw[z,hA]at hn;cases hn) ht⟩⟩
   ·intro Da H' acc hD sm hA aa hF
    obtain⟨rs,e1,e2,e3⟩:=abv (by rw[aa,za]) hF;rw[e1]at hA;have ac:rs.length=ws.length:=by have:=congrArg List.length e2;rwa [za,za]at this
    refine k (.ref Da) (some rs) H' sm ⟨Da,rfl,hA,e3,λr hr=>?_,by lia⟩ ⟨h0,e2⟩ λl z=>by cases z;exact hD
    have hm:r.2∈ws.map Gr:=by rw[<-e2];exact y3 hr
    obtain⟨z,ab,e⟩:=zC.mp hm;obtain⟨l1,l2⟩:=Iu z;have:=hz z ab;rw[<-e];exact⟨Wa (by lia),Wa (by lia)⟩
noncomputable def HW:List (Key×V):=[(Sum.inr "buy",V.int 7),(Sum.inr "sell",V.int 7),(Sum.inr "gift",V.int 7),(Sum.inr "give",V.int 5),(Sum.inr "split",V.int 6),(Sum.inr "part",V.int 7)]
structure Kd where
 wd:Str
 m:Nat
 isk:Ent->Bool
 lot:Bool
noncomputable def kinds:List Kd:=[⟨"buy",6,Bo,false⟩,⟨"sell",6,oJ,true⟩,⟨"gift",6,pZ,false⟩,⟨"give",4,oR,true⟩,⟨"split",5,mU,false⟩,⟨"part",6,pR,false⟩]
def lK:∀{q:Kd},q∈kinds->oF HW (Sum.inr q.wd)=some (.int ((q.m+1:Nat):Int))/\inV (V.str q.wd) [V.str (Str.ofString "sell"),V.str (Str.ofString "give")]=q.lot/\4<=q.m/\q.m<=6:=by
 intro q h;simp only[kinds,zh,zg,or_false]at h;rcases h with rfl|rfl|rfl|rfl|rfl|rfl<;>exact⟨by decide+kernel,by decide+kernel,by decide,by decide⟩
def Ri{wd:Str}{v:V}(h:oF HW (Sum.inr wd)=some v):∃q∈kinds,q.wd=wd:=by
 have key:∀(a:Str)(x:V)(l:List (Key×V)),oF ((Sum.inr a,x)::l) (Sum.inr wd)=some v->a=wd\/oF l (Sum.inr wd)=some v:=λa x l h=>by
  unfold oF at h⊢;by_cases e:a=wd
  ·exact .inl e
  ·rw[List.find?_cons_of_neg (by simpa using λz=>e z)]at h
   exact .inr h
 unfold HW at h;rcases key _ _ _ h with e|h
 ·exact⟨⟨"buy",6,Bo,false⟩,by simp[kinds],e⟩
 rcases key _ _ _ h with e|h
 ·exact⟨⟨"sell",6,oJ,true⟩,by simp[kinds],e⟩
 rcases key _ _ _ h with e|h
 ·exact⟨⟨"gift",6,pZ,false⟩,by simp[kinds],e⟩
 rcases key _ _ _ h with e|h
 ·exact⟨⟨"give",4,oR,true⟩,by simp[kinds],e⟩
 rcases key _ _ _ h with e|h
 ·exact⟨⟨"split",5,mU,false⟩,by simp[kinds],e⟩
 rcases key _ _ _ h with e|h
 ·exact⟨⟨"part",6,pR,false⟩,by simp[kinds],e⟩
 ·cases h
noncomputable def Ib(ws:List Str)(kd:Kd):Prop:=kd∈kinds/\ws[2]? =some kd.wd/\kd.m+1<=ws.length/\(kd.lot=false->ws.length=kd.m+1)
noncomputable def Dw(A:Adr):Sp:=λvs H Q E=>∃(q:Addr)(ws:List Str),vs=[.ref q]/\H q=some (.lst (ws.map V.str))/\(∀kd,Ib ws kd->Q (.str kd.wd) H)/\((∀kd,¬Ib ws kd)->E (.ref A.rJ) none H)
def Ea(T:Txt w K mg A D):ji P w K mg base (CX1 P w) 1 A.qJ D.qJ ["words"] (Dw A):=by
 refine T.sN.F.okX mH (by walk_at "v") (λ_ _ _ _ H vs Q E hr h=>?_)
 ·obtain⟨q,ws,rfl,hq,k,kE⟩:=h
  refine ⟨_,(fK (iB (PW.pt (nZ (fY (xX) (gw (gW (K:=K)) (by rfl) T.tS (by decide+kernel) (pav 0 fM)) fH (gk _)) (lY (fY (Ui (K:=K) (w:=w)) (gF (fV (K:=K)) (pvD 0) fH (λ_ _=>rfl)) (jh (v:=V.ref A.rZ) (by rfl) T.uD rfl) (by with_unfolding_all rfl))))) (fQ (ou mq rfl T.uF (by rfl) T.ul (fG fZ fM))) gm)
   (fK (gn (i:=1) mH.nd rfl orl (gF (fV (K:=K)) (pvD 0) fH (λ_ _=>rfl)))
   (fK (gn (i:=2) mH.nd rfl orl (fW Hv (gw (gW (K:=K)) (by rfl) T.tS (by decide+kernel) (pav 0 fM)) (VN (K:=K) (w:=w) (jh (v:=V.ref A.rZ) (by rfl) T.uD rfl) (pvD 1) (λ_ _=>rfl))))
   (fK (iB (PW.pt (nZ (fY (xX) (pvD 2) fH (gk _)) (lY (PW.pt (Be (fY (xu) (pvD 2) fH (gk _)) (wU (fY (Lf (K:=K)) (pvD 1) (jh (v:=V.ref A.rY) (by rfl) T.uB rfl) (by with_unfolding_all rfl)))))))) (fQ (ou mq rfl T.uF (by rfl) T.ul (fG fZ fM))) gm)
   (fQ (gj (pvD 1))))))),?_⟩
  simp only[start_eq];walk_at "n";refine⟨_,.inl (fU hq),?_⟩;rw[za];by_cases h3:ws.length<3
  ·rw[zp (by lia)]
   refine⟨sz,kE λkd ⟨hk,h2,h4,_⟩=>?_⟩;have:=(lK hk).2.2.1;lia
  rw[zk (by lia)];obtain⟨wd,hw⟩:∃wd,ws[2]? =some wd:=⟨_,zD (by lia)⟩;have ad:atI (ws.map V.str) 2=some (.str wd):=gR (j:=2) (by rw[zE,hw];rfl);refine⟨_,fU hq,_,ad,?_⟩;have gd:Jd K w A.rZ HW:=T.uE;refine⟨_,gd,Sum.inr wd,rfl,?_⟩
  cases hp:oF HW (Sum.inr wd)with
  |none=>
   rw[zp (show(none:Option V).isSome=false from rfl)];refine⟨sz,kE λkd ⟨hk,h2,_⟩=>?_⟩;rw[hw]at h2;have h5:=(lK hk).1;rw[<-zt h2,hp]at h5;cases h5
  |some v=>
   rw[zk (λz=>nomatch z)];obtain⟨kd,hk,rfl⟩:=Ri hp;obtain⟨k1,k2,k3,k4⟩:=lK hk;rw[hp]at k1;cases zt k1
   have ab:∀aa,Ib ws aa->kd.m+1<=ws.length/\(kd.lot=false->ws.length=kd.m+1):=λaa ⟨a1,a2,a3,a4⟩=>by
    rw[hw]at a2;have e:=zt a2;obtain⟨c1,c2,_⟩:=lK a1;rw[<-e,hp]at c1;have c1:((kd.m+1:Nat):Int)=((aa.m+1:Nat):Int):=by injection c1 with c1;injection c1
    rw[<-e,k2]at c2;rw[<-c2]at a4;have:kd.m=aa.m:=by lia
    rw[this];exact⟨a3,a4⟩
   walk_at "n";refine⟨_,fU hq,_,ad,?_⟩;walk_at "n";refine⟨_,.inl (fU hq),_,gd,Sum.inr kd.wd,rfl,_,hp,_,rfl,?_⟩;rw[za];walk_at "n";by_cases h0:(ws.length:Int) - ((kd.m+1:Nat):Int)<0
   ·rw[zp h0]
    refine⟨sz,kE λaa ac=>?_⟩;have:=(ab aa ac).1;lia
   rw[zk h0];by_cases h1:0<(ws.length:Int) - ((kd.m+1:Nat):Int)
   ·rw[zp h1]
    refine⟨_,.inr (T.uC H),rfl,rfl,?_⟩;rw[k2]
    cases hl:kd.lot with
    |false=>
     rw[zp rfl];refine⟨sz,kE λaa ac=>?_⟩;have:=(ab aa ac).2 hl;lia
    |true=>
     rw[zk (λz=>nomatch z)];exact k kd ⟨hk,hw,by lia,λz=>by rw[hl]at z;cases z⟩
   ·rw[zk h1]
    exact k kd ⟨hk,hw,by lia,λ_=>by lia⟩
def Tw{a b:Kd}(ha:a∈kinds)(hb:b∈kinds)(h:a.wd=b.wd):a=b:=by
 simp only[kinds,zh,zg,or_false]at ha hb;rcases ha with rfl|rfl|rfl|rfl|rfl|rfl<;>rcases hb with rfl|rfl|rfl|rfl|rfl|rfl<;>first|rfl|exact absurd h (by decide+kernel)
def FW{ws:List Str}{a b:Kd}(ha:Ib ws a)(hb:Ib ws b):a=b:=Tw ha.1 hb.1 (zt (ha.2.1.symm.trans hb.2.1))
def Cv{e:Ent}{q:List V}{u v:V}(z:oJ e=true\/oR e=true)(h:q++[u]=e.args u):q++[v]=e.args v:=by
 cases e with
 |sell d n w p r f o=>
  have h:q++[u]=[V.int d,.int n,.str w,.int p,.int r,.int f]++[u]:=h;rw[List.append_cancel_right h];rfl
 |give d n w p o=>
  have h:q++[u]=[V.int d,.int n,.str w,.int p]++[u]:=h;rw[List.append_cancel_right h];rfl
 |_=>rcases z with z|z<;>cases z
noncomputable def Am(A:Adr):Sp:=λvs H Q E=>∃(q:Addr)(kd:Kd)(as:List V)(nl:V)(o:Option Ws),vs=[.ref q]/\kd∈kinds/\H q=some (.lst (.str kd.wd::(as++if kd.lot then[nl]else[])))/\as.length=kd.m/\(∀v∈as,WV v)/\NW H nl o/\(kd.lot=false->nl=.non)/\
 (∀e:Ent,kd.isk e=true->as++(if kd.lot then[nl]else[])=e.args nl->o=wO e.lots->e.good->∀x B H',Same H B->Made A B H' x e->Q (.ref x) H')/\
 ((∀e:Ent,kd.isk e=true->as++(if kd.lot then[nl]else[])=e.args nl->o=wO e.lots->¬e.good)->∀H',Same H H'->E (.ref A.rJ) none H')
def xV(T:Txt w K mg A D):ji P w K mg base (CX1 P w) 6 A.qY D.qY ["told"] (Am A):=by
 refine T.tp.F.okX nT (by walk_at "v") (λ_ _ _ _ H vs Q E hr h=>?_)
 ·obtain⟨q,kd,as,nl,o,rfl,hk,hq,hl,hW,hv,ac,k,kE⟩:=h
  refine ⟨_,(fK (gn (i:=1) nT.nd rfl orl (gF (fV (K:=K)) (pvD 0) fH (λ_ _=>rfl)))
   (fK (iB (fY (jT) (pvD 1) fZ (gk _)) (fQ (gj (Cz T.vC (Gd (K:=K) T) (hr.mono (by decide)) (by rfl) T.uf (vZ T).choose_spec.1 (vZ T).choose_spec.2 gq (fG (gF (fV (K:=K)) (pvD 0) fH (λ_ _=>rfl)) (fG (gF (fV (K:=K)) (pvD 0) fH (λ_ _=>rfl)) (fG (gF (fV (K:=K)) (pvD 0) fH (λ_ _=>rfl)) (fG (gF (fV (K:=K)) (pvD 0) fH (λ_ _=>rfl)) (fG (gF (fV (K:=K)) (pvD 0) fH (λ_ _=>rfl)) (fG (gF (fV (K:=K)) (pvD 0) fH (λ_ _=>rfl)) fM))))))))) gm)
   (fK (iB (fY (jT) (pvD 1) fZ (gk _)) (fQ (gj (Cz T.vD (DR (K:=K) T) (hr.mono (by decide)) (by rfl) T.ug (pA T).choose_spec.1 (pA T).choose_spec.2 gq (fG (gF (fV (K:=K)) (pvD 0) fH (λ_ _=>rfl)) (fG (gF (fV (K:=K)) (pvD 0) fH (λ_ _=>rfl)) (fG (gF (fV (K:=K)) (pvD 0) fH (λ_ _=>rfl)) (fG (gF (fV (K:=K)) (pvD 0) fH (λ_ _=>rfl)) (fG (gF (fV (K:=K)) (pvD 0) fH (λ_ _=>rfl)) (fG (gF (fV (K:=K)) (pvD 0) fH (λ_ _=>rfl)) (fG (pcg (mY T) hr T.sY (oE T) (fG (gF (fV (K:=K)) (pvD 0) fH (λ_ _=>rfl)) fM)) fM)))))))))) gm)
   (fK (iB (fY (jT) (pvD 1) fZ (gk _)) (fQ (gj (Cz T.vE (DX (K:=K) T) (hr.mono (by decide)) (by rfl) T.uh (Gk T) .nil gq (fG (gF (fV (K:=K)) (pvD 0) fH (λ_ _=>rfl)) (fG (gF (fV (K:=K)) (pvD 0) fH (λ_ _=>rfl)) (fG (gF (fV (K:=K)) (pvD 0) fH (λ_ _=>rfl)) (fG (gF (fV (K:=K)) (pvD 0) fH (λ_ _=>rfl)) (fG (gF (fV (K:=K)) (pvD 0) fH (λ_ _=>rfl)) (fG (gF (fV (K:=K)) (pvD 0) fH (λ_ _=>rfl)) fM))))))))) gm)
   (fK (iB (fY (jT) (pvD 1) fZ (gk _)) (fQ (gj (Cz T.vF (Du (K:=K) T) (hr.mono (by decide)) (by rfl) T.ui (pD T).choose_spec.1 (pD T).choose_spec.2 gq (fG (gF (fV (K:=K)) (pvD 0) fH (λ_ _=>rfl)) (fG (gF (fV (K:=K)) (pvD 0) fH (λ_ _=>rfl)) (fG (gF (fV (K:=K)) (pvD 0) fH (λ_ _=>rfl)) (fG (gF (fV (K:=K)) (pvD 0) fH (λ_ _=>rfl)) (fG (pcg (mY T) hr T.sY (oE T) (fG (gF (fV (K:=K)) (pvD 0) fH (λ_ _=>rfl)) fM)) fM)))))))) gm)
   (fK (iB (fY (jT) (pvD 1) fZ (gk _)) (fQ (gj (Cz T.vG (CZ (K:=K) T) (hr.mono (by decide)) (by rfl) T.uj (Dt T) .nil gq (fG (gF (fV (K:=K)) (pvD 0) fH (λ_ _=>rfl)) (fG (gF (fV (K:=K)) (pvD 0) fH (λ_ _=>rfl)) (fG (gF (fV (K:=K)) (pvD 0) fH (λ_ _=>rfl)) (fG (gF (fV (K:=K)) (pvD 0) fH (λ_ _=>rfl)) (fG (gF (fV (K:=K)) (pvD 0) fH (λ_ _=>rfl)) fM)))))))) gm)
   (fQ (gj (Cz T.vB (Ao (K:=K) T) (hr.mono (by decide)) (by rfl) T.uk (Bv T) .nil gq (fG (gF (fV (K:=K)) (pvD 0) fH (λ_ _=>rfl)) (fG (gF (fV (K:=K)) (pvD 0) fH (λ_ _=>rfl)) (fG (gF (fV (K:=K)) (pvD 0) fH (λ_ _=>rfl)) (fG (gF (fV (K:=K)) (pvD 0) fH (λ_ _=>rfl)) (fG (gF (fV (K:=K)) (pvD 0) fH (λ_ _=>rfl)) (fG (gF (fV (K:=K)) (pvD 0) fH (λ_ _=>rfl)) fM))))))))))))))),?_⟩
  simp only[start_eq];simp only[kinds,zh,zg,or_false]at hk;rcases hk with rfl|rfl|rfl|rfl|rfl|rfl
  ·obtain⟨a0,a1,a2,a3,a4,a5,rfl⟩:=Yw hl
   have hq:H q=some (.lst [.str "buy",a0,a1,a2,a3,a4,a5]):=hq
   iterate 2 (walk_at "n";refine⟨_,fU hq,_,rfl,?_⟩)
   iterate 5 refine⟨_,fU hq,_,rfl,?_⟩
   intro x dx hx aa ab;exact⟨x,[a0,a1,a2,a3,a4,a5],nl,o,H,dx,rfl,rfl,hW,hv,ac,HF hx aa,λe e1 e2 e3 e4 H2 hM=>⟨rfl,k e e1 e2 e3 e4 x H H2 (same_refl H) hM⟩,λb H2 s2=>kE b H2 s2⟩
  ·obtain⟨a0,a1,a2,a3,a4,a5,rfl⟩:=Yw hl
   have hq:H q=some (.lst [.str "sell",a0,a1,a2,a3,a4,a5,nl]):=hq;walk_at "n";refine⟨_,fU hq,_,rfl,?_⟩;walk_at "n";rw[zk (by decide+kernel)];walk_at "n"
   iterate 7 refine⟨_,fU hq,_,rfl,?_⟩
   refine⟨nl,o,rfl,hv,λv1 H1 s1 ad _=>?_⟩;intro x dx hx aa ab;refine⟨x,[a0,a1,a2,a3,a4,a5],v1,o,H1,dx,rfl,rfl,hW,ad,(λz=>nomatch z),HF hx aa,λe e1 e2 e3 e4 H2 hM=>⟨rfl,k e e1 (Cv (.inl e1) e2) e3 e4 x H1 H2 s1 hM⟩,λb H2 s2=>kE (λe e1 e2 e3=>b e e1 (Cv (.inl e1) e2) e3) H2 (s1.trans s2)⟩
  ·obtain⟨a0,a1,a2,a3,a4,a5,rfl⟩:=Yw hl
   have hq:H q=some (.lst [.str "gift",a0,a1,a2,a3,a4,a5]):=hq;walk_at "n";refine⟨_,fU hq,_,rfl,?_⟩
   iterate 2 (walk_at "n";rw[zk (by decide+kernel)])
   walk_at "n"
   iterate 6 refine⟨_,fU hq,_,rfl,?_⟩
   intro x dx hx aa ab;exact⟨x,[a0,a1,a2,a3,a4,a5],nl,o,H,dx,rfl,rfl,hW,hv,ac,HF hx aa,λe e1 e2 e3 e4 H2 hM=>⟨rfl,k e e1 e2 e3 e4 x H H2 (same_refl H) hM⟩,λb H2 s2=>kE b H2 s2⟩
  ·obtain⟨a0,a1,a2,a3,rfl⟩:=aei hl
   have hq:H q=some (.lst [.str "give",a0,a1,a2,a3,nl]):=hq;walk_at "n";refine⟨_,fU hq,_,rfl,?_⟩
   iterate 3 (walk_at "n";rw[zk (by decide+kernel)])
   walk_at "n"
   iterate 5 refine⟨_,fU hq,_,rfl,?_⟩
   refine⟨nl,o,rfl,hv,λv1 H1 s1 ad _=>?_⟩;intro x dx hx aa ab;refine⟨x,[a0,a1,a2,a3],v1,o,H1,dx,rfl,rfl,hW,ad,(λz=>nomatch z),HF hx aa,λe e1 e2 e3 e4 H2 hM=>⟨rfl,k e e1 (Cv (.inr e1) e2) e3 e4 x H1 H2 s1 hM⟩,λb H2 s2=>kE (λe e1 e2 e3=>b e e1 (Cv (.inr e1) e2) e3) H2 (s1.trans s2)⟩
  ·obtain⟨a0,a1,a2,a3,a4,rfl⟩:=adS hl
   have hq:H q=some (.lst [.str "split",a0,a1,a2,a3,a4]):=hq;walk_at "n";refine⟨_,fU hq,_,rfl,?_⟩
   iterate 4 (walk_at "n";rw[zk (by decide+kernel)])
   walk_at "n"
   iterate 5 refine⟨_,fU hq,_,rfl,?_⟩
   intro x dx hx aa ab;exact⟨x,[a0,a1,a2,a3,a4],nl,o,H,dx,rfl,rfl,hW,hv,ac,HF hx aa,λe e1 e2 e3 e4 H2 hM=>⟨rfl,k e e1 e2 e3 e4 x H H2 (same_refl H) hM⟩,λb H2 s2=>kE b H2 s2⟩
  ·obtain⟨a0,a1,a2,a3,a4,a5,rfl⟩:=Yw hl
   have hq:H q=some (.lst [.str "part",a0,a1,a2,a3,a4,a5]):=hq;walk_at "n";refine⟨_,fU hq,_,rfl,?_⟩
   iterate 5 (walk_at "n";rw[zk (by decide+kernel)])
   try walk_at "i"
   iterate 6 refine⟨_,fU hq,_,rfl,?_⟩
   intro x dx hx aa ab;exact⟨x,[a0,a1,a2,a3,a4,a5],nl,o,H,dx,rfl,rfl,hW,hv,ac,HF hx aa,λe e1 e2 e3 e4 H2 hM=>⟨rfl,k e e1 e2 e3 e4 x H H2 (same_refl H) hM⟩,λb H2 s2=>kE b H2 s2⟩
noncomputable def l2(rs:Rs):List (Int×Int):=rs.map (·.2)
noncomputable def SmO:Option Rs->Option Rs->Prop
 |none,none=>True
 |some rs,some rs'=>l2 rs'=l2 rs
 |_,_=>False
def Th{β:Type}{f:Addr×Int×Int->β}(g:Int×Int->β)(z:∀r,f r=g r.2){rs q:Rs}(h:l2 q=l2 rs):q.map f=rs.map f:=by
 have e:∀l:Rs,l.map f=(l2 l).map g:=λl=>by
  unfold l2;rw[zP];exact zzq λr _=>z r
 rw[e,e,h]
def aaL{rs z:Rs}{p:Int}(h:l2 z=l2 rs)(hg:DQ rs p):DQ z p:=by
 refine⟨?_,λr hr=>?_,?_,?_⟩
 ·have:=congrArg List.length h
  unfold l2 at this;rw[za,za]at this;rw[this];exact hg.l
 ·have hm:r.2∈l2 rs:=by rw[<-h];exact y3 hr
  obtain⟨q,hq,e⟩:=zC.mp hm;rw[<-e];exact hg.b q hq
 ·rw[Th (λx=>x.1) (λ_=>rfl) h];exact hg.u
 ·rw[Th (λx=>x.2) (λ_=>rfl) h];exact hg.s
def QW{o o':Option Rs}{p:Int}(h:SmO o o')(q:GQ p o):GQ p o':=by
 cases o with
 |none=>cases o' with
  |none=>exact q
  |some _=>exact h.elim
 |some rs=>cases o' with
  |none=>exact h.elim
  |some rs'=>exact aaL h q
noncomputable def Ent.wl(o:Option Rs):Ent->Ent
 |.sell d n w p r f _=> .sell d n w p r f o
 |.give d n w p _=> .give d n w p o
 |e=>e
def Zy(e:Ent)(o:Option Rs)(q:V):(e.wl o).args q=e.args q:=by cases e<;>rfl
def PX{o:Option Rs}(h:SmO none o):o=none:=by
 cases o with
 |none=>rfl
 |some _=>exact h.elim
def ZF{e:Ent}{o:Option Rs}(h:SmO e.lots o):(e.wl o).lots=o:=by
 cases e with
 |sell=>rfl
 |give=>rfl
 |_=>exact(PX h).symm
def ZG{e:Ent}{o:Option Rs}(h:SmO e.lots o)(q:e.good):(e.wl o).good:=by
 cases e with
 |sell=>exact⟨q.1,q.2.1,q.2.2.1,q.2.2.2.1,QW h q.2.2.2.2⟩
 |give=>exact⟨q.1,q.2.1,QW h q.2.2⟩
 |_=>exact q
noncomputable def Ab(ws:List Str)(m:Nat):List V:=(ws.take 2++(ws.drop 3).take (m - 2)).map val
noncomputable def lW(ws:List Str)(e:Ent):Prop:=∃kd,Ib ws kd/\kd.isk e=true/\(∃nl,Ab ws kd.m++(if kd.lot then[nl]else[])=e.args nl)/\Rj (ws.drop (kd.m+1)) (wO e.lots)/\e.good
theorem Ii:∀{rs:Rs}{rw:Ws},rw.map (·.2)=(rs.map wR).map (·.2)->∃q:Rs,rw=q.map wR/\l2 q=l2 rs
 |[],[],_=>⟨[],rfl,rfl⟩
 |[],_::_,h=>by cases h
 |_::_,[],h=>by cases h
 |r::rs,(b,x,y)::rw,h=>by
  rw[zj,zj,zj]at h;injection h with h1 h2
  obtain⟨q,e1,z⟩:=Ii h2;injection h1 with h3 h4
  exact⟨(b,r.2)::q,by rw[zj,e1];show(b,x,y)::_=(b,V.int r.2.1,V.int r.2.2)::_;rw[h3,h4],by show r.2::l2 q=r.2::l2 rs;rw[z]⟩
def Qp{ws:List Str}{o:Option Ws}{q:Option Rs}(h:Rj ws o)(h1:Rj ws (wO q)):∃o2,o=wO o2/\SmO q o2:=by
 cases o with
 |none=>cases q with
  |none=>exact⟨none,rfl,True.intro⟩
  |some rs=>exact absurd h h1.1
 |some rw=>cases q with
  |none=>exact absurd h1 h.1
  |some rs=>
   obtain⟨z,e1,e2⟩:=Ii (h.2.trans h1.2.symm);exact⟨some z,congrArg some e1,e2⟩
def abj{q:Kd}(z:q∈kinds){e:Ent}{o:Option Rs}(h:q.isk e=true):q.isk (e.wl o)=true:=by
 simp only[kinds,zh,zg,or_false]at z;rcases z with rfl|rfl|rfl|rfl|rfl|rfl<;>(cases e<;>first|rfl|cases h)
def QM{q:Kd}(z:q∈kinds){e:Ent}(h:q.isk e=true)(hl:q.lot=false):e.lots=none:=by
 simp only[kinds,zh,zg,or_false]at z;rcases z with rfl|rfl|rfl|rfl|rfl|rfl<;>first|(cases hl;done)|(cases e<;>first|rfl|cases h)
def Em{q:Kd}(hk:q∈kinds){e:Ent}(h:q.isk e=true){z:List V}{u v:V}(ha:z++(if q.lot then[u]else[])=e.args u):z++(if q.lot then[v]else[])=e.args v:=by
 simp only[kinds,zh,zg,or_false]at hk;rcases hk with rfl|rfl|rfl|rfl|rfl|rfl
 ·cases e<;>first|exact ha|cases h
 ·exact Cv (.inl h) ha
 ·cases e<;>first|exact ha|cases h
 ·exact Cv (.inr h) ha
 ·cases e<;>first|exact ha|cases h
 ·cases e<;>first|exact ha|cases h
def acj(xs:List V){s c:Int}(h0:0<=s)(h1:s<=c)(h2:c<=xs.length):CK xs (some s) (some c)=(xs.drop s.toNat).take (c.toNat - s.toNat):=by
 unfold CK HT.sIx;have z:¬s<0:=by lia
 have q:¬c<0:=by lia
 simp only[z,q,if_false];rw[show min s.toNat xs.length=s.toNat by lia,show min c.toNat xs.length=c.toNat by lia]
def BK{α β:Type}{f:α->β}{l:List α}{i:Nat}{y:β}(h:(l.map f)[i]? =some y):∃x,l[i]? =some x/\y=f x:=by
 rw[zE]at h
 cases e:l[i]? with
 |none=>rw[e]at h;cases h
 |some x=>rw[e]at h;exact⟨x,rfl,(zt h).symm⟩
noncomputable def Ci(A:Adr):Sp:=λvs H Q E=>∃(q:Addr)(ws:List Str),vs=[.ref q]/\H q=some (.lst (ws.map V.str))/\ws.length<=300000/\(∀z∈ws,z.length<=1000000)/\
 (∀x e B H',lW ws e->Same H B->Made A B H' x e->Q (.ref x) H')/\((∀e,¬lW ws e)->∀H',Same H H'->E (.ref A.rJ) none H')
def Cq(T:Txt w K mg A D):ji P w K mg base (CX1 P w) 7 A.rf D.rf ["words"] (Ci A):=by
 refine T.tE.F.okX jF (by walk_at "v") (λ_ _ _ _ H vs Q E hr h=>?_)
 ·obtain⟨q,ws,rfl,hq,hl,hz,k,kE⟩:=h
  refine ⟨_,(fK (gn (i:=1) jF.nd rfl orl (iC (Ea (K:=K) T) (hr.mono (by decide)) (by rfl) T.sN.m T.sN.k (FN T) .nil gq (pav 0 fM)))
   (fK (gn (i:=2) jF.nd rfl orl (VN (K:=K) (w:=w) (jh (v:=V.ref A.rZ) (by rfl) T.uD rfl) (pvD 1) (λ_ _=>rfl)))
   (fK (gn (i:=3) jF.nd rfl orl (fW vW (iI (pav 1 fM)) (jA (cap:=[none]) (N':=["word"]) rfl (by walk_at "c") (lU (K:=K) (fW vW (gQ (iG (K:=K)) (pvD 0) iJ (gZ fH)) (gQ (iG (K:=K)) (pvD 0) (gZ fH) (gZ (pvD 2))))) (λ_ _ _ _=>(gA (i:=0) nd1 rfl orl orr)) (λ_ _ _ _=>jD) (λ_ _ _ _=>(pcg (mL T) hr T.tw (nR T) (pav 0 fM))))))
   (fK (iB (fY (acG (K:=K)) (pvD 1) (jh (v:=V.ref A.rY) (by rfl) T.uB rfl) (by with_unfolding_all rfl)) (fQ (gU (jV (K:=K) zY z9 ya mj (pvD 3) (fG (pcg (Cj T) hr T.tD (Dz T) (fG (gQ (iG (K:=K)) (pvD 0) (gZ (pvD 2)) iJ) fM)) fM)))) gm)
   (fQ (gj (iC (xV (K:=K) T) (hr.mono (by decide)) (by rfl) T.tp.m T.tp.k (Bt T) .nil gq (pav 3 fM)))))))),?_⟩
  have gd:Jd K w A.rZ HW:=T.uE;simp only[start_eq];walk_at "n";refine⟨q,ws,rfl,hq,λkd hK=>?_,λaw=>kE (λe ⟨kd,hk,_⟩=>aw kd hk) H (same_refl H)⟩;obtain⟨hk,ba,az,ak⟩:=id hK;obtain⟨k1,k2,k3,k4⟩:=lK hk;walk_at "n";refine⟨_,gd,Sum.inr kd.wd,rfl,_,k1,?_⟩;walk_at "n";refine⟨sz,λpk ay=>?_⟩;have s1:=fO (o:=.lst [V.str kd.wd]) ay;have h1:upd H pk (.lst [V.str kd.wd]) pk=some (.lst [V.str kd.wd]):=fL;generalize upd H pk (.lst [V.str kd.wd])=H1 at*;refine⟨_,fU (s1 _ _ hq),λpa ha=>?_⟩;rw[show(2:Int)=((2:Nat):Int)from rfl,kY,<-z8];have s2:=fO (o:=.lst ((ws.take 2).map V.str)) ha;have h2:upd H1 pa (.lst ((ws.take 2).map V.str)) pa=some (.lst ((ws.take 2).map V.str)):=fL;generalize upd H1 pa (.lst ((ws.take 2).map V.str))=H2 at*;refine⟨_,fU (s2 _ _ (s1 _ _ hq)),λpb hb=>?_⟩;rw[acj _ (by decide) (by lia) (by rw[za];lia),show(3:Int).toNat=3 from rfl,show((kd.m+1:Nat):Int).toNat - 3=kd.m - 2 by lia,<-yZ,<-z8];have s3:=fO (o:=.lst (((ws.drop 3).take (kd.m - 2)).map V.str)) hb;have h3:upd H2 pb (.lst (((ws.drop 3).take (kd.m - 2)).map V.str)) pb=some (.lst (((ws.drop 3).take (kd.m - 2)).map V.str)):=fL;generalize upd H2 pb (.lst (((ws.drop 3).take (kd.m - 2)).map V.str))=H3 at*;refine⟨_,s3 _ _ h2,_,h3,by rw[zc,za,za,zx,zx];lia,λpc hc=>?_⟩;rw[<-zo];obtain⟨us,ac⟩:∃us,us=ws.take 2++(ws.drop 3).take (kd.m - 2):=⟨_,rfl⟩;have au:us.length=kd.m:=by rw[ac,zm,zx,zx,z6];lia
  have am:∀z∈us,z.length<=1000000:=λz hm=>by
   rw[ac]at hm;rcases zG.mp hm with hm|hm
   ·exact hz z (z5 hm)
   ·exact hz z (yV (z5 hm))
  have ag:us.map val=Ab ws kd.m:=by rw[ac];rfl
  rw[<-ac];have s4:=fO (o:=.lst (us.map V.str)) hc;have h4:upd H3 pc (.lst (us.map V.str)) pc=some (.lst (us.map V.str)):=fL;generalize upd H3 pc (.lst (us.map V.str))=H4 at*;have S4:Same H H4:=((s1.trans s2).trans s3).trans s4;refine⟨⟨_,fU h4⟩,?_⟩;refine jC.listE (K:=K) (λσ=>∃a,σ=[a]) (λi v _=>(us.map val)[i]? =some v) (fU h4) ⟨_,rfl⟩ (by rw[za,zc];lia) ?_ ?_
  ·rintro Da i x hx σ H5 R ⟨_,rfl⟩ sm hD _ kk
   obtain⟨z,ap,rfl⟩:=BK hx;walk_at "i";exact⟨z,rfl,am z (zb ap),λH7 s7=>kk _ _ H7 ⟨_,rfl⟩ s7 λH' _=>by rw[zE,ap];rfl⟩
  ·intro Da H5 acc hD s5 hA ab hF
   have ai:acc=us.map val:=by
    refine List.ext_getElem? λi=>?_
    cases ei:acc[i]? with
    |none=>rw[yL (by rw[za]at ab⊢;rw[<-ab];exact List.getElem?_eq_none_iff.mp ei)]
    |some v=>exact(hF i v ei).symm
   rw[ai,ag]at hA
   have ao:∀v∈Ab ws kd.m,WV v:=λv hv=>by
    rw[<-ag]at hv;obtain⟨z,hm,rfl⟩:=zC.mp hv;exact Wa (am z hm)
   have an:(Ab ws kd.m).length=kd.m:=by rw[<-ag,za,au]
   walk_at "i";refine⟨_,(((s2.trans s3).trans s4).trans s5) _ _ h1,_,hA,by rw[zc,zy,yf];lia,λpt ht=>?_⟩;have s6:=fO (o:=.lst ([V.str kd.wd]++Ab ws kd.m)) ht;have h6:upd H5 pt (.lst ([V.str kd.wd]++Ab ws kd.m)) pt=some (.lst ([V.str kd.wd]++Ab ws kd.m)):=fL;have S5:Same H H5:=S4.trans s5;have ar:H pt=none:=S5.free ht;generalize upd H5 pt (.lst ([V.str kd.wd]++Ab ws kd.m))=H6 at*;have S6:Same H H6:=S5.trans s6;walk_at "n";refine⟨_,.inr (T.uC H6),rfl,rfl,?_⟩;rw[k2]
   cases aa:kd.lot with
   |false=>
    rw[zk (λz=>nomatch z)];have as:ws.drop (kd.m+1)=[]:=List.drop_eq_nil_of_le (by have:=ak aa;lia)
    try walk_at "i"
    refine⟨pt,kd,Ab ws kd.m,.non,none,rfl,hk,by rw[aa,h6];simp,an,ao,rfl,λ_=>rfl,λe e1 e2 e3 e4 x B H' sB hM=>k x e B H' ⟨kd,hK,e1,⟨_,e2⟩,?_,e4⟩ (S6.trans sB) hM,λb H' sB=>kE (λe ⟨ad,af,e1,⟨nl,e2⟩,e3,e4⟩=>?_) H' (S6.trans sB)⟩
    ·rw[QM hk e1 aa,as]
     rfl
    ·have ae:ad=kd:=FW af hK
     subst ae;have hn:=QM hk e1 aa;exact b e e1 (Em hk e1 e2) (by rw[hn];rfl) e4
   |true=>
    rw[zp rfl]
    try walk_at "i"
    refine⟨.inl ⟨rfl,_,fU h6⟩,_,fU (S6 _ _ hq),λpn av=>?_⟩;rw[oh,<-yZ];have s7:=fO (o:=.lst ((ws.drop (kd.m+1)).map V.str)) av;have h7:upd H6 pn (.lst ((ws.drop (kd.m+1)).map V.str)) pn=some (.lst ((ws.drop (kd.m+1)).map V.str)):=fL;generalize upd H6 pn (.lst ((ws.drop (kd.m+1)).map V.str))=H7 at*;refine⟨pn,ws.drop (kd.m+1),rfl,h7,by rw[z6];lia,λz hm=>hz z (yV hm),λv o H8 s8 aj al ax=>?_⟩;have h8:H8 pt=some (.lst ([V.str kd.wd]++Ab ws kd.m)):=s8 _ _ (s7 _ _ h6);refine⟨_,h8,by rw[zc,zm,zy,yf];lia,?_⟩;have S9:Same H (upd H8 pt (.lst ([V.str kd.wd]++Ab ws kd.m++[v]))):=((S6.trans s7).trans s8).upd ar
    have aq:NW (upd H8 pt (.lst ([V.str kd.wd]++Ab ws kd.m++[v]))) v o:=by
     cases o with
     |none=>exact aj
     |some rs=>
      obtain⟨l,rfl,a1,a2,a3⟩:=aj;refine⟨l,rfl,?_,λr hr=>?_,a3⟩
      ·rw [fX (λz=>by
        have:=ax l rfl;rw[z,s7 _ _ h6]at this;cases this)]
       exact a1
      ·have a4:=a2 r hr
       rw[fX (λz=>by rw[z,h8]at a4;cases a4)];exact a4
    try walk_at "i"
    refine⟨pt,kd,Ab ws kd.m,v,o,rfl,hk,by rw[aa,fL];rfl,an,ao,aq,(λz=>by rw[aa]at z;cases z),λe e1 e2 e3 e4 x B H' sB hM=>k x e B H' ⟨kd,hK,e1,⟨_,e2⟩,by rw[<-e3];exact al,e4⟩ (S9.trans sB) hM,λb H' sB=>kE (λe ⟨ad,af,e1,⟨nl,e2⟩,e3,e4⟩=>?_) H' (S9.trans sB)⟩;have ae:ad=kd:=FW af hK;subst ae;obtain⟨o2,ho,ah⟩:=Qp al e3;exact b (e.wl o2) (abj hk e1) (by rw[Zy];exact Em hk e1 e2) (by rw[ZF ah];exact ho) (ZG ah e4)
def nC(T:Txt w K mg A D){k:Nat}:Ry P w K mg base (k+1) A.rh D.rh ["self", "row"] (Jf A.rM "row"):=by
 refine T.tF.okH BJ (by walk_at "v") (λ_ _ _ _ H vs Q E h=>?_)
 ·obtain⟨e,n,rfl,hn,hH,k⟩:=h
  refine ⟨_,(fK (gU (Yb (K:=K) T.uJ (by rfl) T.uo (pav 0 (fG (Nb (pvD 1)) fM))))
   (fQ (WQ (K:=K) (pvD 0) (pvD 1) rfl))),?_⟩
  simp only[start_eq];walk_at "n";refine⟨hn,λz _=>⟨_,hH,_,T.uG,?_⟩⟩;walk_at "i";exact⟨_,hH,_,T.uG,T.uI,λd hd q=>k d hd q⟩
def oG(T:Txt w K mg A D):ji P w K mg base CX0 1 A.rh D.rh ["self", "row"] (Jf A.rM "row"):=(nC T).ok
abbrev jZ(z:Str):List Str:=Txt.split z (Str.ofString " ")
structure abZ(z:Str):Prop where
 l:z.length<=1000000
 n:(jZ z).length<=300000
 w:∀u∈jZ z,u.length<=1000000
noncomputable def Ff(A:Adr):Sp:=λvs H Q E=>∃(z:Str)(n:Int),vs=[.str z,.int n]/\n.natAbs<2^300/\abZ z/\
 (∀x e B H',lW (jZ z) e->Same H B->Made A B H' x e->Q (.ref x) H')/\((∀e,¬lW (jZ z) e)->∀d H',Same H H'->H d=none->H' d=some (.xd [("row",.int n)])->E (.ref A.rM) (some d) H')
def Fd(T:Txt w K mg A D):ji P w K mg base (CX1 P w) 8 A.ri D.ri ["row", "place"] (Ff A):=by
 refine T.tG.F.okX Gp (by walk_at "v") (λ_ _ _ _ H vs Q E hr h=>?_)
 ·obtain⟨z,n,rfl,hn,hz,k,kE⟩:=h
  refine⟨_,(fQ (aaf (fI:=0) Rf (Xr (Cq (K:=K) T) (hr.mono (by decide)) (by rfl) T.tE.m T.tE.k (DN T) .nil (fG (jV (K:=K) zT yF yG Bx (pvD 0) (fG fZ fM)) fM)) T.uF (by rfl) T.ul rfl rfl T.uG (nC (K:=K) (k:=0) T) (hr.mono (by decide)) (by rfl) T.up (lH T) (λea=>(pav 1 fM)))),?_⟩;simp only[start_eq];walk_at "i";refine⟨rfl,by decide+kernel,by have:=hz.l;lia,λp hp=>⟨p,jZ z,rfl,fL,hz.n,hz.w,λx e B H' ht sB hM=>k x e B H' ht ((fO hp).trans sB) hM,λaa H1 s1=>⟨rfl,rfl,λea q=>⟨hn,fL,λd hd=>?_⟩⟩⟩⟩;have S:=((fO (o:=.lst ((jZ z).map V.str)) hp).trans s1).trans (fO (o:=Rr A.rJ ea) q);exact kE aa d _ (S.trans (fO hd)) (S.free hd) fL
abbrev EL:=List (Addr×Ent)
noncomputable def jX(es:EL):List V:=es.map λr=>V.ref r.1
def pC(es:EL):(jX es).length=es.length:=by unfold jX;rw[za]
noncomputable def Kept(A:Adr)(l:Addr)(H:Hp)(x:Addr)(e:Ent):Prop:=∃dx nv,H x=some (.ins (e.cls A) dx (e.fs nv))/\NL H nv e.lots/\∀q,nv=.ref q->q≠l
def Kept.isE{l:Addr}{H:Hp}{x:Addr}{e:Ent}:Kept A l H x e->IsE A H x e:=fun⟨dx,q,h,n,_⟩=>⟨dx,q,h,n⟩
theorem Kept.same{l:Addr}{H H':Hp}{x:Addr}{e:Ent}(s:Same H H'):Kept A l H x e->Kept A l H' x e:=fun⟨dx,z,h,n,q⟩=>⟨dx,z,s _ _ h,n.same s,q⟩
def Made.kept{B H:Hp}{x:Addr}{e:Ent}{l:Addr}{ys:List V}(h:Made A B H x e)(hB:B l=some (.lst ys)):Kept A l H x e:=by
 obtain⟨dx,nv,h1,h2,h3⟩:=h;exact⟨dx,nv,h1.h,h2,λq e z=>by rw[<-z,h3 q e]at hB;cases hB⟩
theorem Kept.put{H:Hp}{x:Addr}{e:Ent}{l:Addr}{xs:List V}{u:HO}(h:Kept A l H x e)(hl:H l=some (.lst xs)):Kept A l (upd H l u) x e:=by
 obtain⟨dx,nv,hx,h2,h3⟩:=h;refine⟨dx,nv,?_,?_,h3⟩
 ·rw[fX (λz=>by rw[z,hl]at hx;cases hx)]
  exact hx
 ·generalize e.lots=o at h2
  cases o with
  |none=>exact h2
  |some rs=>
   obtain⟨q,rfl,h4,h5⟩:=h2;refine⟨q,rfl,?_,h5.put hl⟩;rw[fX (h3 q rfl)];exact h4
def Kept.putD{H:Hp}{x:Addr}{e:Ent}{l d:Addr}{kvs:List (Key×V)}{u:HO}(h:Kept A l H x e)(hd:H d=some (.dK kvs)):Kept A l (upd H d u) x e:=by
 obtain⟨dx,nv,hx,h2,h3⟩:=h;refine⟨dx,nv,?_,?_,h3⟩
 ·rw[fX (λz=>by rw[z,hd]at hx;cases hx)]
  exact hx
 ·generalize e.lots=o at h2
  cases o with
  |none=>exact h2
  |some rs=>
   obtain⟨q,rfl,h4,h5⟩:=h2;refine⟨q,rfl,?_,λr hr=>?_⟩
   ·rw[fX (λz=>by rw[z,hd]at h4;cases h4)]
    exact h4
   ·have h6:=h5 r hr
    rw[fX (λz=>by rw[z,hd]at h6;cases h6)];exact h6
def Bq:(Str.ofString "\n").length=1:=by decide+kernel
abbrev JX(rows:List Str)(es:List Ent):Prop:=Paired (λz e=>lW (jZ z) e) rows es
noncomputable def Ln(rows:List Str)(last:Str)(i:Nat)(ns:List Int):Prop:=(∃z,rows[i]? =some z/\((∀e,¬lW (jZ z) e)\/∃e,lW (jZ z) e/\e.num∈ns))\/(i=rows.length/\last≠Str.ofString "")
structure Lr(A:Adr)(H H2:Hp)(rows:List Str)(pr pe sd:Addr)(i:Nat)(es:EL)(kvs:List (Key×V)):Prop where
 s:Same H H2
 r:H2 pr=some (.lst (rows.map V.str))
 e:H2 pe=some (.lst (jX es))
 kp:∀r∈es,Kept A pe H2 r.1 r.2
 al:JX (rows.take i) (es.map (·.2))
 u:((es.map (·.2)).map Ent.num).Nodup
 d:H2 sd=some (.dK kvs)
 dl:kvs.length<=i
 dn:∀j:Int,(oF kvs (Sum.inl j)).isSome=true↔j∈(es.map (·.2)).map Ent.num
theorem Lr.same{H H2 H3:Hp}{q:List Str}{pr pe z:Addr}{i:Nat}{es:EL}{kvs:List (Key×V)}(h:Lr A H H2 q pr pe z i es kvs)(s:Same H2 H3):Lr A H H3 q pr pe z i es kvs:=
 ⟨h.s.trans s,s _ _ h.r,s _ _ h.e,λr hr=>(h.kp r hr).same s,h.al,h.u,s _ _ h.d,h.dl,h.dn⟩
noncomputable def Fw(A:Adr):Sp:=λvs H Q E=>∃(z:Str)(rows:List Str)(last:Str),vs=[.str z]/\z.length<=1000000/\Txt.split z (Str.ofString "\n")=rows++[last]/\rows.length<=300000/\(∀r∈rows,abZ r)/\
 (∀p (es:EL) H',Same H H'->H p=none->H' p=some (.lst (jX es))->(∀r∈es,Kept A p H' r.1 r.2)->JX rows (es.map (·.2))->((es.map (·.2)).map Ent.num).Nodup->last=Str.ofString "" ->Q (.ref p) H')/\
 (∀(i:Nat)(es:List Ent) d H',Same H H'->H d=none->H' d=some (.xd [("row",.int ((i+1:Nat):Int))])->JX (rows.take i) es->(es.map Ent.num).Nodup->Ln rows last i (es.map Ent.num)->E (.ref A.rM) (some d) H')
def Gq(T:Txt w K mg A D):ji P w K mg base (CX1 P w) 9 A.rj D.rj ["text"] (Fw A):=by
 refine T.tH.F.okX iH (by walk_at "v") (λ_ _ _ _ H vs Q E hr h=>?_)
 ·obtain⟨z,q,aa,rfl,hz,an,hl,hR,k,kE⟩:=h
  refine ⟨_,(fK (gn (i:=1) iH.nd rfl orl (jV (K:=K) zT yF yG Bx (pvD 0) (fG fZ fM)))
   (fK (gn (i:=2) iH.nd rfl orl (Vh (K:=K) zY PySem.F.slot_list_pop PySem.F.type_list_pop Zc (pvD 1)))
   (fK (gn (i:=3) iH.nd rfl orl (iI fM))
   (fK (gn (i:=4) iH.nd rfl orl Eh)
   (fK (wj PassesOwn.leaving rfl (Yr (K:=K) (by rfl) T.tZ (pav 1 fM)) (wG (K:=K) (n:=2) rfl (gO (gA (i:=5) iH.nd rfl orl) (gO (gA (i:=6) iH.nd rfl orl) nP)))
    (fK (gn (i:=7) iH.nd rfl orl (iC (Fd (K:=K) T) (hr.mono (by decide)) (by rfl) T.tG.m T.tG.k (GP T) .nil gq (pav 6 (pav 5 fM))))
    (fK (iB (fY (FP (Bg hr)) (fv K 7) (pvD 4) (by with_unfolding_all rfl)) (fQ (MN Hq rfl T.uG (oG (K:=K) T) (hr.mono (by decide)) (by rfl) T.up (lH T) (pav 5 fM))) gm)
    (fK (JV (Bg hr) (pvD 4) (fv K 7) Gz rfl)
    (fQ (gU (jV (K:=K) zY z9 ya mj (pvD 3) (pav 7 fM))))))))
   (fK (iB (fY (Hh) (pvD 2) fZ (gk _)) (fQ (MN Hq rfl T.uG (oG (K:=K) T) (hr.mono (by decide)) (by rfl) T.up (lH T) (fG (fW iz (gw (gW (K:=K)) (by rfl) T.tS (by decide+kernel) (pav 1 fM)) fH) fM))) gm)
   (fQ (gj (pvD 3))))))))),?_⟩
  simp only[start_eq];walk_at "n";refine⟨rfl,Bq,hz,λpr ag=>?_⟩;rw[an,zo];have s1:=fO (o:=.lst (q.map V.str++[aa].map V.str)) ag;have k1:upd H pr (.lst (q.map V.str++[aa].map V.str)) pr=some (.lst (q.map V.str++[aa].map V.str)):=fL;generalize upd H pr (.lst (q.map V.str++[aa].map V.str))=H1 at*;walk_at "n";refine⟨.inl ⟨rfl,_,fU k1⟩,pr,_,_,rfl,rfl,k1,by rw[zm,zj,yo,zy,yf,Nat.zero_add,Nat.add_sub_cancel,yn (ze _),Nat.sub_self];rfl,?_⟩;rw[zj,yo,List.dropLast_concat];have s2:Same H (upd H1 pr (.lst (q.map V.str))):=s1.upd ag;have k2:upd H1 pr (.lst (q.map V.str)) pr=some (.lst (q.map V.str)):=fL;generalize upd H1 pr (.lst (q.map V.str))=H2 at*;walk_at "n";refine⟨zQ _,λpe ac=>?_⟩;have s3:=fO (o:=.lst []) ac;have k3:upd H2 pe (.lst []) pe=some (.lst []):=fL;have ae:H pe=none:=s2.free ac;have aq:pe≠pr:=λz=>by rw[z,k2]at ac;cases ac
  generalize upd H2 pe (.lst [])=H3 at*;walk_at "n";intro sd ab;have s4:=fO (o:=.dK []) ab;have k4:upd H3 sd (.dK []) sd=some (.dK []):=fL;have ah:H sd=none:=(s2.trans s3).free ab;have hsp':sd≠pr:=λz=>by rw[z,s3 _ _ k2]at ab;cases ab
  have af:sd≠pe:=λz=>by rw[z,k3]at ab;cases ab
  generalize upd H3 sd (.dK [])=H4 at*;have S4:Same H H4:=(s2.trans s3).trans s4
  try dsimp only
  rw[ap_seq,ap_for];walk_at "i";refine⟨⟨_,fU (s4 _ _ (s3 _ _ k2))⟩,?_⟩
  refine Dr.enum1 (K:=K) (a:=pr) (xs:=q.map V.str) (λi σ H5=>∃(v5 v6 v7:Option V)(es:EL)(kvs:List (Key×V)),σ=[some (.str z),some (.ref pr),some (.str aa),some (.ref pe),some (.ref sd),v5,v6,v7]/\Lr A H H5 q pr pe sd i es kvs)
   ⟨_,_,_,[],[],rfl,S4,s4 _ _ (s3 _ _ k2),s4 _ _ k3,(λr hr=>nomatch hr),.nil,.nil,k4,ze _,λ_=>⟨(λh=>nomatch h),(λh=>nomatch h)⟩⟩ (λi σ H5 _ ⟨_,_,_,_,_,_,L⟩=>fU L.r) ?_ ?_
  ·rintro i y σ H5 p hi ⟨v5,v6,v7,es,kvs,rfl,L⟩ hp
   obtain⟨t,ht,rfl⟩:=BK hi;have au:i<q.length:=(zv.mp ht).1;have L:=L.same (fO (o:=.tup [.int ((i+1:Nat):Int),.str t]) hp);have kp:upd H5 p (.tup [.int ((i+1:Nat):Int),.str t]) p=some (.tup [.int ((i+1:Nat):Int),.str t]):=fL;walk_at "i";refine⟨_,iD kp,rfl,_,_,rfl,_,_,rfl,rfl,?_⟩;generalize upd H5 p (.tup [.int ((i+1:Nat):Int),.str t])=H6 at*;have ai:((i+1:Nat):Int).natAbs<2^300:=zW (show((i+1:Nat):Int).natAbs<=1000000 by lia) (by decide);walk_at "n";refine⟨t,_,rfl,ai,hR t (zb ht),λx e B H7 hT sB hM=>?_,λao d H7 s7 ak hd=>kE i (es.map (·.2)) d H7 (L.s.trans s7) (L.s.free ak) hd L.al L.u (.inl ⟨t,ht,.inl ao⟩)⟩;have s7:Same H6 H7:=sB.trans hM.choose_spec.choose_spec.1.s;have hK:=hM.kept (sB _ _ L.e);have L:=L.same s7;have hC:=abJ T e;obtain⟨dx,nv,hx,as,av⟩:=id hK;walk_at "n";refine⟨_,dx,_,hx,hC.c,hC.n,_,Fj e nv,?_⟩;refine⟨_,Dc (k:=Sum.inl e.num) L.d,?_⟩;by_cases ad:(oF kvs (Sum.inl e.num)).isSome=true
   ·rw[zp ad]
    exact⟨ai,λd hd=>kE i (es.map (·.2)) d _ (L.s.trans (fO hd)) (L.s.free hd) fL L.al L.u (.inl ⟨t,ht,.inr ⟨e,hT,(L.dn _).mp ad⟩⟩)⟩
   rw[zk ad];have ap:e.num∉(es.map (·.2)).map Ent.num:=λh=>ad ((L.dn _).mpr h);walk_at "n";refine⟨_,dx,_,hx,hC.c,hC.n,_,Fj e nv,?_⟩;have am:∀r∈es,Kept A pe (upd H7 sd (.dK (putK kvs (Sum.inl e.num) (.bl true)))) r.1 r.2:=λr hr=>(L.kp r hr).putD L.d;have al:=hK.putD (u:=.dK (putK kvs (Sum.inl e.num) (.bl true))) L.d
   have ar:es.length=i:=by
    have:=zzr L.al;rw[zx,za]at this;lia
   have aw:=L.dl;have k8:upd H7 sd (.dK (putK kvs (Sum.inl e.num) (.bl true))) pe=some (.lst (jX es)):=by rw[fX af.symm];exact L.e
   refine⟨_,Gn (k:=Sum.inl e.num) L.d (by rw[zc];lia),?_⟩
   try walk_at "i"
   refine⟨.inl ⟨rfl,_,fU k8⟩,_,k8,by rw[pC,zc];lia,es++[(x,e)],putK kvs (Sum.inl e.num) (.bl true),?_⟩;refine⟨(L.s.upd ah).upd ae,?_,?_,?_,?_,?_,?_,?_,?_⟩
   ·rw[fX aq.symm,fX hsp'.symm];exact L.r
   ·rw[fL]
    unfold jX;rw[zo];rfl
   ·intro r hr
    rcases zG.mp hr with hr|hr
    ·exact(am r hr).put k8
    ·cases zJ.mp hr
     exact al.put k8
   ·rw[yq,ht,zo]
    exact yym L.al hT
   ·rw[zo,zo]
    exact zzh.mpr ⟨L.u,by simp,λa ha b aj z=>by
     rw[zj,yo,zj,yo,zJ]at aj;exact ap (by rw[<-aj,<-z];exact ha)⟩
   ·rw[fX af]
    exact fL
   ·have:=Ek kvs (Sum.inl e.num:Key) (V.bl true)
    lia
   ·intro j
    rw[zo,zo,zG,iW,<-L.dn j];by_cases e1:e.num=j
    ·subst e1
     simp
    ·rw[zk (λz=>e1 (yyl z).symm)]
     exact⟨.inl,λh=>h.elim id λh=>absurd (zJ.mp h).symm e1⟩
  ·rintro σ H5 ⟨v5,v6,v7,es,kvs,rfl,L⟩
   rw[za]at L;have L':=L.al;rw[zX (ze _)]at L';walk_at "n";by_cases h0:aa=Str.ofString ""
   ·rw[zk (λc=>c h0)]
    try walk_at "i"
    exact k pe es H5 L.s ae L.e L.kp L' L.u h0
   ·rw[zp h0]
    refine⟨_,.inl (fU L.r),?_⟩;rw[za];refine⟨zW (show((q.length:Int)+1).natAbs<=1000000 by lia) (by decide),λd hd=>?_⟩;exact kE q.length (es.map (·.2)) d _ (L.s.trans (fO hd)) (L.s.free hd) fL L.al L.u (.inr ⟨rfl,h0⟩)
local macro_rules | `(tactic| walk_at "l") => `(tactic| (rw [ap_seq]; walk_at "i"))
def at4{a b c d i:Int}{lo hi:Int}(z:0<=i)(h1:i<4)(ha:Rg lo hi a)(hb:Rg lo hi b)(q:Rg lo hi c)(hd:Rg lo hi d):∃v,atI [V.int a,V.int b,V.int c,V.int d] i=some (.int v)/\Rg lo hi v:=by
 have h:i=0\/i=1\/i=2\/i=3:=by lia
 rcases h with h|h|h|h<;>rw[h]
 ·exact⟨a,rfl,ha⟩
 ·exact⟨b,rfl,hb⟩
 ·exact⟨c,rfl,q⟩
 ·exact⟨d,rfl,hd⟩
def at3{a b c i:Int}{lo hi:Int}(z:0<=i)(h1:i<3)(ha:Rg lo hi a)(hb:Rg lo hi b)(q:Rg lo hi c):∃v,atI [V.int a,V.int b,V.int c] i=some (.int v)/\Rg lo hi v:=by
 have h:i=0\/i=1\/i=2:=by lia
 rcases h with h|h|h<;>rw[h]
 ·exact⟨a,rfl,ha⟩
 ·exact⟨b,rfl,hb⟩
 ·exact⟨c,rfl,q⟩
def vX{lo hi x m:Int}(hm:0<m)(hl:lo<=0)(q:m - 1<=hi):Rg lo hi (x%m):=⟨by have:=zI x (show m≠0 by lia);lia,by have:=zA x hm;lia⟩
def Ux{ws:List Str}{i:Int}(z:0<=i)(h1:i<ws.length):∃w,atI (ws.map V.str) i=some (.str w)/\ws[i.toNat]? =some w:=by
 have q:i.toNat<ws.length:=by lia
 refine⟨ws[i.toNat],?_,zD q⟩;have e:((i.toNat:Nat):Int)=i:=by lia
 have h:=gR (xs:=ws.map V.str) (j:=i.toNat) (v:=.str ws[i.toNat]) (by rw[zE,zD q];rfl)
 rwa [e]at h
def aaQ{ws:List Str}(hu:ws.Nodup){i j:Nat}{u v:Str}(hi:ws[i]? =some u)(q:ws[j]? =some v)(h:i≠j):u≠v:=λe=>by
 subst e;have h1:=(zv.mp hi);have h2:=(zv.mp q);exact h ((List.getElem_inj (xs:=ws) hu (h₀:=h1.1) (h₁:=h2.1)).mp (h1.2.trans h2.2.symm))
def e9:(10:Int)^Int.toNat 9=1000000000:=by decide
def e6:(10:Int)^Int.toNat 6=1000000:=by decide
def abA{r f:Int}(z:Rg 0 1000000000 r)(q:Rg 0 1000000000 f):Rg 0 1000000000000000000 (r*f):=by
 refine⟨Int.mul_nonneg z.1 q.1,?_⟩;have:=Int.mul_le_mul z.2 q.2 q.1 (by decide);lia
def Xz{a b L:Int}(a0:0<=a)(a1:a<L)(q:0<=b)(z:b<L - 1):(a+1+b)%L≠a:=by
 by_cases h:a+1+b<L
 ·rw[Int.emod_eq_of_lt (by lia) h];lia
 ·have e:(a+1+b)%L=(a+1+b - L)%L:=by
   have:=Int.add_emod_right (a+1+b - L) L;rw[Int.sub_add_cancel]at this;exact this
  rw[e,Int.emod_eq_of_lt (by lia) (by lia)];lia
def adD{J:It}{cap:List (Option Nat)}{g:TG}{te:TE}{σ:L2.St}{H:Hp}{Q:VK}(n:Nat)(Xs:Nat->V->Prop)(Sσ:L2.St->Prop)(F:Nat->V->Hp->Prop)(h0:Sσ (pM σ cap))(hz:n<=sizeLine)
  (ai:∀i q,i<n->Same H q->J.go i q/\∀y H',J.yld i q y H'->H'=q/\Xs i y) (aj:∀q,Same H q->J.stop n q)
  (hs:∀D i x,i<n->Xs i x->∀(σ:L2.St)(q:Hp)(R:L2.St->VK),Sσ σ->Same H q->H D=none->(∃acc,q D=some (.lst acc))->(∀v σ4 H6,Sσ σ4->Same q H6->(∀H',But D H6 H'->F i v H')->R σ4 v H6)->g x σ q λσ4 H4=>te σ4 H4 (R σ4))
  (k:∀D H' acc,H D=none->Same H H'->H' D=some (.lst acc)->acc.length=n->(∀(i:Nat) v,acc[i]? =some v->F i v H')->Q (.ref D) H'):jC cap J g Eb te σ H Q:=by
 intro D hD;refine⟨λi m acc σ H2=>m=n - i/\i<=n/\Sσ σ/\Same H H2/\acc.length=i/\∀(j:Nat) v,acc[j]? =some v->∀H',But D H2 H'->F j v H',⟨n,rfl,zQ _,h0,fO hD,rfl,λj v e=>by simp at e⟩,?_⟩;rintro i m acc σ1 H2 ⟨rfl,hi,hσ,sm,ac,hF⟩ hA;by_cases aa:i<n
 ·obtain⟨g1,g2⟩:=ai i H2 aa sm
  refine .inr ⟨g1,λy H3 hy=>?_⟩;obtain⟨e3,hx⟩:=g2 y H3 hy;subst e3;simp only[ap_noIf,if_true];refine hs D i _ aa hx σ1 H3 _ hσ sm hD ⟨_,hA⟩ λv σ4 H6 ah s6 ag=>?_;have ad:=s6 _ _ hA;refine⟨acc,ad,by lia,n - (i+1),by lia,rfl,aa,ah,(sm.trans s6).upd hD,by rw[zm,ac];rfl,λj u hj H' hb=>?_⟩;have ab:But D H6 H':=λb o z e=>hb b o z ((fX z).trans e);by_cases af:j<acc.length
  ·rw[zZ af]at hj
   exact hF j u hj H' λb o z e=>ab b o z (s6 _ _ e)
  ·rw[yn (by lia)]at hj
   have ae:j - acc.length=0:=by
    have:=(zv.mp hj).1;simp at this;lia
   rw[ae]at hj;cases hj;obtain rfl:j=i:=by lia
   exact ag H' ab
 ·obtain rfl:i=n:=by lia
  exact .inl ⟨aj H2 sm,k D H2 acc hD sm hA ac λj v e=>hF j v e H2 λb o _ e=>e⟩
def ach{lo:Int}{cap:List (Option Nat)}{g:TG}{te:TE}{σ:L2.St}{H:Hp}{Q:VK}{n:Nat}(Sσ:L2.St->Prop)(F:Nat->V->Hp->Prop)(h0:Sσ (pM σ cap))(hz:n<=sizeLine)
  (hs:∀D i,i<n->∀(σ:L2.St)(q:Hp)(R:L2.St->VK),Sσ σ->Same H q->H D=none->(∃acc,q D=some (.lst acc))->(∀v z H6,Sσ z->Same q H6->(∀H',But D H6 H'->F i v H')->R z v H6)->g (.int (lo+i)) σ q λz H4=>te z H4 (R z))
  (k:∀D H' acc,H D=none->Same H H'->H' D=some (.lst acc)->acc.length=n->(∀(i:Nat) v,acc[i]? =some v->F i v H')->Q (.ref D) H'):jC cap (Itr lo n) g Eb te σ H Q:=
 adD n (λi x=>x=.int (lo+i)) Sσ F h0 hz (λi q hi _=>⟨hi,λy H' hy=>⟨hy.1,hy.2⟩⟩) (λ_ _=>ze n) (λD i x hi hx=>by subst hx;exact hs D i hi) k
def vU{t u:TS}{D:Ends}{σ:L2.St}{H:Hp}(P:L2.St->Hp->Prop)(h1:∀q H',P q H'->u D q H')(h2:∀N:L2.St->Hp->Prop,(∀q H',P q H'->N q H')->t {D with nx:=N} σ H):aaX t u D σ H:=h2 _ h1
noncomputable def Wq(H:Hp)(Q:VK)(ns:List Int):Prop:=∀p H',Same H H'->H p=none->H' p=some (.lst (ns.map V.int))->Q (.ref p) H'
noncomputable def Ent.oth:Ent->Str
 |.part _ _ _ u _ _=>u
 |e=>e.ware
noncomputable def toI:V->Int
 |.int i=>i
 |_=>0
theorem QK{α:Type}{f:α->α}:∀{l:List α},(∀x∈l,f x=x)->l.map f=l
 |[],_=>rfl
 |x::l,h=>by rw[zj,h x (.head _),QK λy q=>h y (.tail _ q)]
noncomputable def Ent.rest:Ent->List V
 |.buy _ _ _ p r f=>[.int p,.int r,.int f]
 |.sell _ _ _ p r f _=>[.int p,.int r,.int f]
 |.gift _ _ _ p c s=>[.int p,.int c,.int s]
 |.give _ _ _ p _=>[.int p]
 |.split _ _ _ m f=>[.int m,.int f]
 |.part _ _ _ u s t=>[.str u,.int s,.int t]
noncomputable def WN(r:Addr×Int×Int):Str:=jG r.2.1++Str.ofString ":" ++jG r.2.2
noncomputable def nwO:Option Rs->List Str
 |none=>[]
 |some rs=>rs.map WN
noncomputable def Ent.ws(e:Ent):List V:=[.int e.day,.int e.num,.str e.word,.str e.ware]++e.rest++(nwO e.lots).map V.str
noncomputable def sV:V->Str
 |.int i=>jG i
 |.str z=>z
 |_=>Str.empty
noncomputable def RT(ws:List V):Str:=Txt.join (Str.ofString " ") (ws.map sV)++Str.ofString "\n"
noncomputable def wg(os:List Ent):Str:=os.foldl (λt e=>t++RT e.ws) (Str.ofString "")
def Lx(a b c:Str):a++b++c=a++(b++c):=by
 show Str.mk (a.cps++b.cps++c.cps)=Str.mk (a.cps++(b.cps++c.cps));rw[zzu]
def Oe:(Str.ofString "").cps= #[]:=by decide+kernel
def aaN(x:Str):Str.ofString "" ++x=x:=by
 show Str.mk ((Str.ofString "").cps++x.cps)=x;rw[Oe,zz2]
noncomputable def Ds(v:V):Prop:=(∃i:Int,v=.int i/\i.natAbs<2^300)\/∃z:Str,v=.str z/\z.length<=1000
def aaZ{v:V}(h:Ds v):(sV v).length<=1000:=by
 rcases h with⟨i,rfl,hi⟩|⟨z,rfl,q⟩
 ·exact zF (lO hi) (by decide)
 ·exact q
theorem Eo:∀{ws:List V},(∀v∈ws,Ds v)->((ws.map sV).map (·.length)).sum<=1000*ws.length
 |[],_=>zQ _
 |v::ws,h=>by
  have h1:=aaZ (h v zi);have h2:=Eo λx q=>h x (zr _ q);rw[zj,zj,yY,zy];lia
def Ug{ws:List V}(h:∀v∈ws,Ds v):(RT ws).length<=1001*ws.length+1:=by
 have h1:=Eo h;have h2:=StrLaws.join_length_le (Str.ofString " ") (ws.map sV);have z:(Str.ofString " ").length=1:=by decide+kernel
 have q:(Str.ofString "\n").length=1:=by decide+kernel
 rw[za,z]at h2
 have h3:(Txt.join (Str.ofString " ") (ws.map sV)).length<=((ws.map sV).map (·.length)).sum+ws.length*1:=by
  have e3:Txt.join (Str.ofString " ") (ws.map sV)=Str.join (Str.ofString " ") (ws.map sV):=StrLaws.glued_eq_join _ _;rw[e3];exact h2
 unfold RT;rw[str_len,q];lia
def lA{i:Int}(h:i.natAbs<=1000000000000000000):i.natAbs<2^300:=zW h (by decide)
def jf{i:Int}(q:0<=i)(h1:i<=1000000000000000000):Ds (.int i):=.inl ⟨i,rfl,lA (by lia)⟩
def Vt{z:Str}(h:Nm z):Ds (.str z):=.inr ⟨z,rfl,zF h.2.1 (by decide)⟩
def Xn{p:Int}{rs:Rs}(h:DQ rs p)(hp:p<=1000000000){r:Addr×Int×Int}(q:r∈rs):(WN r).length<=1000:=by
 obtain⟨b0,b1,b2,z⟩:=h.b r q;have h1:=lO (lA (i:=r.2.1) (by lia));have h2:=lO (lA (i:=r.2.2) (by lia));unfold WN;rw[str_len,str_len];have e:(Str.ofString ":").length=1:=by decide+kernel
 lia
def Qn{e:Ent}(h:e.good):∃p,p<=1000000000/\GQ p e.lots:=by
 cases e with
 |sell d n w p r f o=>exact⟨p,h.2.1.2,h.2.2.2.2⟩
 |give d n w p o=>exact⟨p,h.2.1.2,h.2.2⟩
 |_=>exact⟨0,by decide,trivial⟩
def Uj{e:Ent}(h:e.good):(∀v∈e.rest,Ds v)/\e.rest.length<=3:=by
 have key:∀{l:List V},(∀v∈l,Ds v)->∀{v:V},Ds v->∀x∈v::l,Ds x:=λhl _ hv x hx=>by
  rcases zh.mp hx with rfl|hx
  ·exact hv
  ·exact hl x hx
 have q:∀v∈([]:List V),Ds v:=λv hv=>(zg hv).elim
 cases e with
 |buy d n w p r f=>
  obtain⟨_,⟨a1,a2⟩,⟨z,b2⟩,c1,c2⟩:=h;exact⟨key (key (key q (jf (by lia) (by lia))) (jf (by lia) (by lia))) (jf (by lia) (by lia)),by simp[Ent.rest]⟩
 |sell d n w p r f o=>
  obtain⟨_,⟨a1,a2⟩,⟨z,b2⟩,⟨c1,c2⟩,_⟩:=h;exact⟨key (key (key q (jf (by lia) (by lia))) (jf (by lia) (by lia))) (jf (by lia) (by lia)),by simp[Ent.rest]⟩
 |gift d n w p c s=>
  obtain⟨b,⟨a1,a2⟩,⟨z,b2⟩,c1,c2⟩:=h;have:=b.d1;exact⟨key (key (key q (jf (by lia) (by lia))) (jf (by lia) (by lia))) (jf (by lia) (by lia)),by simp[Ent.rest]⟩
 |give d n w p o=>
  obtain⟨_,⟨a1,a2⟩,_⟩:=h;exact⟨key q (jf (by lia) (by lia)),by simp[Ent.rest]⟩
 |split d n w m f=>
  obtain⟨_,⟨a1,a2⟩,z,b2⟩:=h;exact⟨key (key q (jf (by lia) (by lia))) (jf (by lia) (by lia)),by simp[Ent.rest]⟩
 |part d n w u s t=>
  obtain⟨_,hu,_,⟨a1,a2⟩,z,b2⟩:=h;exact⟨key (key (key q (jf (by lia) (by lia))) (jf (by lia) (by lia))) (Vt hu),by simp[Ent.rest]⟩
def wC{e:Ent}(h:e.good):Base e.day e.num e.ware:=by cases e<;>exact h.1
def Tp(e:Ent):Ds (.str e.word):=.inr ⟨_,rfl,by cases e<;>(simp only[Ent.word];decide+kernel)⟩
noncomputable def Ent.good5(e:Ent):Prop:=e.good/\∀rs,e.lots=some rs->rs.length<=5
def Yy{e:Ent}(h:e.good5):(∀z∈nwO e.lots,z.length<=1000)/\(nwO e.lots).length<=5:=by
 obtain⟨p,hp,ho⟩:=Qn h.1
 cases e0:e.lots with
 |none=>exact⟨λz q=>(zg q).elim,zQ _⟩
 |some rs=>
  rw[e0]at ho;refine⟨λz q=>?_,?_⟩
  ·obtain⟨r,hr,rfl⟩:=zC.mp q
   exact Xn ho hp hr
  ·show(rs.map WN).length<=5
   rw[za];exact h.2 rs e0
def acK{e:Ent}(h:e.good5):(∀v∈e.ws,Ds v)/\e.ws.length<=12:=by
 obtain⟨r1,r2⟩:=Uj h.1;obtain⟨n1,n2⟩:=Yy h;have b:=wC h.1;unfold Ent.ws;refine⟨λv q=>?_,?_⟩
 ·rcases zG.mp q with q|q
  ·rcases zG.mp q with q|q
   ·have h1:=b.d0;have h2:=b.d1;have h3:=b.n0;have h4:=b.n1
    simp only[zh,zg,or_false]at q;rcases q with rfl|rfl|rfl|rfl
    ·exact jf h1 (by lia)
    ·exact jf h3 (by lia)
    ·exact Tp e
    ·exact Vt b.w
   ·exact r1 v q
  ·obtain⟨z,hz,rfl⟩:=zC.mp q
   exact .inr ⟨z,rfl,n1 z hz⟩
 ·rw[zm,zm,za]
  show 4+_+_<=12;lia
def Ys{e:Ent}(h:e.good5):(RT e.ws).length<=12013:=by
 obtain⟨h1,h2⟩:=acK h;have:=Ug h1;have:1001*e.ws.length<=1001*12:=Nat.mul_le_mul_left _ h2;lia
theorem text_len:∀(os:List Ent),(∀e∈os,e.good5)->(os.map λe=>(RT e.ws).length).sum<=12013*os.length
 |[],_=>zQ _
 |e::os,h=>by
  have h1:=Ys (h e zi);have h2:=text_len os λx q=>h x (zr _ q);rw[zj,yY,zy];lia
noncomputable def Ent.nml:Ent->Bool
 |.sell ..=>true
 |.give ..=>true
 |_=>false
def Tj(e:Ent)(q:V):(e.nml=true/\e.args q=[.int e.day,.int e.num,.str e.ware]++e.rest++[q])\/(e.nml=false/\e.lots=none/\e.args q=[.int e.day,.int e.num,.str e.ware]++e.rest):=by
 cases e with
 |sell=>exact .inl ⟨rfl,rfl⟩
 |give=>exact .inl ⟨rfl,rfl⟩
 |_=>exact .inr ⟨rfl,rfl,rfl⟩
noncomputable def lwV(H:Hp):V->V
 |.ref b=>match H b with
  |some (.tup [.int i,.int j])=> .str (jG i++Str.ofString ":" ++jG j)
  |_=> .non
 |_=> .non
def Zj{H:Hp}{r:Addr×Int×Int}(h:H r.1=some (.tup [.int r.2.1,.int r.2.2])):lwV H (.ref r.1)=.str (WN r):=by
 unfold lwV;dsimp only;rw[h];rfl
theorem YD{H:Hp}:∀{rs:Rs},Gw H rs->(refs rs).map (lwV H)=(rs.map WN).map V.str
 |[],_=>rfl
 |r::rs,h=>by
  have h1:=Zj (h r zi);have h2:=YD (rs:=rs) λx q=>h x (zr _ q);unfold refs at h2⊢;rw[zj,zj,zj,zj,h1,h2]
def abm:∀ws:List V,(ws.filter λ_=>true).map (λv=>V.str (sV v))=(ws.map sV).map V.str:=λws=>by
 rw[List.filter_eq_self.mpr λ_ _=>rfl,zP];rfl
def Xh(xs ys:List V):CK (xs++ys) (some (xs.length:Int)) none=ys:=by rw[oh,List.drop_left]
def Ij{i:Int}(h:0<=i):∀c∈(jG i).cps.toList,48<=c/\c<=57:=by
 obtain⟨m,em⟩:=yk h;subst em;intro c q;unfold jG at q;rw[zzf]at q;obtain⟨ch,z,e⟩:=zC.mp q;rw[<-e];exact digit_range (zzZ (by decide) (by decide) z)
noncomputable def ph(z:Str):Prop:=32∉z.cps.toList/\10∉z.cps.toList
def wM{i:Int}(h:0<=i):ph (jG i):=⟨λm=>by have:=Ij h 32 m;lia,λm=>by have:=Ij h 10 m;lia⟩
def Qi{z:Str}(h:Nm z):ph z:=⟨λm=>by have:=h.2.2 32 m;lia,λm=>by have:=h.2.2 10 m;lia⟩
def LR{a b:Str}(ha:ph a)(hb:ph b):ph (a++b):=by
 have e:(a++b).cps.toList=a.cps.toList++b.cps.toList:=by
  show(a.cps++b.cps).toList=_;rw[yv]
 unfold ph;rw[e];exact⟨λm=>(zG.mp m).elim ha.1 hb.1,λm=>(zG.mp m).elim ha.2 hb.2⟩
def Pz:ph (Str.ofString ":"):=by unfold ph;decide+kernel
def Sq(e:Ent):ph e.word:=by
 unfold ph;cases e<;>(simp only[Ent.word];decide+kernel)
def Uh{rs:Rs}{p:Int}(h:DQ rs p){r:Addr×Int×Int}(q:r∈rs):ph (WN r):=by
 obtain⟨z,b1,b2,b3⟩:=h.b r q;exact LR (LR (wM z) Pz) (wM (by lia))
def Su{e:Ent}(h:e.good):∀v∈e.rest,ph (sV v):=by
 have key:∀{l:List V},(∀v∈l,ph (sV v))->∀{v:V},ph (sV v)->∀x∈v::l,ph (sV x):=λhl _ hv x hx=>by
  rcases zh.mp hx with rfl|hx
  ·exact hv
  ·exact hl x hx
 have q:∀v∈([]:List V),ph (sV v):=λv hv=>(zg hv).elim;have i:∀{n:Int},0<=n->ph (sV (.int n)):=λh=>wM h
 cases e with
 |buy d n w p r f=>
  obtain⟨_,⟨a1,a2⟩,⟨z,b2⟩,c1,c2⟩:=h;exact key (key (key q (i (by lia))) (i (by lia))) (i (by lia))
 |sell d n w p r f o=>
  obtain⟨_,⟨a1,a2⟩,⟨z,b2⟩,⟨c1,c2⟩,_⟩:=h;exact key (key (key q (i (by lia))) (i (by lia))) (i (by lia))
 |gift d n w p c s=>
  obtain⟨b,⟨a1,a2⟩,⟨z,b2⟩,c1,c2⟩:=h;exact key (key (key q (i (by lia))) (i (by lia))) (i (by lia))
 |give d n w p o=>
  obtain⟨_,⟨a1,a2⟩,_⟩:=h;exact key q (i (by lia))
 |split d n w m f=>
  obtain⟨_,⟨a1,a2⟩,z,b2⟩:=h;exact key (key q (i (by lia))) (i (by lia))
 |part d n w u s t=>
  obtain⟨_,hu,_,⟨a1,a2⟩,z,b2⟩:=h;exact key (key (key q (i (by lia))) (i (by lia))) (Qi hu)
def XM{e:Ent}(h:e.good):∀z∈e.ws.map sV,ph z:=λz hz=>by
 obtain⟨v,q,rfl⟩:=zC.mp hz;have b:=wC h;unfold Ent.ws at q;rcases zG.mp q with q|q
 ·rcases zG.mp q with q|q
  ·simp only[zh,zg,or_false]at q
   rcases q with rfl|rfl|rfl|rfl
   ·exact wM b.d0
   ·exact wM b.n0
   ·exact Sq e
   ·exact Qi b.w
  ·exact Su h v q
 ·obtain⟨y,hy,rfl⟩:=zC.mp q
  obtain⟨p,_,ho⟩:=Qn h;show ph y
  cases e0:e.lots with
  |none=>rw[e0]at hy;exact(zg hy).elim
  |some rs=>
   rw[e0]at hy ho;obtain⟨r,hr,rfl⟩:=zC.mp hy;exact Uh ho hr
noncomputable def Bs(e:Ent):Str:=Txt.join (Str.ofString " ") (e.ws.map sV)
def Ho:Str.ofString " " =⟨#[32]⟩:=by decide+kernel
def Br:Str.ofString "\n" =⟨#[10]⟩:=by decide+kernel
theorem HX{c d:Nat}(z:c≠d):∀{ps:List Str},(∀p∈ps,c∉p.cps.toList)->c∉(Str.join ⟨#[d]⟩ ps).cps.toList
 |[],_=>λm=>(zg (show c∈([]:List Nat)from m)).elim
 |[p],h=>h p zi
 |p::q::r,h=>by
  rw[BP];intro m;rcases zG.mp m with m|m
  ·exact h p zi m
  ·rcases zh.mp m with m|m
   ·exact z m
   ·exact HX z (ps:=q::r) (λx hx=>h x (zr _ hx)) m
def Wl{e:Ent}(h:e.good):10∉(Bs e).cps.toList:=by
 unfold Bs;rw[Ho,show Txt.join ⟨#[32]⟩ (e.ws.map sV)=Str.join ⟨#[32]⟩ (e.ws.map sV)from StrLaws.glued_eq_join _ _];exact HX (by decide) λp hp=>(XM h p hp).2
theorem KQ:∀os:List Ent,(os.map λe=>RT e.ws).foldr (λx t=>x++t) (Str.ofString "")=Str.join (Str.ofString "\n") (os.map Bs++[Str.ofString ""])
 |[]=>rfl
 |[e]=>by
  show RT e.ws++Str.ofString "" =Bs e++Str.ofString "\n" ++Str.ofString "";rfl
 |e::f::os=>by
  have q:=KQ (f::os);rw[zj,List.foldr_cons,q];show RT e.ws++Str.join (Str.ofString "\n") (Bs f::(os.map Bs++[Str.ofString ""]))=Bs e++Str.ofString "\n" ++Str.join (Str.ofString "\n") (Bs f::(os.map Bs++[Str.ofString ""]));rfl
theorem Uc:∀(xs:List Str)(t:Str),xs.foldl (λt x=>t++x) t=t++xs.foldr (λx t=>x++t) (Str.ofString "")
 |[],t=>by
  show t=t++Str.ofString ""
  have:(t++Str.ofString "").cps=t.cps:=by
   show t.cps++(Str.ofString "").cps=_;rw[Oe,Array.append_empty]
  exact(Str.ext' this).symm
 |x::xs,t=>by
  rw[zzc,Uc xs,List.foldr_cons,Lx]
def Rb{os:List Ent}(h:∀e∈os,e.good):Txt.split (wg os) (Str.ofString "\n")=os.map Bs++[Str.ofString ""]:=by
 have e1:wg os=Txt.join ⟨#[10]⟩ (os.map Bs++[Str.ofString ""]):=by
  have q:wg os=(os.map λe=>RT e.ws).foldl (λt x=>t++x) (Str.ofString ""):=by
   unfold wg;rw[List.foldl_map]
  rw[q,Uc,aaN,KQ,Br];exact(StrLaws.glued_eq_join _ _).symm
 rw[e1,Br];refine split_join (by simp) λp hp=>?_;rcases zG.mp hp with hp|hp
 ·obtain⟨e,z,rfl⟩:=zC.mp hp
  exact Wl (h e z)
 ·rw[zJ.mp hp,Oe]
  simp
noncomputable def ToldN(H:Hp)(tl:EL):Prop:=∀r∈tl,xW H r.1 r.2/\r.2.good5
theorem ToldN.same{H H':Hp}{tl:EL}(h:ToldN H tl)(s:Same H H'):ToldN H' tl:=λr q=>⟨(h r q).1.same s,(h r q).2⟩
theorem Fv{α β:Type}{F:α->β->Prop}:∀{l:List α}{m:List β},Paired F l m->∀i,Paired F (l.take i) (m.take i)
 |_,_,.nil,i=>by rw[List.take_nil,List.take_nil];exact .nil
 |_,_,.cons h t,0=> .nil
 |_,_,.cons h t,i+1=>by rw[zzV,zzV];exact .cons h (Fv t i)
theorem Ng{α β:Type}{F:α->β->Prop}:∀{l:List α}{m:List β},Paired F l m->∀{i:Nat}{x:α},l[i]? =some x->∃y,m[i]? =some y/\F x y
 |_,_,.nil,i,x,h=>by cases h
 |_,_,.cons h t,0,x,e=>by cases zt e;exact⟨_,rfl,h⟩
 |_,_,.cons h t,i+1,x,e=>Ng t (i:=i) e
def Xq{e:Ent}{q:V}:(e.args q)[1]? =some (.int e.num):=by cases e<;>rfl
def MJ{ws:List Str}{e:Ent}(h:lW ws e):∃w,ws[1]? =some w/\val w=.int e.num:=by
 obtain⟨q,⟨hk,_,hl,_⟩,hi,⟨z,ha⟩,_,_⟩:=h;have h4:=(lK hk).2.2.1;have h1:(Ab ws q.m++(if q.lot then[z]else[]))[1]? =some (.int e.num):=by rw[ha];exact Xq
 have hw:ws[1]? =some ws[1]:=zD (by lia);refine⟨ws[1],hw,?_⟩;unfold Ab at h1;rw[zZ (by rw[za,zm,zx];lia),zE,zZ (by rw[zx];lia),zzs (by decide),hw]at h1;exact zt h1
def Df{ws:List Str}{e q:Ent}(h:lW ws e)(h':lW ws q):e.num=q.num:=by
 obtain⟨w,e1,e2⟩:=MJ h;obtain⟨w',z,e4⟩:=MJ h';rw[e1]at z;cases zt z;rw[e2]at e4;injection e4
theorem Kv:∀{rows:List Str}{es es':List Ent},JX rows es->JX rows es'->es.map Ent.num=es'.map Ent.num
 |_,_,_,.nil,.nil=>rfl
 |_,_,_,.cons h t,.cons h' t'=>by rw[zj,zj,Df h h',Kv t t']
def Vs{q:List Str}{ac:Str}{i j:Nat}{es aa:List Ent}(h0:JX (q.take j) aa)(hu:(aa.map Ent.num).Nodup)(ab:i<j)(hj:j<=q.length)(h:JX (q.take i) es)(hb:Ln q ac i (es.map Ent.num)):False:=by
 rcases hb with⟨z,hz,hb⟩|⟨e,_⟩
 ·have hz':(q.take j)[i]? =some z:=by rw[zzs ab];exact hz
  obtain⟨e0,ad,ht⟩:=Ng h0 hz';rcases hb with hb|⟨e,he,hm⟩
  ·exact hb e0 ht
  ·have h1:=Fv h0 i
   rw[List.take_take,yyj (zzX ab)]at h1;have hn:=Kv h h1;rw[hn,Df he ht]at hm;have h2:aa.map Ent.num=(aa.take i).map Ent.num++(aa.drop i).map Ent.num:=by rw[<-zo,zzI]
   rw[h2]at hu;exact(zzh.mp hu).2.2 _ hm e0.num (zC.mpr ⟨e0,by rw[List.mem_iff_getElem?];exact⟨0,by rw[List.getElem?_drop];exact ad⟩,rfl⟩) rfl
 ·lia
def Zk{q:List Str}{aa:Str}{i:Nat}{ns:List Int}(h:Ln q aa i ns):i<=q.length:=by
 rcases h with⟨z,hz,_⟩|⟨e,_⟩
 ·exact zzX (zv.mp hz).1
 ·lia
def Yp{q:List Str}{z:Str}{i j:Nat}{es aa:List Ent}(h:JX (q.take i) es)(hu:(es.map Ent.num).Nodup)(hb:Ln q z i (es.map Ent.num))(h0:JX (q.take j) aa)(ac:(aa.map Ent.num).Nodup)(ab:Ln q z j (aa.map Ent.num)):i=j:=by
 rcases Nat.lt_trichotomy i j with hl|e|hl
 ·exact(Vs h0 ac hl (Zk ab) h hb).elim
 ·exact e
 ·exact(Vs h hu hl (Zk hb) h0 ab).elim
def Qs{q:List Str}{aa:Str}{j:Nat}{es ac:List Ent}(h:JX q es)(hu:(es.map Ent.num).Nodup)(hl:aa=Str.ofString "") (h0:JX (q.take j) ac) (ab:Ln q aa j (ac.map Ent.num)):False:=by
 rcases Nat.lt_or_ge j q.length with hj|hj
 ·exact Vs (j:=q.length) (by rw[zzn];exact h) hu hj (ze _) h0 ab
 ·rcases ab with⟨z,hz,_⟩|⟨_,hn⟩
  ·have:=(zv.mp hz).1
   lia
  ·exact hn hl
def ZR{i:Int}(q:0<=i)(h1:i<=1000000000000000000):1<=(jG i).length/\(jG i).length<=19:=by
 obtain⟨m,z⟩:=yk q;subst z
 have e:(jG ((m:Nat):Int)).length=(Nat.toDigits 10 m).length:=by
  show(jG ((m:Nat):Int)).cps.size=_;rw[<-zH];unfold jG;rw[zzf,za]
 rw[e];exact⟨Nat.length_toDigits_pos,(zzl (by decide) (by decide)).mpr (by lia)⟩
def ZL{z:Str}{c:Nat}(q:c∈z.cps.toList)(h:c<48\/57<c):val z=.str z:=by
 refine Fp λhn=>?_;unfold jN at hn;rw[zU,y6]at hn;have:=hn.2 c q;rw[zU,decide_eq_true_iff,decide_eq_true_iff]at this;lia
def Zn{z:Str}(h:Nm z):val z=.str z:=by
 obtain ⟨c,q⟩:∃c,c∈z.cps.toList:=by
  cases e:z.cps.toList with
  |nil=>
   have h1:=h.1;have:z.length=0:=by show z.cps.size=0;rw[<-zH,e];rfl
   lia
  |cons c l=>exact⟨c,zi⟩
 have:=h.2.2 c q;exact ZL q (by lia)
noncomputable def wsE(e:Ent):List Str:=e.ws.map sV
def YK(e:Ent):wsE e=[jG e.day,jG e.num,e.word,e.ware]++e.rest.map sV++nwO e.lots:=by
 unfold wsE Ent.ws;rw[zo,zo,zP];show _++_++(nwO e.lots).map id=_;rw[zzO];rfl
structure Wds(ws:List Str):Prop where
 n:ws≠[]
 c:∀w∈ws,ph w
 l:ws.length<=14
 s:∀w∈ws,w.length<=1000
abbrev Rm(ws:List Str):Str:=Txt.join (Str.ofString " ") ws
def YW{ws:List Str}(h:∀w∈ws,w.length<=1000):(ws.map (·.length)).sum<=1000*ws.length:=by
 induction ws with
 |nil=>exact zQ _
 |cons w ws ih=>
  have h1:=h w zi;have h2:=ih λx q=>h x (zr _ q);rw[zj,yY,zy];lia
def Wds.words{ws:List Str}(h:Wds ws):jZ (Rm ws)=ws:=by
 unfold jZ Rm;rw[Ho];exact L2.split_join h.n λp hp=>(h.c p hp).1
def Wds.row{ws:List Str}(h:Wds ws):abZ (Rm ws):=by
 refine⟨?_,?_,?_⟩
 ·have h1:=YW h.s
  have h2:=StrLaws.join_length_le (Str.ofString " ") ws;have q:(Str.ofString " ").length=1:=by decide+kernel
  have z:Rm ws=Str.join (Str.ofString " ") ws:=StrLaws.glued_eq_join _ _;have hl:=h.l;rw[q]at h2;rw[z];lia
 ·rw[h.words];have:=h.l;lia
 ·rw[h.words];exact λu hu=>zF (h.s u hu) (by decide)
structure ael(z:Str):Prop where
 t:∀e,¬lW (jZ z) e
 r:abZ z
 f:10∉z.cps.toList
 s:z.length<=20000
def Wds.len{ws:List Str}(h:Wds ws):(Rm ws).length<=20000:=by
 have h1:=YW h.s;have h2:=StrLaws.join_length_le (Str.ofString " ") ws;have q:(Str.ofString " ").length=1:=by decide+kernel
 have z:Rm ws=Str.join (Str.ofString " ") ws:=StrLaws.glued_eq_join _ _;have hl:=h.l;rw[q]at h2;rw[z];lia
noncomputable def pairD(r:Addr×Int×Int):DV:=.tup [.int r.2.1,.int r.2.2]
noncomputable def ntD:Option Rs->DV
 |none=> .non
 |some rs=> .tup (rs.map pairD)
noncomputable def Ent.argsD:Ent->List DV
 |.buy d n w p r f=>[.int d,.int n,.str w,.int p,.int r,.int f]
 |.sell d n w p r f o=>[.int d,.int n,.str w,.int p,.int r,.int f,ntD o]
 |.gift d n w p c s=>[.int d,.int n,.str w,.int p,.int c,.int s]
 |.give d n w p o=>[.int d,.int n,.str w,.int p,ntD o]
 |.split d n w m f=>[.int d,.int n,.str w,.int m,.int f]
 |.part d n w u s t=>[.int d,.int n,.str w,.str u,.int s,.int t]
noncomputable def Ent.dvT(e:Ent):DV:=.tup (.str e.word::e.argsD)
theorem Ls{H:Hp}:∀{rs:Rs},Gw H rs->mX K H (refs rs) (rs.map pairD)
 |[],_=> .nil
 |r::rs,h=> .cons (.tup (iD (h r (.head _))) (.cons (.int _) (.cons (.int _) .nil))) (Ls λq z=>h q (.tail _ z))
def Yz{H:Hp}{q:V}{o:Option Rs}(h:NT H q o):Dd K H q (ntD o):=by
 cases o with
 |none=>cases h;exact .non
 |some rs=>obtain⟨l,rfl,h1,h2⟩:=h;exact .tup (iD h1) (Ls h2)
def Xx{H:Hp}{t:Addr}{e:Ent}(h:xW H t e):Dd K H (.ref t) e.dvT:=by
 obtain⟨q,h1,h2⟩:=h;refine .tup (iD h1) (.cons (.str _) ?_)
 cases e with
 |buy=>exact .cons (.int _) (.cons (.int _) (.cons (.str _) (.cons (.int _) (.cons (.int _) (.cons (.int _) (.nil))))))
 |sell=>exact .cons (.int _) (.cons (.int _) (.cons (.str _) (.cons (.int _) (.cons (.int _) (.cons (.int _) (.cons (Yz h2) (.nil)))))))
 |gift=>exact .cons (.int _) (.cons (.int _) (.cons (.str _) (.cons (.int _) (.cons (.int _) (.cons (.int _) (.nil))))))
 |give=>exact .cons (.int _) (.cons (.int _) (.cons (.str _) (.cons (.int _) (.cons (Yz h2) (.nil)))))
 |split=>exact .cons (.int _) (.cons (.int _) (.cons (.str _) (.cons (.int _) (.cons (.int _) (.nil)))))
 |part=>exact .cons (.int _) (.cons (.int _) (.cons (.str _) (.cons (.str _) (.cons (.int _) (.cons (.int _) (.nil))))))
theorem Ih:∀rs:Rs,mz (rs.map pairD)<=1
 |[]=>by decide
 |r::rs=>by
  rw[zj];unfold mz;exact Nat.max_le.mpr ⟨by simp[pairD,pF,mz],Ih rs⟩
def Zt(o:Option Rs):pF (ntD o)<=2:=by
 cases o with
 |none=>decide
 |some rs=>show mz (rs.map pairD)+1<=2;have:=Ih rs;lia
theorem Gi{H:Hp}:∀{tl:EL},(∀r∈tl,xW H r.1 r.2)->mX K H (jX tl) (tl.map λr=>r.2.dvT)
 |[],_=> .nil
 |r::tl,h=> .cons (Xx (h r (.head _))) (Gi λq z=>h q (.tail _ z))
theorem Lk:∀es:List Ent,mz (es.map Ent.dvT)<=4
 |[]=>by decide
 |e::es=>by
  rw[zj];unfold mz;refine Nat.max_le.mpr ⟨?_,Lk es⟩
  cases e with
  |sell d n w p r f o=>
   have:=Zt o;simp only[Ent.dvT,Ent.argsD,pF,mz];lia
  |give d n w p o=>
   have:=Zt o;simp only[Ent.dvT,Ent.argsD,pF,mz];lia
  |_=>simp only[Ent.dvT,Ent.argsD,pF,mz];decide
def Wo{H:Hp}{p q:Addr}{tl z:EL}(h1:H p=some (.lst (jX tl)))(h2:H q=some (.lst (jX z)))(ht:∀r∈tl,xW H r.1 r.2)(hz:∀r∈z,xW H r.1 r.2)(he:(tl.map (·.2)).map Ent.dvT=(z.map (·.2)).map Ent.dvT):
  ∃d:DV,Dd K H (.ref p) d/\Dd K H (.ref q) d/\1<=pF d/\pF d<=20:=by
 have e1:(tl.map λr=>r.2.dvT)=(tl.map (·.2)).map Ent.dvT:=by rw[zP];rfl
 have e2:(z.map λr=>r.2.dvT)=(tl.map (·.2)).map Ent.dvT:=by rw[he,zP];rfl
 refine⟨.lst ((tl.map (·.2)).map Ent.dvT),.lst (fU h1) (e1▸Gi ht),.lst (fU h2) (e2▸Gi hz),?_,?_⟩
 ·show 1<=mz _+1;lia
 ·show mz _+1<=20
  have:=Lk (tl.map (·.2));lia
def Iz{H:Hp}{Q:VK}{p q:Addr}{tl z:EL}(h1:H p=some (.lst (jX tl)))(h2:H q=some (.lst (jX z)))(ht:∀r∈tl,xW H r.1 r.2)(hz:∀r∈z,xW H r.1 r.2)(he:(tl.map (·.2)).map Ent.dvT=(z.map (·.2)).map Ent.dvT)(k:Q (.bl true) H):acV K (.ref p) (.ref q) H Q:=by
 obtain⟨d,r1,r2,d1,d2⟩:=Wo (K:=K) h1 h2 ht hz he;exact⟨d,d,r1,r2,d1,d2,by rw[Es];exact k⟩
def Za{o o':Option Rs}(h:SmO o o'):ntD o'=ntD o:=by
 cases o with
 |none=>rw[PX h]
 |some rs=>cases o' with
  |none=>exact h.elim
  |some rs'=>exact congrArg DV.tup (Th (f:=pairD) (λx=> .tup [.int x.1,.int x.2]) (λ_=>rfl) h)
noncomputable def flt:V->Bool
 |.int _=>true
 |.str _=>true
 |.bl _=>true
 |.non=>true
 |_=>false
def abF{a b:Option Rs}(h:wO a=wO b):a=b:=by
 cases a with
 |none=>cases b with
  |none=>rfl
  |some _=>cases h
 |some rs=>cases b with
  |none=>cases h
  |some rs'=>rw[JN (zt h)]
def Wv{ws:List Str}{e e':Ent}(h:lW ws e)(h':lW ws e'):e'.dvT=e.dvT:=by
 obtain⟨kd,hK,hi,⟨nl,ha⟩,hL,_⟩:=h;obtain⟨ae,aa,q,⟨ad,ab⟩,ac,_⟩:=h';have ek:=FW aa hK;subst ek;obtain⟨o2,e1,z⟩:=Qp ac hL;rw[<-abF e1]at z;have hk:=aa.1;have ea:e'.args .non=e.args .non:=(Em (v:=.non) hk q ab).symm.trans (Em (v:=.non) hk hi ha);simp only[kinds,zh,zg,or_false]at hk;rcases hk with rfl|rfl|rfl|rfl|rfl|rfl
 ·obtain⟨_,_,_,_,_,_,rfl⟩:=La hi
  obtain⟨_,_,_,_,_,_,rfl⟩:=La q;cases ea;rfl
 ·obtain⟨_,_,_,_,_,_,o,rfl⟩:=CW hi
  obtain⟨_,_,_,_,_,_,o',rfl⟩:=CW q;cases ea;show DV.tup (_::[_,_,_,_,_,_,ntD o'])=_;rw[Za (o:=o) (o':=o') z];rfl
 ·obtain⟨_,_,_,_,_,_,rfl⟩:=Aq hi
  obtain⟨_,_,_,_,_,_,rfl⟩:=Aq q;cases ea;rfl
 ·obtain⟨_,_,_,_,o,rfl⟩:=Cy hi
  obtain⟨_,_,_,_,o',rfl⟩:=Cy q;cases ea;show DV.tup (_::[_,_,_,_,ntD o'])=_;rw[Za (o:=o) (o':=o') z];rfl
 ·obtain⟨_,_,_,_,_,rfl⟩:=of_split hi
  obtain⟨_,_,_,_,_,rfl⟩:=of_split q;cases ea;rfl
 ·obtain⟨_,_,_,_,_,_,rfl⟩:=wB hi
  obtain⟨_,_,_,_,_,_,rfl⟩:=wB q;cases ea;rfl
theorem PN:∀{rows:List Str}{es es':List Ent},JX rows es->JX rows es'->es'.map Ent.dvT=es.map Ent.dvT
 |_,_,_,.nil,.nil=>rfl
 |_,_,_,.cons h t,.cons h' t'=>by rw[zj,zj,Wv h h',PN t t']
noncomputable def Jt(K:Fg_):Sp:=λvs H Q _=>∃(v:V)(o:Option Rs),vs=[v]/\NL H v o/\∀v' H',Same H H'->NT H' v' o->Q v' H'
def Aw(T:Txt w K mg A D):ji P w K mg base CX0 1 A.qy D.qy ["named"] (Jt K):=by
 refine T.sA.F.okv JM λ_ _ _ _ H vs Q E hr h=>?_
 ·obtain⟨v,o,rfl,hn,k⟩:=h
  refine⟨_,(fQ (gj (Ei (fY (Lz) (pvD 0) jJ (gk _)) jJ (iy (pL (K:=K)) (by rfl) T.tY (by decide+kernel) (pav 0 fM))))),?_⟩
  cases o with
  |none=>
   cases hn;walk_at "a";exact k _ H (same_refl H) rfl
  |some rs=>
   obtain⟨l,rfl,hl,hL⟩:=hn;walk_at "a";refine⟨_,.inl ⟨fU hl,λq z=>k _ _ (fO z) ⟨q,rfl,fL,hL.same (fO z)⟩⟩⟩
noncomputable def Hs(isK:Ent->Bool):Sp:=λvs H Q _=>∃(x:Addr)(e:Ent),isK e=true/\vs=[.ref x]/\Q (.str e.word) H
noncomputable def pB(A:Adr)(isK:Ent->Bool):Sp:=λvs H Q _=>∃(x:Addr)(e:Ent),isK e=true/\vs=[.ref x]/\IsE A H x e/\
 ∀t nt H',Same H H'->H t=none->H' t=some (.tup (.str e.word::e.args nt))->NT H' nt e.lots->Q (.ref t) H'
def Ov(T:Txt w K mg A D):ji P w K mg base CX0 1 A.qw D.qw ["self"] (Hs Bo):=by
 refine T.sv.okv Oo λ_ _ _ _ H vs Q E z h=>?_
 ·obtain⟨x,e,q,rfl,k⟩:=h
  refine⟨_,(fQ (gj fZ)),?_⟩;walk_at "a";cases e<;>first|exact k|cases q
def LC(T:Txt w K mg A D):ji P w K mg base CX0 1 A.qz D.qz ["self"] (Hs oJ):=by
 refine T.sC.okv KN λ_ _ _ _ H vs Q E z h=>?_
 ·obtain⟨x,e,q,rfl,k⟩:=h
  refine⟨_,(fQ (gj fZ)),?_⟩;walk_at "a";cases e<;>first|exact k|cases q
def Mu(T:Txt w K mg A D):ji P w K mg base CX0 1 A.qB D.qB ["self"] (Hs pZ):=by
 refine T.sE.okv Ni λ_ _ _ _ H vs Q E z h=>?_
 ·obtain⟨x,e,q,rfl,k⟩:=h
  refine⟨_,(fQ (gj fZ)),?_⟩;walk_at "a";cases e<;>first|exact k|cases q
def KR(T:Txt w K mg A D):ji P w K mg base CX0 1 A.qD D.qD ["self"] (Hs oR):=by
 refine T.sG.okv KC λ_ _ _ _ H vs Q E z h=>?_
 ·obtain⟨x,e,q,rfl,k⟩:=h
  refine⟨_,(fQ (gj fZ)),?_⟩;walk_at "a";cases e<;>first|exact k|cases q
def Jw(T:Txt w K mg A D):ji P w K mg base CX0 1 A.qF D.qF ["self"] (Hs mU):=by
 refine T.sJ.okv Ip λ_ _ _ _ H vs Q E z h=>?_
 ·obtain⟨x,e,q,rfl,k⟩:=h
  refine⟨_,(fQ (gj fZ)),?_⟩;walk_at "a";cases e<;>first|exact k|cases q
def Ey(T:Txt w K mg A D):ji P w K mg base CX0 1 A.qH D.qH ["self"] (Hs pR):=by
 refine T.sL.okv Ew λ_ _ _ _ H vs Q E z h=>?_
 ·obtain⟨x,e,q,rfl,k⟩:=h
  refine⟨_,(fQ (gj fZ)),?_⟩;walk_at "a";cases e<;>first|exact k|cases q
def Nz(T:Txt w K mg A D):ji P w K mg base CX0 2 A.qx D.qx ["self"] (pB A Bo):=by
 refine T.sy.okv NK λ_ _ _ _ H vs Q E hr h=>?_
 ·obtain⟨x,e,z,rfl,⟨dx,nv,q,hn⟩,k⟩:=h
  refine⟨_,(fQ (gj (ju (fG (nJ (pv 0) (mc T.uK T.vH (Ov T) hr (RZ T) .nil) Jv) (fG (fv K 0) (fG (fv K 0) (fG (fv K 0) (fG (fv K 0) (fG (fv K 0) (fG (fv K 0) fM)))))))))),?_⟩
  cases e with
  |sell=>cases z
  |gift=>cases z
  |give=>cases z
  |split=>cases z
  |part=>cases z
  |buy d n w p r f=>
  walk_at "a";refine⟨_,dx,_,q,_,zi,by rfl,?_⟩;refine⟨x,.buy d n w p r f,rfl,rfl,?_⟩;refine rd q T.uK T.uL (by rfl) (?_);refine rd q T.uK T.uM (by rfl) (?_);refine rd q T.uK T.uN (by rfl) (?_);refine rd q T.uK T.uO (by rfl) (?_);refine rd q T.uK T.uP (by rfl) (?_);refine rd q T.uK T.uQ (by rfl) (?_);refine⟨sz,λt ht=>k t .non _ (fO ht) ht fL rfl⟩
def Mr(T:Txt w K mg A D):ji P w K mg base CX0 2 A.qA D.qA ["self"] (pB A oJ):=by
 refine T.sD.okv Dk λ_ _ _ _ H vs Q E hr h=>?_
 ·obtain⟨x,e,hk,rfl,⟨dx,nv,z,hn⟩,k⟩:=h
  refine ⟨_,(fK (gn (i:=1) Dk.nd rfl orl (pcg (Aw T) hr T.sA (Dp T) (fG (fv K 0) fM)))
   (fQ (gj (ju (fG (nJ (pv 0) (mc T.uS T.vI (LC T) hr (Pq T) .nil) Jv) (fG (fv K 0) (fG (fv K 0) (fG (fv K 0) (fG (fv K 0) (fG (fv K 0) (fG (fv K 0) (pav 1 fM)))))))))))),?_⟩
  cases e with
  |buy=>cases hk
  |gift=>cases hk
  |give=>cases hk
  |split=>cases hk
  |part=>cases hk
  |sell d n w p r f o=>
  walk_at "a";refine rd z T.uS T.uZ (by rfl) (?_);refine⟨_,_,rfl,hn,λnt H1 q h1=>?_⟩;walk_at "a";refine⟨_,dx,_,(q _ _ z),_,zi,by rfl,?_⟩;refine⟨x,.sell d n w p r f o,rfl,rfl,?_⟩;refine rd (q _ _ z) T.uS T.uT (by rfl) (?_);refine rd (q _ _ z) T.uS T.uU (by rfl) (?_);refine rd (q _ _ z) T.uS T.uV (by rfl) (?_);refine rd (q _ _ z) T.uS T.uW (by rfl) (?_);refine rd (q _ _ z) T.uS T.uX (by rfl) (?_);refine rd (q _ _ z) T.uS T.uY (by rfl) (?_);refine⟨sz,λt ht=>k t nt _ (q.upd (q.free ht)) (q.free ht) fL (h1.same (fO ht))⟩
def MP(T:Txt w K mg A D):ji P w K mg base CX0 2 A.qC D.qC ["self"] (pB A pZ):=by
 refine T.sF.okv Mz λ_ _ _ _ H vs Q E hr h=>?_
 ·obtain⟨x,e,z,rfl,⟨dx,nv,q,hn⟩,k⟩:=h
  refine⟨_,(fQ (gj (ju (fG (nJ (pv 0) (mc T.u3 T.vJ (Mu T) hr (OJ T) .nil) Jv) (fG (fv K 0) (fG (fv K 0) (fG (fv K 0) (fG (fv K 0) (fG (fv K 0) (fG (fv K 0) fM)))))))))),?_⟩
  cases e with
  |buy=>cases z
  |sell=>cases z
  |give=>cases z
  |split=>cases z
  |part=>cases z
  |gift d n w p c s=>
  walk_at "a";refine⟨_,dx,_,q,_,zi,by rfl,?_⟩;refine⟨x,.gift d n w p c s,rfl,rfl,?_⟩;refine rd q T.u3 T.u4 (by rfl) (?_);refine rd q T.u3 T.u5 (by rfl) (?_);refine rd q T.u3 T.u6 (by rfl) (?_);refine rd q T.u3 T.u7 (by rfl) (?_);refine rd q T.u3 T.u8 (by rfl) (?_);refine rd q T.u3 T.u9 (by rfl) (?_);refine⟨sz,λt ht=>k t .non _ (fO ht) ht fL rfl⟩
def Mg(T:Txt w K mg A D):ji P w K mg base CX0 2 A.qE D.qE ["self"] (pB A oR):=by
 refine T.sI.okv Lh λ_ _ _ _ H vs Q E hr h=>?_
 ·obtain⟨x,e,z,rfl,⟨dx,nv,q,hn⟩,k⟩:=h
  refine⟨_,(fQ (gj (ju (fG (nJ (pv 0) (mc T.vc T.vK (KR T) hr (Ot T) .nil) Jv) (fG (fv K 0) (fG (fv K 0) (fG (fv K 0) (fG (fv K 0) (fG (pcg (Aw T) hr T.sA (Dp T) (fG (fv K 0) fM)) fM))))))))),?_⟩
  cases e with
  |buy=>cases z
  |sell=>cases z
  |gift=>cases z
  |split=>cases z
  |part=>cases z
  |give d n w p o=>
  walk_at "a";refine⟨_,dx,_,q,_,zi,by rfl,?_⟩;refine⟨x,.give d n w p o,rfl,rfl,?_⟩;refine rd q T.vc T.vd (by rfl) (?_);refine rd q T.vc T.ve (by rfl) (?_);refine rd q T.vc T.vf (by rfl) (?_);refine rd q T.vc T.vg (by rfl) (?_);refine rd q T.vc T.vh (by rfl) (?_);refine⟨_,_,rfl,hn,λnt H1 s1 h1=>?_⟩;walk_at "a";refine⟨sz,λt ht=>k t nt _ (s1.upd (s1.free ht)) (s1.free ht) fL (h1.same (fO ht))⟩
def Jc(T:Txt w K mg A D):ji P w K mg base CX0 2 A.qG D.qG ["self"] (pB A mU):=by
 refine T.sK.okv JW λ_ _ _ _ H vs Q E hr h=>?_
 ·obtain⟨x,e,z,rfl,⟨dx,nv,q,hn⟩,k⟩:=h
  refine⟨_,(fQ (gj (ju (fG (nJ (pv 0) (mc T.vi T.vL (Jw T) hr (Mv T) .nil) Jv) (fG (fv K 0) (fG (fv K 0) (fG (fv K 0) (fG (fv K 0) (fG (fv K 0) fM))))))))),?_⟩
  cases e with
  |buy=>cases z
  |sell=>cases z
  |gift=>cases z
  |give=>cases z
  |part=>cases z
  |split d n w m f=>
  walk_at "a";refine⟨_,dx,_,q,_,zi,by rfl,?_⟩;refine⟨x,.split d n w m f,rfl,rfl,?_⟩;refine rd q T.vi T.vj (by rfl) (?_);refine rd q T.vi T.vk (by rfl) (?_);refine rd q T.vi T.vm (by rfl) (?_);refine rd q T.vi T.vn (by rfl) (?_);refine rd q T.vi T.vo (by rfl) (?_);refine⟨sz,λt ht=>k t .non _ (fO ht) ht fL rfl⟩
def Gb(T:Txt w K mg A D):ji P w K mg base CX0 2 A.qI D.qI ["self"] (pB A pR):=by
 refine T.sM.okv EY λ_ _ _ _ H vs Q E hr h=>?_
 ·obtain⟨x,e,z,rfl,⟨dx,nv,q,hn⟩,k⟩:=h
  refine⟨_,(fQ (gj (ju (fG (nJ (pv 0) (mc T.vp T.vM (Ey T) hr (Gv T) .nil) Jv) (fG (fv K 0) (fG (fv K 0) (fG (fv K 0) (fG (fv K 0) (fG (fv K 0) (fG (fv K 0) fM)))))))))),?_⟩
  cases e with
  |buy=>cases z
  |sell=>cases z
  |gift=>cases z
  |give=>cases z
  |split=>cases z
  |part d n w u s t=>
  walk_at "a";refine⟨_,dx,_,q,_,zi,by rfl,?_⟩;refine⟨x,.part d n w u s t,rfl,rfl,?_⟩;refine rd q T.vp T.vq (by rfl) (?_);refine rd q T.vp T.vv (by rfl) (?_);refine rd q T.vp T.vx (by rfl) (?_);refine rd q T.vp T.vy (by rfl) (?_);refine rd q T.vp T.vz (by rfl) (?_);refine rd q T.vp T.vA (by rfl) (?_);refine⟨sz,λt ht=>k t .non _ (fO ht) ht fL rfl⟩
noncomputable def adR(A:Adr):List (Addr×Sp):=[(A.rC,pB A Bo),(A.rD,pB A oJ),(A.rE,pB A pZ),(A.rF,pB A oR),(A.rG,pB A mU),(A.rH,pB A pR)]
def adM(A:Adr)(e:Ent):∃q,q e=true/\(e.cls A,pB A q)∈adR A:=by
 cases e with
 |buy=>exact⟨Bo,rfl,.head _⟩
 |sell=>exact⟨oJ,rfl,.tail _ (.head _)⟩
 |gift=>exact⟨pZ,rfl,.tail _ (.tail _ (.head _))⟩
 |give=>exact⟨oR,rfl,.tail _ (.tail _ (.tail _ (.head _)))⟩
 |split=>exact⟨mU,rfl,.tail _ (.tail _ (.tail _ (.tail _ (.head _))))⟩
 |part=>exact⟨pR,rfl,.tail _ (.tail _ (.tail _ (.tail _ (.tail _ (.head _)))))⟩
def Vw(e:Ent)(q:V):(e.fs q).lookup (Str.ofString "told")=none:=by cases e<;>rfl
theorem abX{F:Addr->Ent->Prop}:∀{acc:List V}{tl:EL},acc.length=tl.length->(∀(i:Nat) v,acc[i]? =some v->∃b r,tl[i]? =some r/\v=.ref b/\F b r.2)->
  ∃es:EL,acc=jX es/\es.map (·.2)=tl.map (·.2)/\∀r∈es,F r.1 r.2
 |[],tl,hl,_=>by
  cases tl with
  |nil=>exact⟨[],rfl,rfl,λg h=>(zg h).elim⟩
  |cons _ _=>simp at hl
 |v::acc,tl,hl,h=>by
  cases tl with
  |nil=>simp at hl
  |cons r tl=>
   obtain⟨b,r',e,rfl,hf⟩:=h 0 v rfl;cases e;obtain⟨es,e1,z,e3⟩:=abX (acc:=acc) (tl:=tl) (by simpa using hl) λi v hv=>h (i+1) v hv;refine⟨(b,r.2)::es,by rw[e1];rfl,by rw[zj,zj,z],λg q=>?_⟩;rcases zh.mp q with rfl|q
   ·exact hf
   ·exact e3 g q
def XH{H H':Hp}{t D:Addr}{e:Ent}{acc:List V}(h:xW H t e)(hD:H D=some (.lst acc))(hb:But D H H'):xW H' t e:=by
 obtain⟨nt,q,hn⟩:=h;refine⟨nt,hb _ _ (λz=>by rw[z,hD]at q;cases q) q,?_⟩;revert hn
 cases e.lots with
 |none=>exact λh=>h
 |some rs=>
  rintro⟨l,e0,hl,hL⟩;refine⟨l,e0,hb _ _ (λz=>by rw[z,hD]at hl;cases hl) hl,λr hr=>hb _ _ (λz=>?_) (hL r hr)⟩;have:=hL r hr;rw[z,hD]at this;cases this
noncomputable def abP:V->Bool
 |.str _=>true
 |_=>false
theorem Jo{H:Hp}:∀(vs:List V),vs.all abP=true->∃ds,mX K H vs ds/\ds.length=vs.length/\mz ds<=1
 |[],_=>⟨[],.nil,rfl,by decide⟩
 |v::vs,h=>by
  rw[yz,zU]at h;obtain⟨ds,h1,h2,q⟩:=Jo vs h.2
  cases v with
  |str z=>exact⟨.str z::ds,.cons (.str _) h1,by rw[zy,zy,h2],by unfold mz;exact Nat.max_le.mpr ⟨zQ _,q⟩⟩
  |_=>cases h.1
def XJ{H:Hp}{Q:VK}{p q:Addr}{vs:List V}(h1:H p=some (.lst vs))(h2:H q=some (.lst []))(hf:vs.all abP=true)(k:Q (.bl (!vs.isEmpty)) H):acQ K (.ref p) (.ref q) H Q:=by
 obtain⟨ds,r1,z,r3⟩:=Jo vs hf;refine⟨.lst ds,.lst [],.lst (fU h1) r1,.lst (fU h2) .nil,by unfold pF;lia,by unfold pF;lia,?_⟩
 have e:jd (.lst ds) (.lst [])=vs.isEmpty:=by
  cases vs with
  |nil=>rw[z7 z];rfl
  |cons v vs=>cases ds with
   |nil=>cases z
   |cons d ds=>rfl
 rw[e];exact k
def QD{H:Hp}{Q:VK}{p q:Addr}{vs:List V}(h1:H p=some (.lst vs))(h2:H q=some (.lst []))(hf:vs.all abP=true)(k:Q (.bl vs.isEmpty) H):acV K (.ref p) (.ref q) H Q:=by
 obtain⟨ds,r1,z,r3⟩:=Jo vs hf;refine⟨.lst ds,.lst [],.lst (fU h1) r1,.lst (fU h2) .nil,by unfold pF;lia,by unfold pF;lia,?_⟩
 have e:jd (.lst ds) (.lst [])=vs.isEmpty:=by
  cases vs with
  |nil=>rw[z7 z];rfl
  |cons v vs=>cases ds with
   |nil=>cases z
   |cons d ds=>rfl
 rw[e];exact k
def abM(c:Nat):(!(Builtin.Str.occurrences (Str.ofString "0123456789") ⟨#[c]⟩ 0 (Str.ofString "0123456789").length 1).isEmpty)=(decide (48<=c) && decide (c<=57)):=by
 rw[PySem.StrLaws.found_one,show(Str.ofString "0123456789").cps.toList=[48,49,50,51,52,53,54,55,56,57] by decide+kernel,<-Bool.decide_and];refine decide_eq_decide.mpr ?_;simp only[zh,zg,or_false];omega
def abr(c:Nat):(!(Builtin.Str.occurrences (Str.ofString "abcdefghijklmnopqrstuvwxyz") ⟨#[c]⟩ 0 (Str.ofString "abcdefghijklmnopqrstuvwxyz").length 1).isEmpty)=(decide (97<=c) && decide (c<=122)):=by
 rw[PySem.StrLaws.found_one,show(Str.ofString "abcdefghijklmnopqrstuvwxyz").cps.toList=[97,98,99,100,101,102,103,104,105,106,107,108,109,110,111,112,113,114,115,116,117,118,119,120,121,122] by decide+kernel,<-Bool.decide_and];refine decide_eq_decide.mpr ?_;simp only[zh,zg,or_false];omega
def Yh{f:V->Bool}{g:Nat->Bool}(q:∀c,f (V.str ⟨#[c]⟩)=!g c)(l:List Nat):((l.map λc=>V.str ⟨#[c]⟩).filter f).isEmpty=l.all g:=by
 induction l with
 |nil=>rfl
 |cons c l ih=>
  rw[zj,List.filter_cons,yz,q];cases g c
  ·rfl
  ·exact ih
def Vf(f:V->Bool)(l:List Nat):(((l.map λc=>V.str ⟨#[c]⟩).filter f).map id).all abP=true:=by
 rw[zzO,y6];intro v q;obtain⟨c,_,rfl⟩:=zC.mp (zzb.mp q).1;rfl
def adX(c:Nat):okD (V.str ⟨#[c]⟩)=(decide (48<=c) && decide (c<=57)):=by
 show((decide (48<=c) && decide (c<=57)) && true)=_;rw[yH]
def aeg(c:Nat):okS (V.str ⟨#[c]⟩)=(decide (97<=c) && decide (c<=122)):=by
 show((decide (97<=c) && decide (c<=122)) && true)=_;rw[yH]
def WL{f:V->Bool}{g:Nat->Bool}(q:∀c,f (V.str ⟨#[c]⟩)=g c)(z:Str):(((L2.signs z).filter λx=>!f x).map id).isEmpty=z.cps.toList.all g:=by
 rw[zzO];exact Yh (λc=>by rw[q]) z.cps.toList
noncomputable def gK(z:Str):Int:=if jN z=true then(PySem.intText? z).getD 0 else -1
def xj{z:Str}(h:jN z=true):∃m:Nat,z=jG (m:Int)/\(m:Int).natAbs<2^300/\gK z=m/\val z=.int m:=by
 obtain⟨m,e,hm,q⟩:=Py h;refine⟨m,e,hm,?_,q⟩;unfold val at q;rw[zp h]at q;injection q with q
 unfold gK;rw[zp h,q]
def Cd{z:Str}(h:¬jN z=true):gK z= -1:=by unfold gK;rw[zk h]
noncomputable def xT:Sp:=λvs H Q _=>∃z:Str,vs=[.str z]/\z.length<=1000000/\∀H',Same H H'->Q (.int (gK z)) H'
def lQ(T:Txt w K mg A D):ji P w K mg base CX0 1 A.rm D.rm ["_law_word"] xT:=by
 refine T.tJ.F.okv Gs λ_ _ _ _ H vs Q E hr h=>?_
 ·obtain⟨z,rfl,hl,k⟩:=h
  refine ⟨_,(fK (iB (PW.pt (nZ (fY (jT) (pvD 0) fZ (gk _)) (nZ (fY (xu) (gw jB (by rfl) T.tS (by decide+kernel) (pav 0 fM)) fH (gk _)) (lY (fY (Ue (K:=K) hr) (jA (cap:=[none]) (N':=["_law_sign"]) rfl (by walk_at "c") (QJ (pvD 0)) (λ_ _ _ _=>(gA (i:=0) nd1 rfl orl orr)) (λ_ _ _ _=>(Pj (fY (Dm) (pvD 0) fZ (by with_unfolding_all rfl)))) (λ_ _ _ _=>(pvD 0))) (iI fM) (gk _)))))) (fQ (gj (Va Mp fH))) gm)
   (fK (iB (PW.pt (Be (fY (xu) (gw jB (by rfl) T.tS (by decide+kernel) (pav 0 fM)) fH (gk _)) (wU (fY (jT) (gF Tu (pvD 0) fH (λ_ _=>rfl)) fZ (gk _))))) (fQ (gj (Va Mp fH))) gm)
   (fQ (gj (iy Bw (by rfl) T.tT (by decide+kernel) (pav 0 fM)))))),?_⟩
  have hz:z.length<=sizeLine:=by rw[zc];lia
  walk_at "a";by_cases h0:z=Str.ofString ""
  ·rw[zp h0]
   rw[Cd (z:=z) (by unfold jN;rw[zB (λc=>c h0)];exact zw)]at k;exact k H (same_refl H)
  rw[zk h0];refine⟨hz,?_⟩;by_cases h1:19<(z.length:Int)
  ·rw[zp h1]
   rw[Cd (z:=z) (by unfold jN;rw[zB (p:=z.length<=19) (by lia),yJ];exact zw)]at k;exact k H (same_refl H)
  rw[zk h1]
  have e1:jN z=(!(Txt.startswith z (Str.ofString "0") && decide (z≠Str.ofString "0")) && z.cps.toList.all λc=>decide (48<=c) && decide (c<=57)):=by
   unfold jN;rw[zS h0,zS (show z.length<=19 by lia)];rfl
  refine jC.str (λσ=>∃v,σ=[v]) (λx=>!okD x) id ⟨none,rfl⟩ hz ?_ ?_
  ·rintro x hx σ H5 R1 R2 ⟨v,rfl⟩ sm k1 k2
   obtain⟨c,hc,rfl⟩:=zC.mp hx;walk_at "a";rw[abM,<-adX];cases ho:okD (V.str ⟨#[c]⟩)
   ·exact k1 (by rw[ho];rfl) _ _ ⟨_,rfl⟩ (same_refl _)
   ·exact k2 (by rw[ho];rfl) _ _ ⟨_,rfl⟩ (same_refl _)
  intro Da H' hD sm e;refine⟨zQ _,λp hp=>XJ ((fO hp) _ _ e) fL (Vf _ _) ⟨_,rfl,?_⟩⟩;rw[WL adX];have S2:=sm.trans (fO (o:=.lst []) hp);generalize upd H' p (.lst [])=H2 at S2⊢
  cases ha:z.cps.toList.all λc=>decide (48<=c) && decide (c<=57)with
  |false=>
   rw[zp (show(!false)=true from rfl)];rw[Cd (z:=z) (by rw[e1,ha,yJ];exact zw)]at k;exact k H2 S2
  |true=>
   rw[ha,yH]at e1;rw[zk (show¬(!true)=true from zw)];refine⟨hz,?_⟩;have ab:0<z.length:=yK λe=>h0 (Fg e)
   have aa:jN z=true->abW [V.str z] H2 Q:=λh=>by
    obtain⟨m,e,hm,hv,_⟩:=xj h;rw[hv]at k;exact⟨m,by rw[<-e],by lia,hm,k H2 S2⟩
   have hd:(Str.ofString "0").length=1:=by decide+kernel
   obtain ⟨c,l,hc⟩:∃c l,z.cps.toList=c::l:=by
    cases e:z.cps.toList with
    |nil=>rw[show z.length=z.cps.toList.length from zH.symm,e]at ab;exact absurd ab (by decide)
    |cons c l=>exact⟨c,l,rfl⟩
   have ac:Txt.startswith z (Str.ofString "0")=decide (c=48):=by
    rw[Hu,yP,Mj,hc,decide_eq_true_iff];exact⟨λh=>zt h,λh=>congrArg some h⟩
   by_cases h2:1<(z.length:Int)
   ·rw[zp h2]
    refine⟨hz,c,gR (j:=0) (by rw[hc];rfl),?_⟩;have ae:z≠Str.ofString "0" :=λe=>by rw[e,hd]at h2;exact absurd h2 (by decide)
    rw[zS ae,yH,ac]at e1;by_cases h3:c=48
    ·rw[zp (by rw[h3,Hu])]
     rw[Cd (z:=z) (by rw[e1,zS h3];exact zw)]at k;exact k H2 S2
    ·rw[zk (λe=>h3 (by rw[Hu]at e;injection e with e;injection e with e;injection e))]
     exact aa (by rw[e1,zB h3];rfl)
   ·rw[zk h2]
    refine aa ?_;rw[e1,ac];by_cases h3:c=48
    ·have ad:z=Str.ofString "0" :=by
      refine L2.str_ext ?_
      have hl:l=[]:=by
       have h4:z.cps.toList.length=z.length:=zH;rw[hc,zy]at h4;exact z7 (by lia)
      rw[hc,hl,h3,Hu]
     rw[zB (p:=z≠Str.ofString "0") (λq=>q ad),yJ];rfl
    ·rw[zB h3,Bool.false_and]
     rfl
noncomputable def Gf:Sp:=λvs H Q _=>∃z:Str,vs=[.str z]/\z.length<=1000000/\∀H',Same H H'->Q (.bl (decide (Nm z))) H'
def wI(T:Txt w K mg A D):ji P w K mg base CX0 1 A.ro D.ro ["_law_word"] Gf:=by
 refine T.tL.F.okv Gg λ_ _ _ _ H vs Q E hr h=>?_
 ·obtain⟨z,rfl,hl,k⟩:=h
  refine⟨_,(fQ (gj (TF (IW (xX) (xX) fH (gw jB (by rfl) T.tS (by decide+kernel) (pav 0 fM)) fH) (Vm (Ca (Ju (K:=K) hr) (jA (cap:=[none]) (N':=["_law_sign"]) rfl (by walk_at "c") (QJ (pvD 0)) (λ_ _ _ _=>(gA (i:=0) nd1 rfl orl orr)) (λ_ _ _ _=>(Pj (fY (Dm) (pvD 0) fZ (by with_unfolding_all rfl)))) (λ_ _ _ _=>(pvD 0))) (iI fM) (gk _)))))),?_⟩;have q:z.length<=sizeLine:=by rw[zc];lia
  walk_at "a";refine⟨q,?_⟩;by_cases n1:1<=z.length
  rotate_left
  ·rw[zk (by lia)]
   rw[zB (λh:Nm z=>n1 h.1)]at k;exact k H (same_refl H)
  rw[zp (by lia)];by_cases n2:z.length<=8
  rotate_left
  ·rw[zk (by lia)]
   rw[zB (λh:Nm z=>n2 h.2.1)]at k;exact k H (same_refl H)
  rw[zp (by lia)];refine jC.str (λσ=>∃v,σ=[v]) (λx=>!okS x) id ⟨none,rfl⟩ q ?_ ?_
  ·rintro x hx σ H5 R1 R2 ⟨v,rfl⟩ sm k1 k2
   obtain⟨c,hc,rfl⟩:=zC.mp hx;walk_at "a";rw[abr,<-aeg];cases ho:okS (V.str ⟨#[c]⟩)
   ·exact k1 (by rw[ho];rfl) _ _ ⟨_,rfl⟩ (same_refl _)
   ·exact k2 (by rw[ho];rfl) _ _ ⟨_,rfl⟩ (same_refl _)
  intro Da H' hD sm e;refine⟨zQ _,λp hp=>QD ((fO hp) _ _ e) fL (Vf _ _) ?_⟩;rw[WL aeg,show(z.cps.toList.all λc=>decide (97<=c) && decide (c<=122))=decide (Nm z)from YX n1 n2];exact k _ (sm.trans (fO hp))
noncomputable def aci(K:Fg_):List V->Hp->VK->Prop:=λxs H Q=>∃(a:Addr)(ns:List Int),xs=[.ref a]/\SqL K H a (ns.map V.int)/\ns.length<=4000/\∀l S n,H l=none->n<=ns.length->(n=ns.length↔ns.Nodup)->Q (.ref l) (upd H l (.set S n))
theorem Wu:∀(ns acc:List Int),(ns.foldl step_dedup acc).length<=acc.length+ns.length
 |[],acc=>ze _
 |n::ns,acc=>by
  rw[zzc];refine zF (Wu ns _) ?_;rw[zy];unfold step_dedup;split
  ·lia
  ·rw[zm,yb];lia
theorem QL:∀(ns acc:List Int),(ns.foldl step_dedup acc).length=acc.length+ns.length↔(ns.Nodup/\∀x∈ns,x∉acc)
 |[],acc=>⟨λ_=>⟨.nil,λ_ h=>(zg h).elim⟩,λ_=>rfl⟩
 |n::ns,acc=>by
  rw[zzc,zy,yQ]
  have ha:(acc.any λx=>x==n)=true↔n∈acc:=by
   rw[List.any_eq_true];exact⟨fun⟨x,q,e⟩=>(show x=n by simpa using e)▸q,λh=>⟨n,h,by simp⟩⟩
  by_cases hm:n∈acc
  ·have e:step_dedup acc n=acc:=by unfold step_dedup;rw[zp (ha.mpr hm)]
   rw[e];have:=Wu ns acc;exact⟨λh=>by lia,λh=>absurd hm (h.2 n zi)⟩
  ·have e:step_dedup acc n=acc++[n]:=by unfold step_dedup;rw[zk λz=>hm (ha.mp z)]
   have ih:=QL ns (acc++[n]);rw[zm,yb]at ih;rw[e,show acc.length+(ns.length+1)=acc.length+1+ns.length by lia,ih];constructor
   ·rintro⟨h1,h2⟩
    exact⟨⟨λh=>h2 n h (zM _ zi),h1⟩,λx q=>(zh.mp q).elim (λe=>e▸hm) λq hy=>h2 x q (yB _ hy)⟩
   ·rintro⟨⟨h1,h2⟩,h3⟩
    exact⟨h2,λx q hy=>(zG.mp hy).elim (h3 x (zr _ q)) λhy=>h1 (zJ.mp hy▸q)⟩
def Ww{X:Cx}(hc:X.calm=true):lX X (.type "set") (aci X.K):=by
 intro pins s σ H xs us Q I r h;obtain⟨a,ns,rfl,hq,hl,q⟩:=h;obtain⟨u,rfl,r1⟩:=vals1 r;cases r1;obtain⟨its,rv,pl,hz⟩:=I.list hq;have hi:IntsAre its ns:=intsAre_of rv;have l1:=rv.length;rw[za]at l1;refine call_set_list (I.ok.hd hc) pl.isList hi (by rw[zn,<-l1];show ns.length+1<4096;lia) λh' tk z hk=>?_;rw[show its.toArray.size=ns.length by rw[zn,l1]]at z;unfold firstMet at z;rw[aam]at z;refine⟨.ref s.heap.objs.size,_,I.laid (t':=tk) (o:=.set _ _) (λb o e=>hk b o (zu e) e) (ze _) z,rfl,q _ _ _ (I.hok.fresh (ze _)) ?_ ?_⟩
 ·have:=Wu ns []
  simpa using this
 ·have:=QL ns []
  simpa using this
def Rp{X:Cx}{K:Fg_}(z:X.calm=true)(q:X.K=K:=by rfl):lX X (.type "set") (aci K):=q▸Ww z
def Te{X:Cx}{f:Value->Value->Sem Value}{z R2:R2}(a:OpR X f z)(b:OpR X f R2):OpR X f (λx y H Q=>z x y H Q\/R2 x y H Q):=by
 intro pins s σ H x y v u Q I rx q h;rcases h with h|h
 ·exact a _ _ _ _ _ _ _ _ _ I rx q h
 ·exact b _ _ _ _ _ _ _ _ _ I rx q h
def iw{z:Str}{i:Int}(h:val z=.int i):jN z=true/\gK z=i/\0<=i:=by
 by_cases hn:jN z=true
 ·obtain⟨m,_,_,e1,q⟩:=xj hn
  rw[q]at h;injection h with h
  exact⟨hn,by rw[e1,h],by lia⟩
 ·rw[Fp hn]at h
  cases h
def iM{z:Str}(h:0<=gK z):val z=.int (gK z):=by
 by_cases hn:jN z=true
 ·obtain⟨m,_,_,e1,q⟩:=xj hn
  rw[e1,q]
 ·rw[Cd hn]at h
  exact absurd h (by decide)
def YG{z:Str}(h:0<=gK z):jN z=true:=(iw (iM h)).1
def QS:gK (Str.ofString "")= -1:=Cd (by unfold jN;rw[zB (λc=>c rfl)];exact zw)
def Qy(z:Str):((jx z).2.1=Str.ofString "" /\(jx z).2.2=Str.ofString "")\/(jx z).2.1=Str.ofString ":" :=by
 unfold jx Txt.partition;split
 ·exact .inr rfl
 ·exact .inl ⟨Fg rfl,Fg rfl⟩
def RG{z:Str}(h:(jx z).2.1≠Str.ofString ""):(jx z).2.1=Str.ofString ":" :=(Qy z).resolve_left λc=>h c.1
noncomputable def GD(z:Str):Prop:=(jx z).2.1≠Str.ofString "" /\(0<=gK (jx z).1/\gK (jx z).1<=1000000)/\1<=gK (jx z).2.2/\gK (jx z).2.2<=1000000000
def GD.v{z:Str}(h:GD z):Gr z=(.int (gK (jx z).1),.int (gK (jx z).2.2)):=by
 unfold Gr;rw[iM h.2.1.1,iM (show 0<=gK (jx z).2.2 by have:=h.2.2.1;lia)]
def UL{z:Str}(h:0<=gK z):1<=z.length:=yK λe=>by
 rw[Fg e,QS]at h;exact absurd h (by decide)
def GD.len{z:Str}(h:GD z):3<=z.length:=by
 have e:=congrArg Str.length (zz0 z (Str.ofString ":"));rw[str_len,str_len]at e;have h1:=RG h.1;have h2:=UL h.2.1.1;have q:=UL (z:=(jx z).2.2) (by have:=h.2.2.1;lia);have h4:(Str.ofString ":").length=1:=by decide+kernel
 unfold jx at h1 h2 q;rw[h1,h4]at e;lia
def Qt{z:Str}{a b p:Int}(h:Gr z=(.int a,.int b))(ha:0<=a/\a<=1000000)(hb:1<=b/\b<=p)(hp:p<=1000000000):GD z:=by
 unfold Gr at h;injection h with h1 h2
 obtain⟨_,e1,_⟩:=iw h1;obtain⟨_,q,_⟩:=iw h2;refine⟨λc=>?_,by rw[e1];exact ha,by rw[q];lia⟩;rcases Qy z with c|c2
 ·rw[c.2,QS]at q
  lia
 ·rw[c2]at c
  exact absurd c (by decide+kernel)
theorem Qc:∀{ws:List Str},(∀z∈ws,GD z)->3*ws.length<=(ws.map (·.length)).sum
 |[],_=>zQ _
 |z::ws,h=>by
  have h1:=(h z zi).len;have h2:=Qc λy q=>h y (zr _ q);rw[zj,yY,zy];lia
noncomputable def adG(H:Hp):V->V
 |.ref a=>match H a with
  |some (.tup [x,_])=>x
  |_=> .non
 |_=> .non
def Uu{H:Hp}{r:Addr×Int×Int}(h:H r.1=some (.tup [.int r.2.1,.int r.2.2])):adG H (.ref r.1)=.int r.2.1:=by
 show(match H r.1 with|some (.tup [x,_])=>x|_=> .non)=_;rw[h]
def Tc{H:Hp}{rs:Rs}(h:Gw H rs):(refs rs).map (adG H)=rs.map λr=>V.int r.2.1:=by
 unfold refs;rw[zP];exact zzq λr q=>Uu (h r q)
noncomputable def Xe(r:Addr×Int×Int):V×V:=(.int r.2.1,.int r.2.2)
theorem Zu:∀{rs rs':Rs},rs.map Xe=rs'.map Xe->rs.map (·.2)=rs'.map (·.2)
 |[],[],_=>rfl
 |[],_::_,h=>by cases h
 |_::_,[],h=>by cases h
 |r::rs,r'::rs',h=>by
  rw[zj,zj]at h;injection h with h1 h2
  injection h1 with h3 h4
  injection h3 with h3
  injection h4 with h4
  rw[zj,zj,Zu h2,Prod.ext h3 h4]
theorem YT:∀{rs:Rs},(∀r∈rs,1<=r.2.2)->∀{r},r∈rs->r.2.2<=(rs.map (·.2.2)).sum
 |[],_,_,h=>(zg h).elim
 |a::rs,h,r,q=>by
  have h1:=h a zi;have h2:∀x∈rs,1<=x.2.2:=λx z=>h x (zr _ z)
  have h3:0<=(rs.map (·.2.2)).sum:=by
   clear q h h1
   induction rs with
   |nil=>exact yye _
   |cons b rs ih=>
    have:=h2 b zi;have:=ih λx z=>h2 x (zr _ z);rw[zj,yY];lia
  rw[zj,yY];rcases zh.mp q with rfl|q
  ·lia
  ·have:=YT h2 q
   lia
noncomputable def Ko(K:Fg_):Sp:=λvs H Q _=>∃(q:Addr)(ws:List Str)(p:Int),vs=[.ref q,.int p]/\H q=some (.lst (ws.map V.str))/\(∀z∈ws,z.length<=1000000)/\(ws.map (·.length)).sum<=12000/\ws.length<=12000/\p<=1000000000/\
 (∀rs t H',Same H H'->ws.map Gr=rs.map Xe->DQ rs p->H' t=some (.tup (refs rs))->Gw H' rs->Q (.ref t) H')/\((∀rs,ws.map Gr=rs.map Xe->¬DQ rs p)->∀H',Same H H'->Q .non H')
def Lq(T:Txt w K mg A D):ji P w K mg base CX0 2 A.rn D.rn ["_law_words", "_law_pieces_here"] (Ko K):=by
 refine T.tK.F.okv jU λ_ _ _ _ H vs Q E hr h=>?_
 ·obtain⟨q,ws,p,rfl,hq,hz,ba,bd,hp,k,kN⟩:=h
  refine ⟨_,(fK (gn (i:=2) jU.nd rfl orl (iI fM))
   (fK (wj yw rfl (mQ (K:=K) (pv 0)) (gA (i:=3) jU.nd rfl orl)
    (fK (QQ (jV (K:=K) zT zz5 zz6 Dj (pvD 3) (fG fZ fM)) (wG (K:=K) (n:=3) rfl (gO (gA (i:=4) jU.nd rfl orl) (gO (gA (i:=5) jU.nd rfl orl) (gO (gA (i:=6) jU.nd rfl orl) nP)))))
    (fK (iB (PW.pt (nZ (fY (jT) (pvD 5) fZ (gk _)) (nZ (xM (Qx (WY) (WY) fH (pcg (lQ T) hr T.tJ (mV T) (pav 4 fM)) (fW jg fH fH))) (lY (xM (Qx (WY) (WY) fH (pcg (lQ T) hr T.tJ (mV T) (pav 6 fM)) (fW jg fH fH))))))) (fQ (gj jJ)) gm)
    (fQ (gU (jV (K:=K) zY z9 ya mj (pvD 2) (fG (ju (fG (iy Bw (by rfl) T.tT (by decide+kernel) (pav 4 fM)) (fG (iy Bw (by rfl) T.tT (by decide+kernel) (pav 6 fM)) fM))) fM)))))))
   (fK (iB (PW.pt (nZ (fY (xX) (gw Ub (by rfl) T.tS (by decide+kernel) (fG (iy (Rp (K:=K) rfl) (by rfl) T.ud (by decide+kernel) (fG (jA (cap:=[none,none]) (N':=["_law_lot", "_law_some"]) rfl (by walk_at "c") (mQ (K:=K) (pv 2)) (λ_ _ _ _=>(wG (K:=K) (n:=2) rfl (gO (gA (i:=0) (show(["_law_lot", "_law_some"]:List Str).Nodup from by decide+kernel) rfl orl orr) (gO (gA (i:=1) (show(["_law_lot", "_law_some"]:List Str).Nodup from by decide+kernel) rfl orl orr) nP)))) (λ_ _ _ _=>jD) (λ_ _ _ _=>(pvD 0))) fM)) fM)) (gw (gW (K:=K)) (by rfl) T.tS (by decide+kernel) (pav 2 fM)) (gk _)) (lY (fY (Hh) (gw (Nf (K:=K) rfl) (by rfl) T.uc (by decide+kernel) (fG (jA (cap:=[none,none]) (N':=["_law_lot", "_law_some"]) rfl (by walk_at "c") (mQ (K:=K) (pv 2)) (λ_ _ _ _=>(wG (K:=K) (n:=2) rfl (gO (gA (i:=0) (show(["_law_lot", "_law_some"]:List Str).Nodup from by decide+kernel) rfl orl orr) (gO (gA (i:=1) (show(["_law_lot", "_law_some"]:List Str).Nodup from by decide+kernel) rfl orl orr) nP)))) (λ_ _ _ _=>jD) (λ_ _ _ _=>(pvD 1))) fM)) (pvD 1) (gk _))))) (fQ (gj jJ)) gm)
   (fQ (gj (iy (pL (K:=K)) (by rfl) T.tY (by decide+kernel) (pav 2 fM))))))),?_⟩
  simp only[start_eq];walk_at "n";refine⟨zQ _,λD hD=>?_⟩;have nD:=fO (o:=.lst []) hD;have as:upd H D (.lst []) D=some (.lst (refs [])):=fL
  (try dsimp only)
  refine jY λu hu=>?_;rw[ap_seq];refine Eg λtb ao=>?_;rw[ap_for];walk_at "i";refine⟨⟨_,fU (nD _ _ hq)⟩,?_⟩
  refine Dr.listN (K:=K) (a:=q) (xs:=ws.map V.str) (λi σ Hx=>(∃v3 v4 v5 v6,σ=[some (.ref q),some (.int p),some (.ref D),v3,v4,v5,v6])/\Same H Hx/\∃rs:Rs,Hx D=some (.lst (refs rs))/\Gw Hx rs/\(ws.take i).map Gr=rs.map Xe/\(∀z∈ws.take i,GD z))
   ⟨⟨_,_,_,_,rfl⟩,nD,[],as,(λr hr=>(zg hr).elim),rfl,(λr hr=>(zg hr).elim)⟩ (λi σ Hx _ h=>fU (h.2.1 _ _ hq)) ?_ ?_
  ·rintro i x σ Hx hx ⟨⟨v3,v4,v5,v6,rfl⟩,sx,rs,ac,ad,hm,ho⟩ N hN
   subst ao;obtain⟨z,af,rfl⟩:=BK hx;walk_at "n";have az:=zb af;obtain⟨l1,l2⟩:=Iu z;have aj:=hz z az;have be:i<ws.length:=(zv.mp af).1
   have ae:¬GD z->Q .non Hx:=λhb=>kN (λaa e hg=>by
    have e1:(aa.map Xe)[i]? =some (Gr z):=by rw[<-e,zE,af];rfl
    obtain⟨r,hr,er⟩:=BK e1;obtain⟨b0,b1,b2,b3⟩:=hg.b r (zb hr);exact hb (Qt er ⟨b0,b1⟩ ⟨b2,b3⟩ hp)) Hx sx
   refine⟨rfl,by decide+kernel,aj,λp1 aq=>⟨_,iD fL,rfl,_,_,rfl,_,_,rfl,_,_,rfl,rfl,?_⟩⟩;have n1:=fO (o:=.tup [V.str (jx z).1,V.str (jx z).2.1,V.str (jx z).2.2]) aq
   have ae:∀H',Same Hx H'->¬GD z->Q .non H':=λH' s' hb=>kN (λaa e hg=>by
    have e1:(aa.map Xe)[i]? =some (Gr z):=by rw[<-e,zE,af];rfl
    obtain⟨r,hr,er⟩:=BK e1;obtain⟨b0,b1,b2,b3⟩:=hg.b r (zb hr);exact hb (Qt er ⟨b0,b1⟩ ⟨b2,b3⟩ hp)) H' (sx.trans s')
   generalize upd Hx p1 _=H1 at n1⊢;walk_at "n";by_cases c0:(jx z).2.1=Str.ofString ""
   ·rw[zp c0]
    exact ae _ n1 λo=>o.1 c0
   rw[zk c0];refine⟨_,rfl,zF l1 aj,λH2 s2=>⟨_,rfl,?_⟩⟩;by_cases c1:0<=gK (jx z).1
   rotate_left
   ·rw[zk c1]
    exact ae _ (n1.trans s2) λo=>c1 o.2.1.1
   rw[zp c1];refine⟨⟨by decide,by decide,by decide⟩,_,rfl,?_⟩;rw[e6];by_cases c2:gK (jx z).1<=1000000
   rotate_left
   ·rw[zp c2]
    exact ae _ (n1.trans s2) λo=>c2 o.2.1.2
   rw[zk (λq=>q c2)];refine⟨_,rfl,zF l2 aj,λH3 s3=>⟨_,rfl,?_⟩⟩;have S3:=n1.trans (s2.trans s3);by_cases c3:1<=gK (jx z).2.2
   rotate_left
   ·rw[zk c3]
    exact ae _ S3 λo=>c3 o.2.2.1
   rw[zp c3];refine⟨⟨by decide,by decide,by decide⟩,_,rfl,?_⟩;rw[e9];by_cases c4:gK (jx z).2.2<=1000000000
   rotate_left
   ·rw[zp c4]
    exact ae _ S3 λo=>c4 o.2.2.2
   rw[zk (λq=>q c4)];have ok:GD z:=⟨c0,⟨c1,c2⟩,c3,c4⟩;obtain⟨m1,ar,ax,ap,_⟩:=xj (YG c1);obtain⟨m2,ay,au,aw,_⟩:=xj (YG (z:=(jx z).2.2) (by lia));walk_at "i";have am:=S3 _ _ ac
   have bc:rs.length<=12000:=by
    have:=congrArg List.length hm;rw[za,za,zx]at this;lia
   refine⟨.inl ⟨rfl,_,fU am⟩,m1,by rw[<-ar],by lia,ax,m2,by rw[<-ay],by lia,au,sz,λt ht=>?_⟩;have n4:=fO (o:=.tup [V.int m1,V.int m2]) ht;have ab:=n4 _ _ am;refine⟨_,ab,by rw[jL,zc];lia,?_⟩;refine hN _ _ ⟨⟨_,_,_,_,rfl⟩,((sx.trans S3).trans n4).upd hD,rs++[(t,(m1:Int),(m2:Int))],?_,λr hr=>?_,?_,λy hy=>?_⟩
   ·rw[fL]
    unfold refs;rw[zo];rfl
   ·have key:upd H3 t (.tup [V.int m1,V.int m2]) r.1=some (.tup [V.int r.2.1,V.int r.2.2]):=by
     rcases zG.mp hr with hr|hr
     ·exact n4 _ _ (S3 _ _ (ad r hr))
     ·rw[zJ.mp hr]
      exact fL
    exact(fX λe=>by rw[e,ab]at key;cases key).trans key
   ·rw[yq,af,zo,zo,hm]
    show _++[Gr z]=_;rw[ok.v,ap,aw];rfl
   ·rw[yq,af]at hy
    rcases zG.mp hy with hy|hy
    ·exact ho y hy
    ·rw[show y=z from zJ.mp hy]
     exact ok
  ·rintro σ Hx ⟨⟨v3,v4,v5,v6,rfl⟩,sx,rs,ac,ad,hm,ho⟩
   subst hu;rw[za,zzn]at hm ho
   have bh:ws.length=rs.length:=by
    have:=congrArg List.length hm;rw[za,za]at this;exact this
   have bb:=Qc ho;walk_at "n";refine⟨⟨_,fU ac⟩,?_⟩;refine jC.list (K:=K) (xs:=refs rs) (λσ=>∃a b,σ=[a,b]) (λ_=>true) (adG Hx) (fU ac) ⟨_,_,rfl⟩ (by rw[jL,zc];lia) ?_ ?_
   ·rintro x hx σ H5 R1 R2 ⟨v,v',rfl⟩ sm k1 k2
    obtain⟨r,ag,rfl⟩:=zC.mp hx;walk_at "a";refine⟨_,iD (sm _ _ (ad r ag)),rfl,_,_,rfl,_,_,rfl,rfl,?_⟩;have:=k1 rfl [some (V.int r.2.1),some (V.int r.2.2)] H5 ⟨_,_,rfl⟩ (same_refl _);rw[Uu (ad r ag)]at this;exact this
   intro Da H2 bf sm e;rw[lu,Tc ad]at e;refine⟨Da,rs.map (·.2.1),rfl,fU (by rw[e,zP];rfl),by rw[za];lia,λl S n hl av ak=>?_⟩;have sl:=fO (o:=.set S n) hl;refine⟨l,S,n,rfl,fL,_,.inl (fU (sl _ _ (sm _ _ ac))),_,rfl,?_⟩;rw[jL];rw[za]at av ak;have S4:=sx.trans (sm.trans sl);have ab:=(sm.trans sl) _ _ ac;have ah:=ad.same (sm.trans sl);generalize upd H2 l _=H4 at S4 ab ah⊢;have ai:∀aa:Rs,ws.map Gr=aa.map Xe->aa.map (·.2)=rs.map (·.2):=λaa e'=>Zu (e'.symm.trans hm);by_cases an:n=rs.length
   rotate_left
   ·rw[zp (by lia)]
    refine kN (λaa e' hg=>an (ak.mpr ?_)) H4 S4;have:=ai aa e'
    have e2:rs.map (·.2.1)=aa.map (·.2.1):=by
     have:=congrArg (List.map Prod.fst) this;rw[zP,zP]at this;exact this.symm
    rw[e2];exact hg.u
   rw[zk (by lia)];refine⟨⟨_,fU ab⟩,?_⟩;refine jC.list (K:=K) (xs:=refs rs) (λσ=>∃a b,σ=[a,b]) (λ_=>true) (secs H4) (fU ab) ⟨_,_,rfl⟩ (by rw[jL,zc];lia) ?_ ?_
   ·rintro x hx σ H5 R1 R2 ⟨v,v',rfl⟩ sm k1 k2
    obtain⟨r,ag,rfl⟩:=zC.mp hx;walk_at "a";refine⟨_,iD (sm _ _ (ah r ag)),rfl,_,_,rfl,_,_,rfl,rfl,?_⟩;have:=k1 rfl [some (V.int r.2.1),some (V.int r.2.2)] H5 ⟨_,_,rfl⟩ (same_refl _);rw[Oc (ah r ag)]at this;exact this
   intro Db H5 bg s5 e5;rw[lu,Mm ah]at e5;walk_at "i";refine⟨rs.map (·.2.2),fU (by rw[e5,zP];rfl),?_⟩;by_cases hs:(rs.map (·.2.2)).sum=p
   rotate_left
   ·rw[zp hs]
    refine kN (λaa e' hg=>hs ?_) H5 (S4.trans s5);have:=congrArg (List.map Prod.snd) (ai aa e');rw[zP,zP]at this;exact(congrArg List.sum this).symm.trans hg.s
   rw[zk (λq=>q hs)]
   have hb:∀r∈rs,(0<=r.2.1/\r.2.1<=1000000)/\1<=r.2.2:=λr hr=>by
    have h1:Xe r∈ws.map Gr:=by rw[hm];exact y3 hr
    obtain⟨y,hy,e1⟩:=zC.mp h1;have h2:=ho y hy;rw[h2.v]at e1;injection e1 with e2 e3
    injection e2 with e2
    injection e3 with e3
    rw[<-e2,<-e3];exact⟨h2.2.1,h2.2.2.1⟩
   exact⟨_,.inl ⟨fU (s5 _ _ ab),λl2 al=>k rs l2 _ (S4.trans (s5.trans (fO al))) hm ⟨by lia,λr hr=>⟨(hb r hr).1.1,(hb r hr).1.2,(hb r hr).2,by rw[<-hs];exact YT (λx hx=>(hb x hx).2) hr⟩,ak.mp an,hs⟩ fL ((ah.same s5).same (fO al))⟩⟩
noncomputable def Wth(ns:List Int)(rg:Rs):Prop:=ns.length=rg.length/\∀(i:Nat) n r,ns[i]? =some n->rg[i]? =some r->r.2.1<=n/\n<=r.2.2
def Yo{rs:Rs}{i:Nat}{y:V}(h:(refs rs)[i]? =some y):∃r,rs[i]? =some r/\y=.ref r.1:=by
 unfold refs at h;exact BK h
noncomputable def Gx(K:Fg_):Sp:=λvs H Q _=>∃(p q:Addr)(ns:List Int)(rg:Rs),vs=[.ref p,.ref q]/\H p=some (.lst (ns.map V.int))/\H q=some (.lst (refs rg))/\Gw H rg/\ns.length<=100/\rg.length<=100/\
 (Wth ns rg->∀H',Same H H'->Q (.bl true) H')/\(¬Wth ns rg->∀H',Same H H'->Q (.bl false) H')
def xQ(T:Txt w K mg A D):ji P w K mg base CX0 1 A.rq D.rq ["_law_numbers", "_law_ranges"] (Gx K):=by
 refine T.tM.F.okv oV λ_ _ _ _ H vs Q E hr h=>?_
 ·obtain⟨p,q,ns,rg,rfl,hp,hq,hL,hn,hg,k,kN⟩:=h
  refine ⟨_,(fK (iB (fY (Hh) (gw (gW (K:=K)) (by rfl) T.tS (by decide+kernel) (pav 0 fM)) (gw (gW (K:=K)) (by rfl) T.tS (by decide+kernel) (pav 1 fM)) (gk _)) (fQ (gj Gz)) gm)
   (fK (wj yw rfl (abg (K:=K) (by rfl) T.ue (pav 0 (pav 1 fM))) (wG (K:=K) (n:=2) rfl (gO (gA (i:=2) oV.nd rfl orl) (gO (gA (i:=3) oV.nd rfl orl) nP)))
    (fQ (iB (PW.pt (nZ (fY (xX) (pvD 2) (gF (jP (K:=K)) (pvD 3) fH (λ_ _=>rfl)) (gk _)) (lY (fY (xu) (pvD 2) (gF (jP (K:=K)) (pvD 3) fH (λ_ _=>rfl)) (gk _))))) (fQ (gj Gz)) gm)))
   (fQ (gj Gz)))),?_⟩
  simp only[start_eq];walk_at "n";refine⟨_,.inl (fU hp),_,.inl (fU hq),?_⟩;rw[za,jL];by_cases z:ns.length=rg.length
  rotate_left
  ·rw[zp (by lia)]
   exact kN (λw=>z w.1) H (same_refl H)
  rw[zk (by lia)]
  (try dsimp only)
  refine jY λu hu=>?_;rw[ap_seq];refine Eg λtb ac=>?_;rw[ap_for];walk_at "i";refine⟨⟨_,fU hp⟩,⟨_,fU hq⟩,?_⟩;refine Dr.zipN (K:=K) (a:=p) (b:=q) (xs:=ns.map V.int) (ys:=refs rg) (λi σ Hx=>(∃v2 v3,σ=[some (.ref p),some (.ref q),v2,v3])/\Same H Hx/\∀(j:Nat) n r,j<i->ns[j]? =some n->rg[j]? =some r->r.2.1<=n/\n<=r.2.2) (by rw[za,jL,z]) ⟨⟨_,_,rfl⟩,same_refl _,λj n r h=>absurd h (Nat.not_lt_zero _)⟩ (λi σ Hx _ h=>⟨fU (h.2.1 _ _ hp),fU (h.2.1 _ _ hq)⟩) ?_ ?_
  ·rintro i x y σ Hx pp hx hy ⟨⟨v2,v3,rfl⟩,sx,hb⟩ ad N hN
   subst ac;obtain⟨n,ab,rfl⟩:=BK hx;obtain⟨r,aa,rfl⟩:=Yo hy;walk_at "i";have n1:=fO (o:=.tup [V.int n,V.ref r.1]) ad;have hr':=n1 _ _ (sx _ _ (hL r (zb aa)));refine⟨_,iD fL,rfl,_,_,rfl,_,_,rfl,rfl,_,rfl,_,iD hr',_,gR (j:=0) rfl,_,rfl,_,rfl,?_⟩;generalize upd Hx pp _=H1 at n1 hr'⊢;by_cases c1:n<r.2.1
   ·rw[zp c1]
    exact kN (λw=>by have:=w.2 i n r ab aa;lia) H1 (sx.trans n1)
   rw[zk c1];refine⟨_,rfl,_,iD hr',_,gR (j:=1) rfl,_,rfl,_,rfl,?_⟩;by_cases c2:r.2.2<n
   ·rw[zp c2]
    exact kN (λw=>by have:=w.2 i n r ab aa;lia) H1 (sx.trans n1)
   rw[zk c2];refine hN _ _ ⟨⟨_,_,rfl⟩,sx.trans n1,λj n' r' hj h1 h2=>?_⟩;by_cases e:j=i
   ·subst e
    rw[ab]at h1;rw[aa]at h2;cases h1;cases h2;lia
   ·exact hb j n' r' (by lia) h1 h2
  ·rintro σ Hx ⟨⟨v2,v3,rfl⟩,sx,hb⟩
   subst hu;walk_at "a";exact k ⟨z,λj n r h1 h2=>hb j n r (by rw[za];exact(zv.mp h1).1) h1 h2⟩ Hx sx
def pU{z y:Str}(h:val z=.str y):y=z:=by
 by_cases hn:jN z=true
 ·obtain⟨m,_,_,_,q⟩:=xj hn
  rw[q]at h;cases h
 ·rw[Fp hn]at h
  injection h with h
  exact h.symm
noncomputable def JZ:List Int->List (Int×Int)->Prop
 |[],[]=>True
 |n::ns,r::rg=>(r.1<=n/\n<=r.2)/\JZ ns rg
 |_,_=>False
theorem Iw:∀{ns:List Int}{rg:Rs},Wth ns rg↔JZ ns (rg.map (·.2))
 |[],[]=>⟨λ_=>True.intro,λ_=>⟨rfl,λi n r h=>by simp at h⟩⟩
 |[],_::_=>⟨λh=>(nomatch h.1),λh=>False.elim h⟩
 |_::_,[]=>⟨λh=>(nomatch h.1),λh=>False.elim h⟩
 |n::ns,r::rg=>by
  have ih:=Iw (ns:=ns) (rg:=rg);constructor
  ·rintro⟨h1,h2⟩
   exact⟨h2 0 n r rfl rfl,ih.mp ⟨Nat.succ.inj h1,λi m s z q=>h2 (i+1) m s z q⟩⟩
  ·rintro⟨h1,h2⟩
   obtain⟨h3,h4⟩:=ih.mpr h2;refine⟨congrArg Nat.succ h3,λi m s z q=>?_⟩
   cases i with
   |zero=>cases z;cases q;exact h1
   |succ i=>exact h4 i m s z q
theorem lB:∀{ns:List Int}{rg:List (Int×Int)},JZ ns rg->ns.length=rg.length
 |[],[],_=>rfl
 |[],_::_,h=>False.elim h
 |_::_,[],h=>False.elim h
 |n::ns,r::rg,h=>congrArg Nat.succ (lB h.2)
structure Kx where
 wd:Str
 pt:Bool
 lot:Bool
 rg:Int->List (Int×Int)
noncomputable def trd:List (Int×Int):=[(1,1000000000),(0,1000000000),(0,1000000000)]
noncomputable def kxs:List Kx:=[⟨"buy",false,false,λ_=>trd⟩,⟨"sell",false,true,λ_=>trd⟩,⟨"gift",false,false,λd=>[(1,1000000000),(0,1000000000000000000),(0,d)]⟩,⟨"give",false,true,λ_=>[(1,1000000000)]⟩,⟨"split",false,false,λ_=>[(1,1000),(1,1000)]⟩,⟨"part",true,false,λ_=>[(0,1000000),(1,1000000)]⟩]
noncomputable def Kx.rest(x:Kx)(rest:List Str):List Str:=if x.pt then rest.tail else rest
noncomputable def Kx.ns(x:Kx)(d:Int)(rest:List Str):List Int:=((x.rest rest).take (x.rg d).length).map gK
structure adN(a b w:Str)(rest:List Str)(x:Kx)(o:Option Rs):Prop where
 hw:Nm w
 ha:0<=gK a/\gK a<=1000000
 hb:0<=gK b/\gK b<=1000000
 hu:x.pt=true->∃u r,rest=u::r/\Nm u/\u≠w
 hn:JZ (x.ns (gK a) rest) (x.rg (gK a))
 hp:x.pt=true->(x.ns (gK a) rest).getD 0 0<=(x.ns (gK a) rest).getD 1 0
 hm:x.lot=false->(x.rest rest).length<=(x.rg (gK a)).length/\o=none
 hl:x.lot=true->Rj ((x.rest rest).drop (x.rg (gK a)).length) (wO o)/\GQ ((x.ns (gK a) rest).getD 0 0) o
def abU{α:Type}{l:List α}(h:l.length=3):∃a b c,l=[a,b,c]:=by
 match l,h with
 |[a,b,c],_=>exact⟨a,b,c,rfl⟩
def acR{α:Type}{l:List α}(h:l.length=2):∃a b,l=[a,b]:=by
 match l,h with
 |[a,b],_=>exact⟨a,b,rfl⟩
def acd{α:Type}{l:List α}(h:3<=l.length):∃a b c r,l=a::b::c::r:=by
 match l,h with
 |a::b::c::r,_=>exact⟨a,b,c,r,rfl⟩
def adn{α:Type}{l:List α}(h:4<=l.length):∃a b c d r,l=a::b::c::d::r:=by
 match l,h with
 |a::b::c::d::r,_=>exact⟨a,b,c,d,r,rfl⟩
def Oi{a b k w:Str}{rest:List Str}{e:Ent}(h:lW (a::b::k::w::rest) e):∃x∈kxs,x.wd=k/\adN a b w rest x e.lots:=by
 obtain⟨kd,⟨hk,h2,hl,hn⟩,hi,⟨nl,ha⟩,hL,hg⟩:=h;have aa:k=kd.wd:=zt h2;have hb:=wC hg;have d0:=hb.d0;have d1:=hb.d1;have n0:=hb.n0;have n1:=hb.n1;have nw:=hb.w
 simp only[kinds,zh,zg,or_false]at hk;rcases hk with rfl|rfl|rfl|rfl|rfl|rfl
 ·obtain⟨d,n,w',p,r,f,rfl⟩:=La hi
  obtain⟨wp,wr,wf,rfl⟩:=abU (l:=rest) (by have:=hn rfl;simpa using this);have ha:[val a,val b,val w,val wp,val wr,val wf]++[]=[V.int d,.int n,.str w',.int p,.int r,.int f]:=ha;simp only[z0,yS,and_true]at ha;obtain⟨ea,q,ew,ep,er,ef⟩:=ha;have ew:=pU ew;subst ew;obtain⟨_,ea,_⟩:=iw ea;obtain⟨_,q,_⟩:=iw q;obtain⟨_,ep,_⟩:=iw ep;obtain⟨_,er,_⟩:=iw er;obtain⟨_,ef,_⟩:=iw ef;obtain⟨_,q1,q2,q3⟩:=hg;refine⟨⟨"buy",false,false,λ_=>trd⟩,by simp[kxs],aa.symm,nw,by rw[ea];exact⟨d0,d1⟩,by rw[q];exact⟨n0,n1⟩,λz=>(nomatch z),?_,λz=>(nomatch z),λ_=>⟨ze _,rfl⟩,λz=>(nomatch z)⟩;show JZ [gK wp,gK wr,gK wf] trd;rw[ep,er,ef];exact⟨q1,q2,q3,True.intro⟩
 ·obtain⟨d,n,w',p,r,f,o,rfl⟩:=CW hi
  obtain⟨wp,wr,wf,ls,rfl⟩:=acd (l:=rest) (by simpa using hl);have ha:[val a,val b,val w,val wp,val wr,val wf]++[nl]=[V.int d,.int n,.str w',.int p,.int r,.int f,nl]:=ha;simp only[yy,yR,yS,and_true]at ha;obtain⟨ea,q,ew,ep,er,ef⟩:=ha;have ew:=pU ew;subst ew;obtain⟨_,ea,_⟩:=iw ea;obtain⟨_,q,_⟩:=iw q;obtain⟨_,ep,_⟩:=iw ep;obtain⟨_,er,_⟩:=iw er;obtain⟨_,ef,_⟩:=iw ef;obtain⟨_,q1,q2,q3,q4⟩:=hg;refine⟨⟨"sell",false,true,λ_=>trd⟩,by simp[kxs],aa.symm,nw,by rw[ea];exact⟨d0,d1⟩,by rw[q];exact⟨n0,n1⟩,λz=>(nomatch z),?_,λz=>(nomatch z),λz=>(nomatch z),λ_=>⟨hL,?_⟩⟩
  ·show JZ [gK wp,gK wr,gK wf] trd
   rw[ep,er,ef];exact⟨q1,q2,q3,True.intro⟩
  ·show GQ (gK wp) o
   rw[ep];exact q4
 ·obtain⟨d,n,w',p,c,s,rfl⟩:=Aq hi
  obtain⟨wp,wr,wf,rfl⟩:=abU (l:=rest) (by have:=hn rfl;simpa using this);have ha:[val a,val b,val w,val wp,val wr,val wf]++[]=[V.int d,.int n,.str w',.int p,.int c,.int s]:=ha;simp only[z0,yS,and_true]at ha;obtain⟨ea,q,ew,ep,er,ef⟩:=ha;have ew:=pU ew;subst ew;obtain⟨_,ea,_⟩:=iw ea;obtain⟨_,q,_⟩:=iw q;obtain⟨_,ep,_⟩:=iw ep;obtain⟨_,er,_⟩:=iw er;obtain⟨_,ef,_⟩:=iw ef;obtain⟨_,q1,q2,q3⟩:=hg;refine⟨⟨"gift",false,false,λd=>[(1,1000000000),(0,1000000000000000000),(0,d)]⟩,by simp[kxs],aa.symm,nw,by rw[ea];exact⟨d0,d1⟩,by rw[q];exact⟨n0,n1⟩,λz=>(nomatch z),?_,λz=>(nomatch z),λ_=>⟨ze _,rfl⟩,λz=>(nomatch z)⟩;show JZ [gK wp,gK wr,gK wf] [(1,1000000000),(0,1000000000000000000),(0,gK a)];rw[ep,er,ef,ea];exact⟨q1,q2,q3,True.intro⟩
 ·obtain⟨d,n,w',p,o,rfl⟩:=Cy hi
  obtain ⟨wp,ls,rfl⟩:∃wp ls,rest=wp::ls:=by
   cases rest with
   |nil=>exact absurd hl (by simp)
   |cons x l=>exact⟨x,l,rfl⟩
  have ha:[val a,val b,val w,val wp]++[nl]=[V.int d,.int n,.str w',.int p,nl]:=ha;simp only[yy,yR,yS,and_true]at ha;obtain⟨ea,q,ew,ep⟩:=ha;have ew:=pU ew;subst ew;obtain⟨_,ea,_⟩:=iw ea;obtain⟨_,q,_⟩:=iw q;obtain⟨_,ep,_⟩:=iw ep;obtain⟨_,q1,q4⟩:=hg;refine⟨⟨"give",false,true,λ_=>[(1,1000000000)]⟩,by simp[kxs],aa.symm,nw,by rw[ea];exact⟨d0,d1⟩,by rw[q];exact⟨n0,n1⟩,λz=>(nomatch z),?_,λz=>(nomatch z),λz=>(nomatch z),λ_=>⟨hL,?_⟩⟩
  ·show JZ [gK wp] [(1,1000000000)]
   rw[ep];exact⟨q1,True.intro⟩
  ·show GQ (gK wp) o
   rw[ep];exact q4
 ·obtain⟨d,n,w',m,f,rfl⟩:=of_split hi
  obtain⟨wp,wr,rfl⟩:=acR (l:=rest) (by have:=hn rfl;simpa using this);have ha:[val a,val b,val w,val wp,val wr]++[]=[V.int d,.int n,.str w',.int m,.int f]:=ha;simp only[z0,yS,and_true]at ha;obtain⟨ea,q,ew,ep,er⟩:=ha;have ew:=pU ew;subst ew;obtain⟨_,ea,_⟩:=iw ea;obtain⟨_,q,_⟩:=iw q;obtain⟨_,ep,_⟩:=iw ep;obtain⟨_,er,_⟩:=iw er;obtain⟨_,q1,q2⟩:=hg;refine⟨⟨"split",false,false,λ_=>[(1,1000),(1,1000)]⟩,by simp[kxs],aa.symm,nw,by rw[ea];exact⟨d0,d1⟩,by rw[q];exact⟨n0,n1⟩,λz=>(nomatch z),?_,λz=>(nomatch z),λ_=>⟨ze _,rfl⟩,λz=>(nomatch z)⟩;show JZ [gK wp,gK wr] [(1,1000),(1,1000)];rw[ep,er];exact⟨q1,q2,True.intro⟩
 ·obtain⟨d,n,w',u',s,t,rfl⟩:=wB hi
  obtain⟨wu,wr,wf,rfl⟩:=abU (l:=rest) (by have:=hn rfl;simpa using this);have ha:[val a,val b,val w,val wu,val wr,val wf]++[]=[V.int d,.int n,.str w',.str u',.int s,.int t]:=ha;simp only[z0,yS,and_true]at ha;obtain⟨ea,q,ew,eu,er,ef⟩:=ha;have ew:=pU ew;subst ew;have eu:=pU eu;subst eu;obtain⟨_,ea,_⟩:=iw ea;obtain⟨_,q,_⟩:=iw q;obtain⟨_,er,_⟩:=iw er;obtain⟨_,ef,_⟩:=iw ef;obtain⟨_,qu,qn,q1,q2⟩:=hg;refine⟨⟨"part",true,false,λ_=>[(0,1000000),(1,1000000)]⟩,by simp[kxs],aa.symm,nw,by rw[ea];exact⟨d0,d1⟩,by rw[q];exact⟨n0,n1⟩,λ_=>⟨_,_,rfl,qu,qn⟩,?_,λ_=>?_,λ_=>⟨ze _,rfl⟩,λz=>(nomatch z)⟩
  ·show JZ [gK wr,gK wf] [(0,1000000),(1,1000000)]
   rw[er,ef];exact⟨⟨q2.1,zza q2.2 q1.2⟩,q1,True.intro⟩
  ·show gK wr<=gK wf
   rw[er,ef];exact q2.2
noncomputable def Kx.told(x:Kx)(a b w:Str)(rest:List Str):List V:=[V.str x.wd,V.int (gK a),V.int (gK b),V.str w]++(if x.pt then[V.str (rest.headD (Str.ofString ""))]else[])++(x.ns (gK a) rest).map V.int
def take3{α:Type}{l:List α}(h:(l.take 3).length=3):3<=l.length:=by rw[zx]at h;lia
def YH{a b w:Str}{rest:List Str}{x:Kx}{o:Option Rs}(hx:x∈kxs)(h:adN a b w rest x o):∃e,lW (a::b::x.wd::w::rest) e/\e.lots=o/\∀nt,V.str e.word::e.args nt=x.told a b w rest++(if x.lot then[nt]else[]):=by
 obtain⟨hw,ha,hb,hu,hn,hp,hm,hl⟩:=h;have va:=iM ha.1;have vb:=iM hb.1;have vw:=Zn hw;have base:Base (gK a) (gK b) w:=⟨ha.1,ha.2,hb.1,hb.2,hw⟩;simp only[kxs,zh,zg,or_false]at hx;rcases hx with rfl|rfl|rfl|rfl|rfl|rfl
 ·obtain⟨aa,rfl⟩:=hm rfl
  have ab:rest.length<=3:=aa;have hn:JZ ((rest.take 3).map gK) trd:=hn;have hl:=lB hn;rw[za]at hl;obtain⟨p,r,f,rfl⟩:=abU (l:=rest) (by have:=take3 hl;lia);obtain⟨q,q2,q3,_⟩:=hn;refine⟨.buy (gK a) (gK b) w (gK p) (gK r) (gK f),⟨⟨"buy",6,Bo,false⟩,⟨by simp[kinds],rfl,ze _,λ_=>rfl⟩,rfl,⟨.non,?_⟩,rfl,⟨base,q,q2,q3⟩⟩,rfl,λ_=>rfl⟩;show[val a,val b,val w,val p,val r,val f]++[]=[V.int (gK a),.int (gK b),.str w,.int (gK p),.int (gK r),.int (gK f)];rw[va,vb,vw,iM (z:=p) (zza (by decide) q.1),iM (z:=r) q2.1,iM (z:=f) q3.1];rfl
 ·obtain⟨hl,hg⟩:=hl rfl
  have hn:JZ ((rest.take 3).map gK) trd:=hn;have ac:=lB hn;rw[za]at ac;obtain⟨p,r,f,ls,rfl⟩:=acd (l:=rest) (take3 ac);obtain⟨q,q2,q3,_⟩:=hn;refine⟨.sell (gK a) (gK b) w (gK p) (gK r) (gK f) o,⟨⟨"sell",6,oJ,true⟩,⟨by simp[kinds],rfl,Nat.le_add_left _ _,λz=>(nomatch z)⟩,rfl,⟨.non,?_⟩,hl,⟨base,q,q2,q3,hg⟩⟩,rfl,λ_=>rfl⟩;show[val a,val b,val w,val p,val r,val f]++[V.non]=[V.int (gK a),.int (gK b),.str w,.int (gK p),.int (gK r),.int (gK f),.non];rw[va,vb,vw,iM (z:=p) (zza (by decide) q.1),iM (z:=r) q2.1,iM (z:=f) q3.1];rfl
 ·obtain⟨aa,rfl⟩:=hm rfl
  have ab:rest.length<=3:=aa;have hn:JZ ((rest.take 3).map gK) [(1,1000000000),(0,1000000000000000000),(0,gK a)]:=hn;have hl:=lB hn;rw[za]at hl;obtain⟨p,r,f,rfl⟩:=abU (l:=rest) (by have:=take3 hl;lia);obtain⟨q,q2,q3,_⟩:=hn;refine⟨.gift (gK a) (gK b) w (gK p) (gK r) (gK f),⟨⟨"gift",6,pZ,false⟩,⟨by simp[kinds],rfl,ze _,λ_=>rfl⟩,rfl,⟨.non,?_⟩,rfl,⟨base,q,q2,q3⟩⟩,rfl,λ_=>rfl⟩;show[val a,val b,val w,val p,val r,val f]++[]=[V.int (gK a),.int (gK b),.str w,.int (gK p),.int (gK r),.int (gK f)];rw[va,vb,vw,iM (z:=p) (zza (by decide) q.1),iM (z:=r) q2.1,iM (z:=f) q3.1];rfl
 ·obtain⟨hl,hg⟩:=hl rfl
  have hn:JZ ((rest.take 1).map gK) [(1,1000000000)]:=hn
  obtain ⟨p,ls,rfl⟩:∃p ls,rest=p::ls:=by
   cases rest with
   |nil=>exact hn.elim
   |cons x l=>exact⟨x,l,rfl⟩
  obtain⟨q,_⟩:=hn;refine⟨.give (gK a) (gK b) w (gK p) o,⟨⟨"give",4,oR,true⟩,⟨by simp[kinds],rfl,Nat.le_add_left _ _,λz=>(nomatch z)⟩,rfl,⟨.non,?_⟩,hl,⟨base,q,hg⟩⟩,rfl,λ_=>rfl⟩;show[val a,val b,val w,val p]++[V.non]=[V.int (gK a),.int (gK b),.str w,.int (gK p),.non];rw[va,vb,vw,iM (z:=p) (zza (by decide) q.1)];rfl
 ·obtain⟨aa,rfl⟩:=hm rfl
  have ab:rest.length<=2:=aa;have hn:JZ ((rest.take 2).map gK) [(1,1000),(1,1000)]:=hn;have hl:((rest.take 2).map gK).length=2:=lB hn;rw[za,zx]at hl;obtain⟨p,r,rfl⟩:=acR (l:=rest) (by lia);obtain⟨q,q2,_⟩:=hn;refine⟨.split (gK a) (gK b) w (gK p) (gK r),⟨⟨"split",5,mU,false⟩,⟨by simp[kinds],rfl,ze _,λ_=>rfl⟩,rfl,⟨.non,?_⟩,rfl,⟨base,q,q2⟩⟩,rfl,λ_=>rfl⟩;show[val a,val b,val w,val p,val r]++[]=[V.int (gK a),.int (gK b),.str w,.int (gK p),.int (gK r)];rw[va,vb,vw,iM (z:=p) (zza (by decide) q.1),iM (z:=r) (zza (by decide) q2.1)];rfl
 ·obtain⟨aa,rfl⟩:=hm rfl
  obtain⟨u,rs,rfl,nu,ne⟩:=hu rfl;have ab:rs.length<=2:=aa;have hn:JZ ((rs.take 2).map gK) [(0,1000000),(1,1000000)]:=hn;have hl:((rs.take 2).map gK).length=2:=lB hn;rw[za,zx]at hl;obtain⟨p,r,rfl⟩:=acR (l:=rs) (by lia);obtain⟨q,q2,_⟩:=hn;have hp:gK p<=gK r:=hp rfl;refine⟨.part (gK a) (gK b) w u (gK p) (gK r),⟨⟨"part",6,pR,false⟩,⟨by simp[kinds],rfl,ze _,λ_=>rfl⟩,rfl,⟨.non,?_⟩,rfl,⟨base,nu,ne,q2,q.1,hp⟩⟩,rfl,λ_=>rfl⟩;show[val a,val b,val w,val u,val p,val r]++[]=[V.int (gK a),.int (gK b),.str w,.str u,.int (gK p),.int (gK r)];rw[va,vb,vw,Zn nu,iM (z:=p) q.1,iM (z:=r) (zza (by decide) q2.1)];rfl
noncomputable def Gy(K:Fg_):Sp:=λvs H Q _=>∃c l bs,vs=[.int c,.ref l]/\SqL K H l (bs.map V.int)/\(∀b∈bs,Jh 0 b)/\bs.length<=1000/\Wq H Q (Kc c bs)
noncomputable def Jg:Sp:=λvs H Q _=>∃(c k:Int),vs=[.int c,.int k]/\0<=k/\k<1000/\∀r:Int,Q (.int r) H
noncomputable def Jm(K:Fg_):Sp:=λvs H Q _=>∃(a:Addr)(ns:List Int),vs=[.ref a]/\SqL K H a (ns.map V.int)/\ns.length<=63/\∀p (cs:List Int) H',Same H H'->H p=none->H' p=some (.lst (cs.map V.int))->Q (.ref p) H'
def jK(T:Txt w K mg A D):ji P w K mg base CX0 1 A.qi D.qi ["_law_cell", "_law_bases"] (Gy K):=by
 refine T.r9.F.okv lR λ_ _ _ _ H vs Q E hr h=>?_
 ·obtain⟨c,l,bs,rfl,hS,hb,hl,k⟩:=h
  refine ⟨_,(fK (gn (i:=2) lR.nd rfl orl (iI fM))
   (fK (wj yw rfl (mQ (K:=K) (pv 1)) (gA (i:=3) lR.nd rfl orl)
    (fK (gU (jV (K:=K) zY z9 ya mj (pvD 2) (fG (fW gY (pvD 0) (pvD 3)) fM)))
    (fQ (gn (i:=0) lR.nd rfl orl (fW je (pvD 0) (pvD 3))))))
   (fQ (gj (pvD 2))))),?_⟩
  walk_at "a";refine⟨zQ _,λp hp=>?_⟩
  refine ⟨⟨_,(fO hp).seq hS⟩,wV (K:=K) (a:=l) (xs:=bs.map V.int) (λi σ H2=>∃v,σ=[some (.int (aaW c (bs.take i))),some (.ref l),some (.ref p),v]/\Same H H2/\H2 p=some (.lst ((Kc c (bs.take i)).map V.int)))
   ⟨none,rfl,fO hp,fL⟩ (λi σ H2 _ ⟨_,_,s2,_⟩=>s2.seq hS) ?_ ?_⟩
  ·rintro i y σ H2 hi ⟨v,rfl,s2,h2⟩
   obtain⟨b,rfl,q⟩:=Ou hi;have aa:i<bs.length:=(zv.mp q).1;have z:Jh 0 b:=hb b (zb q);have ht:bs.take (i+1)=bs.take i++[b]:=by rw[yq,q];rfl
   walk_at "a";refine⟨tyL (fU h2),z.1,_,h2,?_,z,by rw[ht,Kz],s2.upd hp,?_⟩
   ·rw[za,pI,zx]
    exact Vi (by lia)
   ·rw[fL,ht,Kl,zo]
    rfl
  ·rintro σ H2 ⟨v,rfl,s2,h2⟩
   rw[za,zzn]at h2;walk_at "a";exact k p H2 s2 hp h2
def BV(T:Txt w K mg A D):ji P w K mg base CX0 1 A.qp D.qp ["_law_cell", "_law_k"] Jg:=by
 refine T.sk.F.okv pQ λ_ _ _ _ H vs Q E hr h=>?_
 ·obtain⟨c,z,rfl,k0,k1,k⟩:=h
  refine ⟨_,(fK (gn (i:=2) pQ.nd rfl orl (fW gY (fW mJ (fW iz (fW iz (pvD 0) (fW mJ (fW mJ fH (pvD 1)) (pvD 1))) (pvD 1)) fH) fH))
   (fK (gn (i:=3) pQ.nd rfl orl (fW gY (fW mJ (pvD 2) fH) fH))
   (fQ (gj (fW mJ (fW mJ (pvD 2) (pvD 3)) (fW iz (fW iz (fW je (pvD 2) fH) (fW je (pvD 3) fH)) fH)))))),?_⟩
  walk_at "a";have q:∀j:Int,0<j->j.natAbs<2^64->∀i,Jh i j:=λj h0 h1 i=>⟨h0,WW h1 (by decide)⟩;refine⟨Ia (by decide) (by decide),Ia (by lia) (by lia),QT (by decide) (by decide),by decide,QT (by decide) (by decide),by decide,?_⟩;generalize hn:(c+7919*z*z+z)*982451653%2305843009213693951=n;have n0:0<=n:=by rw[<-hn];exact zI _ (by decide)
  have n1:n<2305843009213693951:=by rw[<-hn];exact zA _ (by decide)
  generalize ho:n*1000003%1152921504606846883=o;have o0:0<=o:=by rw[<-ho];exact zI _ (by decide)
  have o1:o<1152921504606846883:=by rw[<-ho];exact zA _ (by decide)
  refine⟨Ia (by lia) (by lia),q _ (by decide) (by decide) _,q _ (by decide) (by decide) _,QT (by lia) (by lia),k _⟩
def ints_of{acc:List V}(h:∀(i:Nat) v,acc[i]? =some v->∃r,v=V.int r):∃xs:List Int,acc=xs.map V.int:=by
 refine⟨acc.map toI,?_⟩;rw[zP];refine(QK λv hv=>?_).symm;obtain⟨j,z,q⟩:=yD hv;obtain⟨r,rfl⟩:=h j v (by rw[zD z,q]);rfl
def Jx(T:Txt w K mg A D):ji P w K mg base CX0 2 A.qq D.qq ["_law_script"] (Jm K):=by
 refine T.sq.F.okv mR λ_ _ _ _ H vs Q E hr h=>?_
 ·obtain⟨a,ns,rfl,hS,hl,k⟩:=h
  refine ⟨_,(fK (iB (PW.pt (Be (fY (xu) (gw (gW (K:=K)) (by rfl) T.tS (by decide+kernel) (pav 0 fM)) fH (gk _)) (wU (fY (jT) (fW gY (gF (fV (K:=K)) (pvD 0) fH (λ_ _=>rfl)) fH) fH (gk _))))) (fK (gn (i:=1) mR.nd rfl orl (gw (LQ rfl) (by rfl) T.tW (by decide+kernel) (fG (gw (Fi rfl) (by rfl) T.tU (by decide+kernel) (fG (gw (gW (K:=K)) (by rfl) T.tS (by decide+kernel) (pav 0 fM)) (fG fH fM))) (fG (fW iz fH (fW gY (fW je (gF (fV (K:=K)) (pvD 0) fH (λ_ _=>rfl)) fH) fH)) fM))))
    (fQ (gj (jA (cap:=[none,some 0]) (N':=["_law_k", "_law_script"]) rfl (by walk_at "c") (wY (by rfl) T.tX (pav 1 fM)) (λ_ _ _ _=>(gA (i:=0) (show(["_law_k", "_law_script"]:List Str).Nodup from by decide+kernel) rfl orl orr)) (λ_ _ _ _=>jD) (λ_ _ _ _=>(pcg (BV T) hr T.sk (Dh T) (fG (gF (fV (K:=K)) (pvD 1) (fW gY (pvD 0) (gw (gW (K:=K)) (by rfl) T.tS (by decide+kernel) (pav 1 fM))) (λ_ _=>rfl)) (pav 0 fM)))))))) gm)
   (fQ (gj (jA (cap:=[none]) (N':=["_law_cell"]) rfl (by walk_at "c") (lU (K:=K) (gQ (iG (K:=K)) (pvD 0) iJ (gZ fH))) (λ_ _ _ _=>(gA (i:=0) nd1 rfl orl orr)) (λ_ _ _ _=>jD) (λ_ _ _ _=>(fW gY (pvD 0) (fW jg fH fH))))))),?_⟩
  walk_at "a";refine⟨_,.inl hS,?_⟩;rw[za]
  have q:∃ys,SqL K H a ys/\∀p,H p=none->(∃xs,SqL K (upd H p (.lst (CK ys none (some 63)))) p xs)/\jC [none] (Itl K p) (Fy 0) Eb (tOp (rI (λx j=>0<j) λi j=>V.int (i%j)) (tV 0) (tOp (rI abp λi j=>V.int (i^j.toNat)) (tC (V.int 10)) (tC (V.int 60)))) [some (V.ref a),none] (upd H p (.lst (CK ys none (some 63)))) Q:=by
   refine⟨_,hS,λp hp=>⟨⟨_,fU fL⟩,?_⟩⟩;refine jC.list (xs:=(ns.take 63).map V.int) (λσ=>∃v,σ=[v]) (λ_=>true) (λv=>match v with|.int k=> .int (k%10^60)|_=> .non) (fU ?_) ⟨none,rfl⟩ ?_ ?_ ?_
   ·rw[fL,show(63:Int)=((63:Nat):Int)from rfl,kY,z8]
   ·rw[za,zx,zc];lia
   ·rintro x hx σ H5 R1 R2 ⟨v,rfl⟩ z k1 k2
    obtain⟨c,_,rfl⟩:=zC.mp hx;walk_at "a";refine⟨⟨by decide,by decide,by decide⟩,by decide,k1 rfl _ _ ⟨_,rfl⟩ (same_refl _)⟩
   ·intro Da H' hD z e
    rw[lu,zP]at e;exact k Da ((ns.take 63).map λk=>k%10^60) H' ((fO hp).trans z) ((fO hp).free hD) (by rw[e,zP];rfl)
  by_cases h0:0<ns.length
  ·rw[zp (by lia)]
   have hh:(ns.map V.int)[0]? =some (.int (ns.headD 0)):=by
    cases ns with
    |nil=>simp at h0
    |cons c r=>rfl
   have aa:atI (ns.map V.int) 0=some (.int (ns.headD 0)):=gR (j:=0) hh;refine⟨_,hS,_,aa,_,rfl,by decide,?_⟩;by_cases h1:ns.headD 0%2=1
   ·rw[zp h1]
    refine⟨_,.inl hS,_,hS,_,aa,_,rfl,⟨by decide,by decide⟩,by decide,?_⟩;rw[za];generalize hm:(if 3+ns.headD 0/2%61>if 63<(ns.length:Int)then 63 else(ns.length:Int)then 3+ns.headD 0/2%61 else if 63<(ns.length:Int)then 63 else(ns.length:Int))=m;have hm:0<=m/\m<=63:=by rw[<-hm];split<;>split<;>lia
    refine⟨by lia,by lia,?_⟩;refine ach (λσ=>∃v,σ=[v,some (.ref a)]) (λi v _=>∃r,v=.int r) ⟨_,rfl⟩ (by rw[zc];lia) ?_ ?_
    ·rintro Da i hi σ H5 R ⟨v,rfl⟩ z hD _ kk
     walk_at "a";have h5:=z.seq hS;refine⟨_,.inl h5,by rw[za];lia,_,h5,?_⟩;rw[za];have e0:=zI (0+(i:Int)) (show(ns.length:Int)≠0 by lia);have e1:=zA (0+(i:Int)) (show(0:Int)<ns.length by lia);obtain⟨j,hj⟩:∃j:Nat,(0+(i:Int))%(ns.length:Int)=j:=⟨_,(Int.toNat_of_nonneg e0).symm⟩;rw[hj]at e1⊢;have ab:j<ns.length:=by lia
     exact⟨.int ns[j],gR (by rw[zE,zD ab];rfl),_,_,rfl,by lia,by lia,λr=>kk _ _ H5 ⟨_,rfl⟩ (same_refl _) λ_ _=>⟨r,rfl⟩⟩
    ·intro Da H' acc hD z hA ac hF
     obtain⟨xs,hx⟩:=ints_of hF;exact k Da xs H' z hD (hx▸hA)
   ·rw[zk h1]
    exact q
  ·rw[zk (by lia)]
   exact q
structure aav(ws:List Str):Prop where
 l0:3<=ws.length
 l1:ws.length<=6
 n:∀w∈ws,Nm w
 u:ws.Nodup
noncomputable def Js(K:Fg_):Sp:=λvs H Q _=>∃(a:Addr)(ns:List Int),vs=[.ref a]/\SqL K H a (ns.map V.int)/\∀p ws H',Same H H'->H p=none->aav ws->H' p=some (.lst (ws.map V.str))->Q (.ref p) H'
noncomputable def names:List Str:=["cup", "pot", "zz", "a", "teapots", "b"]
def Xk:∀w∈names,Nm w:=by
 unfold Nm;decide+kernel
def Tn:names.Nodup:=by decide+kernel
def SM(w:Str):5<=(names.filter λx=>x !=w).length:=by
 rw[<-Tn.erase_eq_filter,List.length_erase];split<;>decide
def Yq{w:Str}{m:Nat}(hw:Nm w)(z:2<=m)(h1:m<=5):aav (w::((names.filter λx=>x !=w).take m)):=by
 have hl:=SM w;refine⟨?_,?_,?_,?_⟩
 ·rw[zy,zx];lia
 ·rw[zy,zx];lia
 ·intro v q
  rcases zh.mp q with rfl|q
  ·exact hw
  ·exact Xk v (zzb.mp (z5 q)).1
 ·rw[yQ]
  refine⟨λhm=>?_,((List.take_sublist _ _).trans List.filter_sublist).nodup Tn⟩;have:=(zzb.mp (z5 hm)).2;simp at this
theorem YS:∀(k:Nat)(c:Int),∀d∈Kc c (List.replicate k 26),0<=d/\d<26
 |0,_,d,h=>by cases h
 |k+1,c,d,h=>by
  rw[yu]at h;rcases zh.mp h with rfl|h
  ·exact⟨zI _ (by decide),zA _ (by decide)⟩
  ·exact YS k _ d h
def Sv:(Str.ofString "abcdefghijklmnopqrstuvwxyz").cps.toList=(List.range 26).map λi=>97+i:=by decide+kernel
def TJ{d:Int}(q:0<=d)(h1:d<26):atI (Str.ofString "abcdefghijklmnopqrstuvwxyz").cps.toList d=some (97+d.toNat):=by
 rw[Sv,show d=((d.toNat:Nat):Int) by lia];refine gR ?_;rw[zE,zzW (by lia),yU];rfl
def Ku(z:Str)(c:Nat):(z++(⟨#[c]⟩:Str)).length=z.length+1:=by
 show(z.cps++ #[c]).size=z.cps.size+1;simp
def KY(z:Str)(c x:Nat)(h:x∈(z++(⟨#[c]⟩:Str)).cps.toList):x∈z.cps.toList\/x=c:=by
 have h:x∈(z.cps++ #[c]).toList:=h
 simpa using h
def Sw(z:Str):((names.map V.str).filter λv=>!decide (v=.str z)).map id=(names.filter λx=>x !=z).map V.str:=by
 rw[zzO,List.filter_map];refine congrArg _ (List.filter_congr λx _=>?_);show(!decide (V.str x=V.str z))=(x !=z);by_cases h:x=z
 ·subst h;simp
 ·simp[h]
def Jr(T:Txt w K mg A D):ji P w K mg base CX0 2 A.qm D.qm ["_law_script"] (Js K):=by
 refine T.sh.F.okv lC λ_ _ _ _ H vs Q E hr h=>?_
 ·obtain⟨a,ns,rfl,hS,k⟩:=h
  refine ⟨_,(fK (gn (i:=1) lC.nd rfl orr fZ)
   (fK (wj yw rfl (lU (K:=K) (gQ (iG (K:=K)) (pcg (jK T) hr T.r9 (kW T) (fG (fW je (pcg (jz T) hr T.sf (jH T) (pav 0 (fG fH fM))) fH) (fG (fW Qe (iI (fG fH fM)) fH) fM))) iJ (gZ (fW iz fH (fW gY (pcg (jz T) hr T.sf (jH T) (pav 0 (fG fH fM))) fH))))) (gA (i:=2) lC.nd rfl orl)
    (fQ (gn (i:=1) lC.nd rfl orr (fW jr (pvD 1) (gF Tu fZ (pvD 2) (λ_ _=>rfl))))))
   (fK (gn (i:=3) lC.nd rfl orl (gF (fV (K:=K)) (iI (fG fH (fG fH fM))) (iy Ez (by rfl) T.tT (by decide+kernel) (fG (Ca (jT) (fW gY (fW je (pcg (jz T) hr T.sf (jH T) (pav 0 (fG fH fM))) fH) fH) fH (gk _)) fM)) (λ_ _=>rfl)))
   (fQ (gj (fW vW (iI (pav 1 fM)) (gQ (iG (K:=K)) (jA (cap:=[none,some 1]) (N':=["_law_name", "_law_word"]) rfl (by walk_at "c") (lU (K:=K) (iI (fG fZ (fG fZ (fG fZ (fG fZ (fG fZ (fG fZ fM)))))))) (λ_ _ _ _=>(gA (i:=0) (show(["_law_name", "_law_word"]:List Str).Nodup from by decide+kernel) rfl orl orr)) (λ_ _ _ _=>(Pj (fY (Hh) (pvD 0) (pvD 1) (gk _)))) (λ_ _ _ _=>(pvD 0))) iJ (gZ (pvD 3))))))))),?_⟩
  simp only[start_eq];walk_at "l";rw[ap_seq,ap_for];walk_at "i";obtain⟨c,hc⟩:∃c,c=ns.getD 1 0:=⟨_,rfl⟩;refine⟨a,ns,1,rfl,hS,_,rfl,⟨by decide,by decide⟩,sz,λp1 ak=>?_⟩;have s1:=fO (o:=.lst [V.int 26]) ak;rw[JR];refine⟨_,fL,by decide,by decide,sz,λp2 aj=>?_⟩;have s2:=s1.trans (fO (o:=.lst (List.replicate (8:Int).toNat [V.int 26]).flatten) aj);refine⟨_,p2,List.replicate 8 26,rfl,fU (by rw[fL];rfl),λb hb=>by rw[(List.mem_replicate.mp hb).2];exact⟨by decide,by decide⟩,by rw[zze];decide,λp3 H3 s3 as h3=>?_⟩;have s3:=s2.trans s3;refine⟨a,ns,1,rfl,s3.seq hS,_,rfl,by decide,p3,rfl,_,fU h3,λp4 ao=>⟨⟨_,fU fL⟩,?_⟩⟩;rw[<-hc];have ac:H p4=none:=s3.free ao;have aq:=zI c (show(8:Int)≠0 by decide);have au:=zA c (show(0:Int)<8 by decide);obtain⟨n,hn⟩:∃n:Nat,(n:Int)=1+c%8:=⟨(1+c%8).toNat,by lia⟩;rw[<-hn,kY,<-z8];have hd:∀d∈(Kc (c/8) (List.replicate 8 26)).take n,0<=d/\d<26:=λd h=>YS _ _ d (z5 h);have ah:((Kc (c/8) (List.replicate 8 26)).take n).length=n:=by rw[zx,pI,zze];lia
  generalize(Kc (c/8) (List.replicate 8 26)).take n=ds at hd ah
  refine wV (K:=K) (a:=p4) (xs:=ds.map V.int) (λi σ H2=>∃z v2 v3,σ=[some (.ref a),some (.str z),v2,v3]/\Same H H2/\H2 p4=some (.lst (ds.map V.int))/\z.length=i/\∀x∈z.cps.toList,97<=x/\x<=122)
   ⟨_,none,none,rfl,s3.upd ac,fL,by decide+kernel,by decide+kernel⟩ (λi σ H2 _ ⟨_,_,_,_,_,h4,_⟩=>fU h4) ?_ ?_
  ·rintro i y σ H2 hi ⟨z,v2,v3,rfl,sm,h4,hz,hl⟩
   obtain⟨d,rfl,af⟩:=Ou hi;have ar:i<ds.length:=(zv.mp af).1;obtain⟨d0,d1⟩:=hd d (zb af);walk_at "a";refine⟨by decide+kernel,_,TJ d0 d1,?_⟩;refine⟨by rw[zc];show z.length+1<=_;lia,sm,h4,by rw[Ku,hz],λx hx=>?_⟩;rcases KY _ _ _ hx with h|h
   ·exact hl x h
   ·lia
  ·rintro σ H2 ⟨z,v2,v3,rfl,sm,h4,hz,hl⟩
   rw[za,ah]at hz;have hN:Nm z:=⟨by lia,by lia,hl⟩;dsimp only;walk_at "l";refine⟨sz,λq1 ap=>?_⟩;have t1:Same H (upd H2 q1 (.lst [V.int 2,V.int 5])):=sm.trans (fO ap)
   obtain ⟨m,ai,an,al⟩:∃m:Nat,2<=m/\m<=5/\atI [V.int 2,V.int 5] (if ns.getD 0 0/122%8=3 then 1 else 0)=some (.int m):=by
    split
    ·exact⟨5,by decide,by decide,rfl⟩
    ·exact⟨2,by decide,by decide,rfl⟩
   refine⟨a,ns,0,rfl,t1.seq hS,_,rfl,⟨by decide,by decide⟩,by decide,.inr ?_⟩;refine⟨_,fU fL,_,al,sz,λq2 am=>⟨sz,λq3 ae=>⟨⟨_,fU fL⟩,?_⟩⟩⟩;obtain⟨H4,aa⟩:∃H4,H4=upd (upd H2 q1 (.lst [V.int 2,V.int 5])) q2 (.lst [V.str z]):=⟨_,rfl⟩;rw[<-aa]at ae⊢;have t2:Same H H4:=aa▸t1.trans (fO am);have hq2':H4 q2=some (.lst [V.str z]):=by rw[aa,fL]
   have t3:Same H4 (upd H4 q3 (.lst (names.map V.str))):=fO ae;refine jC.list (xs:=names.map V.str) (λσ=>∃v,σ=[v,some (.str z)]) (λv=>!decide (v=.str z)) id (fU fL) ⟨none,rfl⟩ (by rw[za,zc];decide) ?_ ?_
   ·rintro x hx σ H5 R1 R2 ⟨v,rfl⟩ ab k1 k2
    obtain⟨w',_,rfl⟩:=zC.mp hx;walk_at "a";by_cases hw:w'=z
    ·rw[zk (λh=>h hw)]
     exact k2 (by simp[hw]) _ _ ⟨_,rfl⟩ (same_refl _)
    ·rw[zp hw]
     exact k1 (by simp[hw]) _ _ ⟨_,rfl⟩ (same_refl _)
   ·intro Da H' hD ab e
    rw[Sw]at e;refine⟨m,rfl,Da,rfl,_,fU e,λq4 ad=>?_⟩;rw[kY,<-z8];have q:H' q2=some (.lst [V.str z]):=ab _ _ (t3 _ _ hq2');refine⟨[V.str z],by rw[fX (λh=>by rw[h,ad]at q;cases q)];exact q,_,fL,?_,λq5 ag=>?_⟩
    ·rw[zc,za,zx]
     show 1+_<=_;lia
    ·have t4:=(t2.trans t3).trans (ab.trans (fO (o:=.lst (((names.filter λx=>x !=z).take m).map V.str)) ad))
     exact k q5 (z::((names.filter λx=>x !=z).take m)) _ (t4.upd (t4.free ag)) (t4.free ag) (Yq hN ai an) fL
local macro_rules | `(tactic| walk_at "nxi") => `(tactic| ((try dsimp only); refine jY fun u hu => ?_; rw [ap_seq]; refine aaz fun v w hv hw => ?_; walk_at "i"; subst hv hw hu))
def Zm{j i:Nat}{σ:L2.St}{H:Hp}{Q:VK}{x s a b c d:Int}(hx:σ[j]? =some (some (.int x)))(hs:σ[i]? =some (some (.int s)))(z:0<=s/\s<4)(ha:Rg 1 1000 a)(hb:Rg 1 1000 b)(hc:Rg 1 1000 c)(hd:Rg 1 1000 d)(k:∀v H',Same H H'->Rg 1 1000 v->Q (.int v) H'):
  tOp (rI0 λi j=>V.int (i+j)) (tC (V.int 1)) (tOp (rI (λ_ j=>0<j) λi j=>V.int (i%j)) (tV j) (tOp (aaj K) (WM (jW (tC (V.int a)) (jW (tC (V.int b)) (jW (tC (V.int c)) (jW (tC (V.int d)) Ka))))) (tV i))) σ H Q:=by
 obtain⟨m,hm,bm⟩:=at4 z.1 z.2 ha hb hc hd;simp only[L2.ap_op,L2.av_V,L2.atV_iff,L2.ap_c];refine⟨_,hx,?_⟩;rw[ap_lst];simp only[L2.ap_cons,L2.ap_c,L2.ap_nil];refine⟨by rw[zc];show 4<=_;decide,λq hq=>⟨_,hs,?_⟩⟩;unfold Rg at bm;have g0:=zI x (show m≠0 by lia);have g1:=zA x (show 0<m by lia);exact⟨q,_,s,_,rfl,rfl,fU fL,hm,x,m,rfl,rfl,by lia,1,x%m,rfl,rfl,k _ _ (fO hq) ⟨by lia,by lia⟩⟩
noncomputable def JS(K:Fg_):Sp:=λvs H Q _=>∃(c d n:Int)(wa hd:Addr)(ws:List Str)(kvs:List (Key×V)),vs=[.int c,.int d,.int n,.ref wa,.ref hd]/\H wa=some (.lst (ws.map V.str))/\aav ws/\H hd=some (.dK kvs)/\
 (∀w:Str,∃i:Int,0<=i/\(oF kvs (Sum.inr w)).getD (.int 0)=.int i)/\Rg 0 1000000 d/\Rg 0 1000000 n/\
 ∀(t:Addr)(e:Ent)(H':Hp),Same H H'->H t=none->H' t=some (.tup (.str e.word::e.args .non))->e.good->e.lots=none->e.day=d->e.num=n->e.ware∈ws/\e.oth∈ws->Q (.ref t) H'
def Ji(T:Txt w K mg A D):ji P w K mg base CX0 2 A.qo D.qo ["_law_cell", "_law_day", "_law_number_here", "_law_wares_here", "_law_held"] (JS K):=by
 refine T.sj.F.okv gM λ_ _ _ _ H vs Q E hr h=>?_
 ·obtain⟨c,d,n,wa,hd,ws,kvs,rfl,aa,hW,ad,hv,ai,ag,k⟩:=h
  refine ⟨_,(fK (QQ (pcg (jK T) hr T.r9 (kW T) (pav 0 (fG (iI (fG fH (fG fH (fG fH (fG (fW jg fH fH) (fG (fW iz (fW jg fH fH) fH) (fG (fW iz (fW jg fH fH) fH) fM))))))) fM))) (Pa (K:=K) (n:=6) rfl (gO (gA (i:=5) gM.nd rfl orl) (gO (gA (i:=6) gM.nd rfl orl) (gO (gA (i:=7) gM.nd rfl orl) (gO (gA (i:=8) gM.nd rfl orl) (gO (gA (i:=9) gM.nd rfl orl) (gO (gA (i:=10) gM.nd rfl orl) nP))))))))
   (fK (gn (i:=11) gM.nd rfl orl (gw (gW (K:=K)) (by rfl) T.tS (by decide+kernel) (pav 3 fM)))
   (fK (gn (i:=12) gM.nd rfl orl (gF (fV (K:=K)) (pvD 3) (fW gY (pvD 6) (pvD 11)) (λ_ _=>rfl)))
   (fK (gn (i:=13) gM.nd rfl orl (Xg (Bg hr) (pvD 4) (pvD 12) fH ⟨rfl,rfl,rfl,rfl⟩))
   (fK (gn (i:=8) gM.nd rfl orl (fW iz (gF (fV (K:=K)) (iI (fG (fW gY (pvD 8) fH) (fG (fW gY (pvD 8) fH) (fG (fW gY (pvD 8) fH) (pav 8 fM))))) (pvD 7) (λ_ _=>rfl)) fH))
   (fK (gn (i:=9) gM.nd rfl orl (gF (fV (K:=K)) (iI (fG (fW gY (pvD 9) fH) (fG (fW gY (pvD 9) fH) (pav 9 fM)))) (fW gY (pvD 8) fH) (λ_ _=>rfl)))
   (fK (gn (i:=10) gM.nd rfl orl (gF (fV (K:=K)) (iI (fG fH (fG (fW gY (pvD 10) fH) (pav 10 fM)))) (fW gY (fW je (pvD 8) fH) fH) (λ_ _=>rfl)))
   (fK (iB (PW.pt (Be (fY (xu) (pvD 5) fH (gk _)) (Be (fY (xX) (pvD 5) fH (gk _)) (wU (fY (xu) (pvD 13) fH (gk _)))))) (fQ (gn (i:=8) gM.nd rfl orl (fW iz fH (fW gY (pvD 8) (gw (Fi rfl) (by rfl) T.tU (by decide+kernel) (pav 13 (fG (fW jg fH fH) fM))))))) gm)
   (fK (iB (fY (jT) (pvD 5) fH (gk _)) (fK (gn (i:=14) gM.nd rfl orl (fW iz (fW gY (pvD 10) (fW jg fH fH)) fH))
    (fK (gn (i:=15) gM.nd rfl orl (gF (fV (K:=K)) (pvD 3) (fW gY (fW iz (fW iz (fW gY (pvD 6) (pvD 11)) fH) (fW gY (pvD 7) (fW Hv (pvD 11) fH))) (pvD 11)) (λ_ _=>rfl)))
    (fQ (gj (ju (fG fZ (pav 1 (pav 2 (pav 12 (pav 15 (fG (fW gY (pvD 9) (fW iz (pvD 14) fH)) (pav 14 fM)))))))))))) gm)
   (fK (iB (fY (xu) (pvD 5) fH (gk _)) (fQ (gj (ju (fG fZ (pav 1 (pav 2 (pav 12 (fG (fW iz fH (fW gY (pvD 9) (gF (fV (K:=K)) (iI (fG fH (fG fH (fG fH (fG fH fM))))) (pvD 7) (λ_ _=>rfl)))) (fG (fW iz fH (fW gY (pvD 10) (gF (fV (K:=K)) (iI (fG fH (fG fH (fG fH (fG fH fM))))) (pvD 7) (λ_ _=>rfl)))) fM))))))))) gm)
   (fK (iB (fY (jT) (pvD 5) fH (gk _)) (fQ (gj (ju (fG fZ (pav 1 (pav 2 (pav 12 (pav 8 (fG (fW mJ (pvD 9) (pvD 10)) (fG (fW Hv (pvD 1) (fW gY (pvD 10) (fW iz (pvD 1) fH))) fM)))))))))) gm)
   (fK (iB (PW.pt (nZ (fY (xX) (pvD 5) fH (gk _)) (lY (fY (jT) (pvD 13) fH (gk _))))) (fQ (gj (ju (fG fZ (pav 1 (pav 2 (pav 12 (pav 8 (pav 9 (pav 10 fM)))))))))) gm)
   (fK (iB (fY (xX) (pvD 5) fH (gk _)) (fQ (gj (ju (fG fZ (pav 1 (pav 2 (pav 12 (pav 8 (pav 9 (pav 10 (fG jJ fM))))))))))) gm)
   (fQ (gj (ju (fG fZ (pav 1 (pav 2 (pav 12 (pav 8 (fG jJ fM)))))))))))))))))))))),?_⟩
  simp only[start_eq];walk_at "n";refine⟨⟨by decide,by decide,by decide⟩,⟨by decide,by decide,by decide⟩,⟨by decide,by decide,by decide⟩,sz,λp1 av=>?_⟩;have s1:=fO (o:=.lst [V.int 16,V.int 6,V.int 4,V.int (10^(9:Int).toNat),V.int (10^(9:Int).toNat+1),V.int (10^(9:Int).toNat+1)]) av;refine⟨c,p1,[16,6,4,1000000000,1000000001,1000000001],rfl,fU (by rw[fL];rfl),by unfold Jh;decide,by decide,λp2 H2 s2 b6 h2=>?_⟩;have s2:=s1.trans s2
  obtain ⟨kd,ix,si,pc,pr,ex,bg,bc,be,bsz,al,aq,am⟩:∃kd ix si pc pr ex:Int,Kc c [16,6,4,1000000000,1000000001,1000000001]=[kd,ix,si,pc,pr,ex]/\Rg 0 15 kd/\Rg 0 5 ix/\Rg 0 3 si/\Rg 0 999999999 pc/\Rg 0 1000000000 pr/\Rg 0 1000000000 ex:=
   ⟨_,_,_,_,_,_,rfl,vX (by decide) (by decide) (by decide),vX (by decide) (by decide) (by decide),vX (by decide) (by decide) (by decide),vX (by decide) (by decide) (by decide),vX (by decide) (by decide) (by decide),vX (by decide) (by decide) (by decide)⟩
  rw[bg]at h2;refine⟨p2,rfl,_,fU h2,rfl,_,_,rfl,_,_,rfl,_,_,rfl,_,_,rfl,_,_,rfl,_,_,rfl,rfl,?_⟩;have aa:=s2 _ _ aa;have ad:=s2 _ _ ad;walk_at "n";refine⟨_,.inl (fU aa),?_⟩;rw[za];have b4:=hW.l0;have b7:=hW.l1;unfold Rg at bc be bsz al aq am ai ag;have as:=zI ix (show(ws.length:Int)≠0 by lia);have ap:=zA ix (show(0:Int)<ws.length by lia);obtain⟨w,bd,q⟩:=Ux as ap;have bv:Nm w:=hW.n w (zb q);walk_at "n";refine⟨by lia,_,fU aa,_,bd,?_⟩;obtain⟨th,b3,aw⟩:=hv w;walk_at "n";refine⟨.inl ⟨kvs,.inl ad⟩,_,Dc (k:=Sum.inr w) ad,?_⟩;rw[aw];walk_at "n";refine⟨by decide,by decide,by decide,sz,λq1 bq=>?_⟩;obtain⟨p0,bh,bl⟩:=at4 (a:=pc%4) (b:=pc%50) (c:=pc%3000) (d:=pc) (lo:=0) (hi:=999999999) bsz.1 (by lia) (vX (by decide) (by decide) (by decide)) (vX (by decide) (by decide) (by decide)) (vX (by decide) (by decide) (by decide)) al;refine⟨_,fU fL,_,bh,_,rfl,?_⟩;generalize ay:upd H2 q1 _=H3;have s3:Same H2 H3:=ay▸fO bq;obtain⟨p,hp⟩:∃p,p=p0+1:=⟨_,rfl⟩;rw[<-hp];have bp:Rg 1 1000000000 p:=by unfold Rg at bl⊢;lia
  walk_at "n";obtain⟨r,bz,br⟩:=at3 (i:=p%3) (a:=pr%9) (b:=pr%500) (c:=pr) (lo:=0) (hi:=1000000000) (zI _ (by decide)) (zA _ (by decide)) (vX (by decide) (by decide) (by decide)) (vX (by decide) (by decide) (by decide)) aq;refine⟨by decide,by decide,sz,λq2 bw=>⟨by decide,_,fU fL,_,bz,?_⟩⟩;generalize bb:upd H3 q2 _=H4;have s4:Same H3 H4:=bb▸fO bw;walk_at "n";obtain⟨f,bu,bf⟩:=at3 (i:=p/3%3) (a:=0) (b:=ex%30) (c:=ex) (lo:=0) (hi:=1000000000) (zI _ (by decide)) (zA _ (by decide)) ⟨by decide,by decide⟩ (vX (by decide) (by decide) (by decide)) am;refine⟨by decide,sz,λq3 bm=>⟨⟨by decide,by decide⟩,by decide,_,fU fL,_,bu,?_⟩⟩;generalize ba:upd H4 q3 _=H5;have s5:Same H4 H5:=ba▸fO bm;have sH:Same H H5:=s2.trans (s3.trans (s4.trans s5));have aa:H5 wa=some (.lst (ws.map V.str)):=s5 _ _ (s4 _ _ (s3 _ _ aa));refine vU (λσ H'=>H'=H5/\∃p',Rg 1 1000000000 p'/\σ=[some (.int c),some (.int d),some (.int n),some (.ref wa),some (.ref hd),some (.int kd),some (.int ix),some (.int si),some (.int p'),some (.int r),some (.int f),some (.int ws.length),some (.str w),some (.int th),none,none]) ?_ ?_
  rotate_left
  ·intro N hN
   walk_at "i";have ab:N [some (.int c),some (.int d),some (.int n),some (.ref wa),some (.ref hd),some (.int kd),some (.int ix),some (.int si),some (.int p),some (.int r),some (.int f),some (.int ws.length),some (.str w),some (.int th),none,none] H5:=hN _ _ ⟨rfl,p,bp,rfl⟩;split
   ·split
    ·split
     ·refine⟨⟨by decide,by decide,by decide⟩,?_,hN _ _ ⟨rfl,_,?_,rfl⟩⟩
      ·split
       ·decide
       ·assumption
      ·rw[e9]
       split
       ·unfold Rg
        have h1:=zI p (show(1000000000:Int)≠0 by decide);have h2:=zA p (show(0:Int)<1000000000 by decide);lia
       ·unfold Rg
        have h1:=zI p (show th≠0 by lia);have h2:=zA p (show 0<th by lia);lia
     ·exact ab
    ·exact ab
   ·exact ab
  ·rintro σ' H' ⟨rfl,p',ar,rfl⟩
   have bB:Base d n w:=⟨ai.1,ai.2,ag.1,ag.2,bv⟩;have bs:Rg 0 1000000000000000000 (r*f):=abA br bf;have ac:=ar;have au:=br;have ao:=bf;unfold Rg at ar br bf;walk_at "nxi";by_cases ak:kd=15
   ·rw[zp ak]
    walk_at "n";refine⟨⟨by decide,by decide,by decide⟩,by decide,?_⟩;rw[e6];obtain⟨wh,az⟩:∃wh,wh=f%1000000+1:=⟨_,rfl⟩
    have ae:Rg 1 1000000 wh:=by
     have h1:=zI f (show(1000000:Int)≠0 by decide);have h2:=zA f (show(0:Int)<1000000 by decide);unfold Rg;lia
    rw[<-az];have bt:=zI si (show(ws.length:Int) - 1≠0 by lia);have bo:=zA si (show(0:Int)<(ws.length:Int) - 1 by lia);have bi:=zI (ix%ws.length+1+si%((ws.length:Int) - 1)) (show(ws.length:Int)≠0 by lia);have bj:=zA (ix%ws.length+1+si%((ws.length:Int) - 1)) (show(0:Int)<ws.length by lia);have b8:=Xz as ap bt bo;obtain⟨u,bk,ah⟩:=Ux bi bj;have bn:u≠w:=aaQ hW.u ah q (by lia);walk_at "n";refine⟨by lia,by lia,by lia,_,fU aa,_,bk,?_⟩;have bx:=zI r (show wh+1≠0 by unfold Rg at ae;lia);have b5:=zA r (show 0<wh+1 by unfold Rg at ae;lia);rw[ap_ret];(try dsimp only);walk_at "i";refine⟨by unfold Rg at ae;lia,sz,λt z=>?_⟩;exact k t (.part d n w u (r%(wh+1)) wh) _ (sH.upd (sH.free z)) (sH.free z) fL ⟨bB,hW.n u (zb ah),bn,ae,⟨bx,by lia⟩⟩ rfl rfl rfl ⟨zb q,zb ah⟩
   rw[zk ak,ap_next];walk_at "nxi";by_cases an:kd>11
   ·rw[zp an]
    rw[ap_ret];generalize h5:tOp (rI0 λi j=>V.int (i+j)) (tC (V.int 1)) (tOp (rI (λ_ j=>0<j) λi j=>V.int (i%j)) (tV 9) (tOp (aaj K) (WM (jW (tC (V.int 3)) (jW (tC (V.int 3)) (jW (tC (V.int 10)) (jW (tC (V.int 1000)) Ka))))) (tV 7)))=e5;generalize h6:tOp (rI0 λi j=>V.int (i+j)) (tC (V.int 1)) (tOp (rI (λ_ j=>0<j) λi j=>V.int (i%j)) (tV 10) (tOp (aaj K) (WM (jW (tC (V.int 3)) (jW (tC (V.int 5)) (jW (tC (V.int 10)) (jW (tC (V.int 1000)) Ka))))) (tV 7)))=e6
    (try dsimp only);walk_at "i"
    have R3:∀x:Int,1<=x->x<=1000->Rg 1 1000 x:=λx a b=>⟨a,b⟩;rw[<-h5];refine Zm rfl rfl ⟨bsz.1,by lia⟩ (R3 _ (by decide) (by decide)) (R3 _ (by decide) (by decide)) (R3 _ (by decide) (by decide)) (R3 _ (by decide) (by decide)) λv1 H1 b0 b1=>?_;rw[<-h6];refine Zm rfl rfl ⟨bsz.1,by lia⟩ (R3 _ (by decide) (by decide)) (R3 _ (by decide) (by decide)) (R3 _ (by decide) (by decide)) (R3 _ (by decide) (by decide)) λv2 H2' ax b2=>⟨sz,λt z=>?_⟩;have af:=sH.trans (b0.trans ax);exact k t (.split d n w v1 v2) _ (af.upd (af.free z)) (af.free z) fL ⟨bB,b1,b2⟩ rfl rfl rfl ⟨zb q,zb q⟩
   rw[zk an,ap_next];walk_at "nxi";by_cases h6:kd=6
   ·rw[zp h6]
    have g0:=zI f (show d+1≠0 by lia);have g1:=zA f (show 0<d+1 by lia);rw[ap_ret];(try dsimp only);walk_at "i";refine⟨Ia (by lia) (by lia),by lia,sz,λt z=>?_⟩;exact k t (.gift d n w p' (r*f) (d - f%(d+1))) _ (sH.upd (sH.free z)) (sH.free z) fL ⟨bB,ac,bs,⟨by lia,by lia⟩⟩ rfl rfl rfl ⟨zb q,zb q⟩
   rw[zk h6,ap_next];walk_at "nxi"
   have aj:(7:Nat)<=sizeLine/\∀t,H' t=none->Q (.ref t) (upd H' t (.tup [V.str (Str.ofString "buy"),V.int d,V.int n,V.str w,V.int p',V.int r,V.int f])):=
    ⟨sz,λt z=>k t (.buy d n w p' r f) _ (sH.upd (sH.free z)) (sH.free z) fL ⟨bB,ac,au,ao⟩ rfl rfl rfl ⟨zb q,zb q⟩⟩
   by_cases h7:kd<6
   ·rw[zp h7]
    rw[ap_ret];(try dsimp only);walk_at "i";exact aj
   rw[zk h7];by_cases h8:th=0
   ·rw[zp h8]
    rw[ap_ret];(try dsimp only);walk_at "i";exact aj
   rw[zk h8,ap_next];walk_at "nxi";by_cases h9:kd<10
   ·rw[zp h9]
    rw[ap_ret];(try dsimp only);walk_at "i";refine⟨sz,λt z=>?_⟩;exact k t (.sell d n w p' r f none) _ (sH.upd (sH.free z)) (sH.free z) fL ⟨bB,ac,au,ao,trivial⟩ rfl rfl rfl ⟨zb q,zb q⟩
   rw[zk h9,ap_next];dsimp only;rw[ap_ret];(try dsimp only);walk_at "i";refine⟨sz,λt z=>?_⟩;exact k t (.give d n w p' none) _ (sH.upd (sH.free z)) (sH.free z) fL ⟨bB,ac,trivial⟩ rfl rfl rfl ⟨zb q,zb q⟩
def YL(n d:Nat):HT.sIx n d (some (-1))=n - 1:=by
 unfold HT.sIx;simp;lia
def Xm(pre:List V)(x:V):CK (pre++[x]) none (some (-1))=pre:=by
 unfold CK;rw[HT.sIx_none,YL,List.drop_zero,zm];show(pre++[x]).take (pre.length+1 - 1 - 0)=pre;rw[Nat.add_sub_cancel,Nat.sub_zero,List.take_left]
def Pn(pre:List V)(x:V):¬(HT.sIx (pre++[x]).length 0 none=0/\HT.sIx (pre++[x]).length (pre++[x]).length (some (-1))=(pre++[x]).length):=λh=>by
 have h1:=h.2;rw[YL,zm,yb]at h1;lia
noncomputable def Bl(K:Fg_):Sp:=λvs H Q _=>∃(t:Addr)(c:Int)(e:Ent),vs=[.ref t,.int c]/\H t=some (.tup (.str e.word::e.args .non))/\e.good/\e.lots=none/\
 ∀(t':Addr)(e':Ent)(H':Hp),Same H H'->xW H' t' e'->e'.good5->e'.day=e.day->e'.num=e.num->Q (.ref t') H'
structure aep(xs pre:List V)(p:Int)(mk:Rs->Ent)(dd nn:Int):Prop where
 x:xs=pre++[.non]
 p4:atI xs 4=some (.int p)
 l:pre.length<=7
 n:pre≠[]
 pp:1<=p
 g:∀rs,DQ rs p->(mk rs).good
 o:∀rs,(mk rs).lots=some rs
 e:∀rs nt,.str (mk rs).word::(mk rs).args nt=pre++[nt]
 dn:∀rs,(mk rs).day=dd/\(mk rs).num=nn
def Bp(T:Txt w K mg A D):ji P w K mg base CX0 1 A.qr D.qr ["_law_told_here", "_law_cell"] (Bl K):=by
 refine T.sr.F.okv ir λ_ _ _ _ H vs Q E hr h=>?_
 ·obtain⟨t,c,e,rfl,ht,hg,ho,k⟩:=h
  refine ⟨_,(fK (iB (PW.pt (nZ (fY (Lf (K:=K)) (gF (jP (K:=K)) (pvD 0) fH (λ_ _=>rfl)) (ju (fG fZ (fG fZ fM))) (by with_unfolding_all rfl)) (lY (fY (jT) (fW gY (pvD 1) fH) fH (gk _))))) (fQ (gj (pvD 0))) gm)
   (fK (gn (i:=2) ir.nd rfl orl (gF (jP (K:=K)) (pvD 0) fH (λ_ _=>rfl)))
   (fK (gn (i:=3) ir.nd rfl orl (iI fM))
   (fK (wj yw rfl (wY (by rfl) T.tX (fG (fW iz fH (fW gY (fW je (pvD 1) fH) fH)) fM)) (gA (i:=4) ir.nd rfl orl)
    (fK (gn (i:=5) ir.nd rfl orl (fW iz fH (fW gY (fW je (pvD 1) (fW iz (fW mJ fH (pvD 4)) fH)) (pvD 2))))
    (fK (iB (fY (jT) (pvD 4) (fW gY (fW je (pvD 1) fH) fH) (gk _)) (fQ (gn (i:=5) ir.nd rfl orl (pvD 2))) gm)
    (fK (iB (fY (xu) (pvD 2) fH (gk _)) (fK (gU (jV (K:=K) zY z9 ya mj (pvD 3) (fG (ju (fG (fW iz (fW gY (pvD 1) (fW jg fH fH)) (fW mJ (pvD 4) (fW iz fH (fW gY (fW je (pvD 1) fH) fH)))) (pav 5 fM))) fM)))
     (fQ (gn (i:=2) ir.nd rfl orl (fW Hv (pvD 2) (pvD 5))))) gm)
    (fQ (iB (fY (jT) (pvD 2) fH (gk _)) (fQ (gj (fW (Ba (K:=K)) (gQ (Vb (K:=K)) (pvD 0) iJ (gZ (Va Mp fH))) (ju (fG (iy (pL (K:=K)) (by rfl) T.tY (by decide+kernel) (pav 3 fM)) fM))))) gm))))))
   (fQ (gj (pvD 0))))))),?_⟩
  simp only[start_eq];walk_at "l";refine⟨_,iD ht,.str e.word,gR (j:=0) rfl,sz,λq hq=>⟨_,.inr (iD fL),rfl,rfl,?_⟩⟩;have s1:=fO (o:=.tup [V.str (Str.ofString "sell"),V.str (Str.ofString "give")]) hq;have ae:Q (.ref t) (upd H q (.tup [V.str (Str.ofString "sell"),V.str (Str.ofString "give")])):=k t e _ s1 ⟨.non,s1 _ _ ht,by rw[ho];rfl⟩ ⟨hg,λrs z=>by rw[ho]at z;cases z⟩ rfl rfl;obtain⟨xs,ad⟩:∃xs,xs=V.str e.word::e.args .non:=⟨_,rfl⟩
  have aj:inV (V.str e.word) [V.str (Str.ofString "sell"),V.str (Str.ofString "give")]=true->∃pre p mk,aep xs pre p mk e.day e.num:=by
   intro ac
   cases e with
   |sell d n w p r f o=>exact⟨[.str "sell",.int d,.int n,.str w,.int p,.int r,.int f],p,λrs=> .sell d n w p r f (some rs),ad,by rw[ad];rfl,by simp,by simp,hg.2.1.1,λrs h=>⟨hg.1,hg.2.1,hg.2.2.1,hg.2.2.2.1,h⟩,λ_=>rfl,λ_ _=>rfl,λ_=>⟨rfl,rfl⟩⟩
   |give d n w p o=>exact⟨[.str "give",.int d,.int n,.str w,.int p],p,λrs=> .give d n w p (some rs),ad,by rw[ad];rfl,by simp,by simp,hg.2.1.1,λrs h=>⟨hg.1,hg.2.1,h⟩,λ_=>rfl,λ_ _=>rfl,λ_=>⟨rfl,rfl⟩⟩
   |buy=>exact absurd (show inV (V.str (Str.ofString "buy")) _=true from ac) (by decide+kernel)
   |gift=>exact absurd (show inV (V.str (Str.ofString "gift")) _=true from ac) (by decide+kernel)
   |split=>exact absurd (show inV (V.str (Str.ofString "split")) _=true from ac) (by decide+kernel)
   |part=>exact absurd (show inV (V.str (Str.ofString "part")) _=true from ac) (by decide+kernel)
  rw[<-ad]at ht;by_cases ac:inV (V.str e.word) [V.str (Str.ofString "sell"),V.str (Str.ofString "give")]=false
  ·rw[zp ac];exact ae
  rw[zk ac];refine⟨by decide,?_⟩;by_cases h3:c%3=0
  ·rw[zp h3];exact ae
  rw[zk h3];obtain⟨pre,p,mk,hc⟩:=aj (by simpa using ac);clear aj ae;generalize upd H q _=H1 at s1;walk_at "l";refine⟨_,iD (s1 _ _ ht),_,hc.p4,?_⟩;walk_at "l";refine⟨sz,λlp ar=>?_⟩;have ah:H lp=none:=s1.free ar;rw[ap_seq,ap_for];walk_at "i"
  obtain ⟨N,hN,bf⟩:∃N:Nat,(N:Int)=c/3%5/\N<=4:=by
   have h1:=zI (c/3) (show(5:Int)≠0 by decide);have h2:=zA (c/3) (show(0:Int)<5 by decide);exact⟨(c/3%5).toNat,by lia,by lia⟩
  rw[<-hN];refine⟨⟨by decide,by decide⟩,by decide,by lia,by lia,?_⟩;rw[show(1+(N:Int)).toNat=N+1 by lia]
  obtain ⟨st,bb,bc,ay⟩:∃st:Int,st=1+c/11%9/\1<=st/\st<=9:=by
   have h1:=zI (c/11) (show(9:Int)≠0 by decide);have h2:=zA (c/11) (show(0:Int)<9 by decide);exact⟨_,rfl,by lia,by lia⟩
  obtain⟨b,hb,b0,b1⟩:∃b:Int,b=c%10^Int.toNat 5/\0<=b/\b<100000:=⟨_,rfl,zI _ (by decide),zA _ (by decide)⟩
  refine Dr.range (λi σ H2=>∃rs left v4 v5,σ=[some (.ref t),some (.int c),some (.int left),some (.ref lp),v4,v5]/\Same H H2/\H2 lp=some (.lst (refs rs))/\Gw H2 rs/\1<=left/\left<=p/\left+(rs.map (·.2.2)).sum=p/\rs.length=i/\(∀r∈rs,1<=r.2.2/\r.2.2<=p)/\rs.map (·.2.1)=(List.range i).map (fun(j:Nat)=>b+(j:Int)*st)/\i<=N)
   ⟨[],p,none,none,rfl,s1.upd ah,fL,(λr hr=>by cases hr),hc.pp,yye _,by simp,rfl,(λr hr=>by cases hr),rfl,zQ _⟩ ?_ ?_
  ·rintro i σ H2 hi ⟨rs,left,v4,v5,rfl,s2,hl,hL,l0,l1,ao,ag,ap,ai,an⟩
   rw[ap_name];simp only[List.set_cons_zero,List.set_cons_succ,Int.zero_add];walk_at "l";have g0:=zI (c/(7*(i:Int)+5)) (show left≠0 by lia);have g1:=zA (c/(7*(i:Int)+5)) (show 0<left by lia);refine⟨Ia (by decide) (by decide),⟨by lia,zW (show(7*(i:Int)+5).natAbs<=100 by lia) (by decide)⟩,by lia,?_⟩;refine vU (λσ H'=>H'=H2/\∃so,1<=so/\so<=left/\(i=N->so=left)/\σ=[some (.ref t),some (.int c),some (.int left),some (.ref lp),some (.int i),some (.int so)]) ?_ ?_
   rotate_left
   ·intro M hM
    walk_at "i";refine⟨⟨by decide,by decide⟩,by decide,?_⟩;rw[<-hN];by_cases hk:(i:Int)=N
    ·rw[zp hk]
     exact hM _ _ ⟨rfl,left,by lia,yye _,λ_=>rfl,rfl⟩
    ·rw[zk hk]
     exact hM _ _ ⟨rfl,_,by lia,by lia,λh=>absurd h (by lia),rfl⟩
   ·rintro σ' H' ⟨rfl,so,aw,be,az,rfl⟩
    walk_at "l";rw[zp (by lia)];walk_at "l";refine⟨tyL (fU hl),⟨by decide,by decide,by decide⟩,by decide,⟨by decide,by decide⟩,by decide,Ia (by lia) (by lia),sz,λq1 ak=>?_⟩;rw[<-bb,<-hb];have am:lp≠q1:=λh=>by rw[h,ak]at hl;cases hl
    refine⟨refs rs,by rw[fX am];exact hl,by rw[jL,zc];lia,?_⟩;obtain⟨aa,ab⟩:∃aa:Rs,aa=rs++[(q1,b+i*st,so)]:=⟨_,rfl⟩;have au:refs rs++[V.ref q1]=refs aa:=by rw[ab];unfold refs;rw[zo];rfl
    rw[au];generalize af:upd (upd H' q1 _) lp (.lst (refs aa))=H3;have s3:Same H H3:=af▸(s2.upd (s2.free ak)).upd ah;have aq:H3 lp=some (.lst (refs aa)):=by rw[<-af,fL]
    have al:Gw H3 aa:=by
     intro r hr;rw[ab]at hr;rcases zG.mp hr with h|h
     ·have h2:=hL r h
      rw[<-af,fX (λz=>by rw[z,hl]at h2;cases h2),fX (λz=>by rw[z,ak]at h2;cases h2)];exact h2
     ·rw[zJ.mp h,<-af,fX am.symm,fL]
    have hsum':(aa.map (·.2.2)).sum=(rs.map (·.2.2)).sum+so:=by rw[ab,zo,List.sum_append];simp
    have hlen':aa.length=i+1:=by rw[ab,zm,ag];rfl
    have hb2':∀r∈aa,1<=r.2.2/\r.2.2<=p:=by
     intro r hr;rw[ab]at hr;rcases zG.mp hr with h|h
     ·exact ap r h
     ·rw[zJ.mp h];exact⟨aw,by show so<=p;lia⟩
    have hnum':aa.map (·.2.1)=(List.range (i+1)).map (fun(j:Nat)=>b+(j:Int)*st):=by
     rw[ab,zo,ai,List.range_succ,zo];rfl
    by_cases h0:left - so=0
    ·rw[zp h0]
     have hG:DQ aa p:=by
      refine⟨by lia,λr hr=>?_,?_,by lia⟩
      ·have h1:r.2.1∈aa.map (·.2.1):=zC.mpr ⟨r,hr,rfl⟩
       rw[hnum']at h1;obtain⟨j,hj,e⟩:=zC.mp h1;have hj:=zzB.mp hj;have m0:0<=(j:Int)*st:=Int.mul_nonneg (by lia) (by lia);have m1:(j:Int)*st<=4*9:=Int.mul_le_mul (by lia) ay (by lia) (by decide);exact⟨by lia,by lia,hb2' r hr⟩
      ·rw[hnum']
       refine List.pairwise_map.mpr (List.nodup_range.imp fun{a a'} h e=>h ?_);have e2:(a:Int)*st=(a':Int)*st:=by lia
       have:=Int.eq_of_mul_eq_mul_right (show st≠0 by lia) e2;lia
     have ht:=hc.x▸ht;refine⟨_,iD (s3 _ _ ht),Pn _ _,λp1 av=>?_⟩;rw[Xm];have t1:=fO (o:=.tup pre) av;refine⟨refs aa,.inl ⟨fU (t1 _ _ aq),λp2 as=>⟨sz,λp3 ba=>?_⟩⟩⟩;have t2:=fO (o:=.tup (refs aa)) as;have t3:=fO (o:=.tup [V.ref p2]) ba;have bd:=hc.l;refine⟨p1,p3,pre,[.ref p2],rfl,rfl,iD (t3 _ _ (t2 _ _ fL)),iD fL,hc.n,by rw[zc,yb];lia,(λh=>by cases h),λ_ p4 ax=>?_⟩;have t4:=fO (o:=.tup (pre++[V.ref p2])) ax;have tt:=t1.trans (t2.trans (t3.trans t4));refine k p4 (mk aa) _ (s3.trans tt) ⟨.ref p2,by rw[fL,hc.e],?_⟩ ⟨hc.g aa hG,λrs z=>by rw[hc.o]at z;cases z;lia⟩ (hc.dn aa).1 (hc.dn aa).2;rw[hc.o];exact⟨p2,rfl,t4 _ _ (t3 _ _ fL),al.same tt⟩
    ·rw[zk h0]
     exact ⟨s3,aa,aq,al,by lia,by lia,by lia,hlen',hb2',hnum',by
      rcases Nat.lt_or_ge i N with h|h
      ·lia
      ·exact absurd (az (by lia)) (by lia)⟩
  ·rintro σ H2 ⟨rs,left,v4,v5,rfl,s2,hl,hL,l0,l1,ao,ag,ap,ai,an⟩
   exact absurd an (by lia)
noncomputable def wW(T:Txt w K mg A D)(z:Value)(A':Around)(outer:List Env)(s0:Shared)(H:Hp)(E:XK)(q:nY 2 (A'.deeper (envOfC "_law_any" (fP nj) s0.heap.objs.size A.qt z))):
  {t:TS//PSs (pJ CX0 P w K mg base ["_law_script", "_law_most", "_law_wares_here", "_law_by", "_law_low", "_law_told_here", "_law_k", "_law_cell", "_law_small", "_law_great", "_law_kind", "_law_more", "_law_day", "_law_held", "_law_row"] "_law_any" (fP nj) A.qt z A' outer s0 H E).nox (iK nj) t}:=
 ⟨_,(fK (gn (i:=2) iu.nd rfl orl (pcg (Jr T) q T.sh (Nu T) (pav 0 fM)))
   (fK (gn (i:=3) iu.nd rfl orl (fW iz fH (fW gY (pcg (jz T) q T.sf (jH T) (pav 0 (fG fH fM))) fH)))
   (fK (gn (i:=4) iu.nd rfl orl (fW gY (fW je (pcg (jz T) q T.sf (jH T) (pav 0 (fG fH fM))) fH) (fW jg fH fH)))
   (fK (gn (i:=5) iu.nd rfl orl (iI fM))
   (fK (wj yw rfl (Zz (K:=K) (by rfl) T.tZ (fG (gQ (iG (K:=K)) (pcg (Jx T) q T.sq (wN T) (pav 0 fM)) iJ (gZ (pvD 1))) fM)) (wG (K:=K) (n:=2) rfl (gO (gA (i:=6) iu.nd rfl orl) (gO (gA (i:=7) iu.nd rfl orl) nP)))
    (fK (QQ (pcg (jK T) q T.r9 (kW T) (pav 7 (fG (iI (fG fH (fG (fW iz (fW jg fH fH) fH) (fG fH (fG fH fM))))) fM))) (Pa (K:=K) (n:=4) rfl (gO (gA (i:=8) iu.nd rfl orl) (gO (gA (i:=9) iu.nd rfl orl) (gO (gA (i:=10) iu.nd rfl orl) (gO (gA (i:=11) iu.nd rfl orl) nP))))))
    (fK (gn (i:=12) iu.nd rfl orl (gF (fV (K:=K)) (iI (pav 8 (pav 9 (fG (fW gY (pvD 9) fH) fM)))) (pvD 10) (λ_ _=>rfl)))
    (fK (gn (i:=13) iu.nd rfl orl (gF (fV (K:=K)) (iI (fG Eh (fG (Wf (Bc (gF (fV (K:=K)) (pvD 2) fH (λ_ _=>rfl)) (fW jg fH fH) (Bc (gF (fV (K:=K)) (pvD 2) fH (λ_ _=>rfl)) fH (Bc (gF (fV (K:=K)) (pvD 2) fH (λ_ _=>rfl)) (fW iz fH (pvD 8)) Tz))) rfl rfl (zzJ _ _) (zV rfl)) fM))) (iy Ez (by rfl) T.tT (by decide+kernel) (fG (Ca (xu) (pvD 11) fH (gk _)) fM)) (λ_ _=>rfl)))
    (fK (gn (i:=14) iu.nd rfl orl (pcg (Ji T) q T.sj (Nh T) (fG (fW je (pvD 7) fH) (pav 12 (fG (fW iz (pvD 4) (fW gY (fW mJ (fW iz (pvD 6) fH) (pvD 3)) fH)) (pav 2 (pav 13 fM)))))))
    (fQ (gU (jV (K:=K) zY z9 ya mj (pvD 5) (fG (pcg (Bp T) q T.sr (CT T) (pav 14 (fG (fW je (pvD 7) fH) fM))) fM)))))))))
   (fQ (gj (pvD 5))))))))⟩
def adk:∀b:Fin 61,b.val≠0->∃v:Fin 61,b.val*v.val%61=1:=by decide+kernel
def Xy{b i j:Nat}(b0:1<=b)(b1:b<=60)(hi:i<=60)(z:j<=60)(h:i*b%61=j*b%61):i=j:=by
 obtain⟨v,q⟩:=adk ⟨b,by lia⟩ (by show b≠0;lia);have q:b*v.val%61=1:=q
 have key:∀x,x<=60->x=(x*b%61)*v.val%61:=λx hx=>by
  rw[Nat.mod_mul_mod,Nat.mul_assoc,Nat.mul_mod,q,Nat.mul_one,Nat.mod_mod,Nat.mod_eq_of_lt (by lia)]
 rw[key i hi,key j z,h]
def aak{q b:Int}{i j:Nat}(z:1<=b)(b1:b<=60)(hi:i<60)(hj:j<60)(h:q+((i:Int)+1)*b%61=q+((j:Int)+1)*b%61):i=j:=by
 obtain⟨n,rfl⟩:∃n:Nat,b=n:=⟨b.toNat,by lia⟩;have h1:((i:Int)+1)*n%61=((j:Int)+1)*n%61:=by lia
 have h2:(i+1)*n%61=(j+1)*n%61:=by exact_mod_cast h1
 have:=Xy (b:=n) (i:=i+1) (j:=j+1) (by lia) (by lia) (by lia) (by lia) h2;lia
def aaB(q w1 z:Str){a b c:Int}(ha:0<=a)(hc:0<=c)(hb:0<=b:=by decide)(w:Str):∃i:Int,0<=i/\(oF (oX [] [(Sum.inr q,V.int a),(Sum.inr w1,V.int b),(Sum.inr z,V.int c)]) (Sum.inr w:Key)).getD (.int 0)=.int i:=by
 show∃i:Int,0<=i/\(oF (putK (putK (putK [] (Sum.inr q) (V.int a)) (Sum.inr w1) (V.int b)) (Sum.inr z) (V.int c)) (Sum.inr w:Key)).getD (.int 0)=.int i;rw[iW,iW,iW];split
 ·exact⟨c,hc,rfl⟩
 ·split
  ·exact⟨b,hb,rfl⟩
  ·split
   ·exact⟨a,ha,rfl⟩
   ·exact⟨0,yye _,rfl⟩
def VP{H:Hp}{q t:Addr}{e:Ent}{xs ys:List V}(hq:H q=some (.lst xs))(h:xW H t e):xW (upd H q (.lst ys)) t e:=by
 have key:∀{b:Addr}{zs:List V},H b=some (.tup zs)->(upd H q (.lst ys)) b=some (.tup zs):=λhb=>(fX λz=>by rw[z,hq]at hb;cases hb).trans hb;obtain⟨nt,ht,hn⟩:=h;refine⟨nt,key ht,?_⟩;revert hn
 cases e.lots with
 |none=>exact λh=>h
 |some rs=>
  rintro⟨l,e0,hl,hL⟩;exact⟨l,e0,key hl,λr hr=>key (hL r hr)⟩
structure Lp(B H:Hp)(pt:Addr)(tl:EL)(low by':Int)(i:Nat):Prop where
 s:Same B H
 l:H pt=some (.lst (jX tl))
 t:ToldN H tl
 n:tl.length=i
 m:∀(j:Nat) r,tl[j]? =some r->r.2.num=low+((j:Int)+1)*by'%61
theorem Lp.same{B H H':Hp}{pt:Addr}{tl:EL}{z q:Int}{i:Nat}(h:Lp B H pt tl z q i)(s:Same H H'):Lp B H' pt tl z q i:=⟨h.s.trans s,s _ _ h.l,h.t.same s,h.n,h.m⟩
noncomputable def Om(K:Fg_):Sp:=λvs H Q _=>∃(a:Addr)(ns:List Int)(m:Nat),vs=[.ref a,.int m]/\SqL K H a (ns.map V.int)/\ns.length<=63/\m<=60/\
 ∀p (tl:EL) H',Same H H'->H p=none->H' p=some (.lst (jX tl))->ToldN H' tl->tl.length<=m->(tl.map (·.2.num)).Nodup->(∀r∈tl,r.2.num<1000000)->Q (.ref p) H'
def Oa(T:Txt w K mg A D):ji P w K mg base CX0 3 A.qt D.qt ["_law_script", "_law_most"] (Om K):=by
 refine T.ss.F.ok iu (by walk_at "v") (λbt A' outer s0 H vs Q E hr h=>?_)
 ·obtain⟨a,ns,m,rfl,hS,hl,hm,k⟩:=h
  refine⟨(wW (base:=base) T bt A' outer s0 H E hr).1,(wW (base:=base) T bt A' outer s0 H E hr).2,?_⟩;unfold wW;simp only[start_eq];walk_at "m";refine⟨a,ns,rfl,hS,λwa ws H1 s1 ck hW as=>?_⟩;walk_at "m";refine⟨a,ns,2,rfl,s1.seq hS,_,rfl,by decide,?_⟩;obtain⟨z,cc⟩:∃b,b=1+ns.getD 2 0%60:=⟨_,rfl⟩;have bf:1<=z/\z<=60:=by lia
  rw[<-cc];walk_at "m";refine⟨a,ns,2,rfl,s1.seq hS,_,rfl,⟨by decide,by decide⟩,⟨by decide,by decide,by decide⟩,by decide,?_⟩;obtain⟨aa,an⟩:∃aa,aa=ns.getD 2 0/60%10^Int.toNat 5:=⟨_,rfl⟩;have bl:0<=aa/\aa<100000:=by rw[an];exact⟨zI _ (by decide),zA _ (by decide)⟩
  rw[<-an];walk_at "m";refine⟨sz,λpt ad=>?_⟩;have S1:=s1.trans (fO (o:=.lst []) ad);have av:(upd H1 pt (.lst [])) pt=some (.lst []):=fL;have ai:=fO (o:=.lst []) ad _ _ as;have c0:=s1.free ad;have n1:=fO (o:=.lst []) ad;generalize upd H1 pt (.lst [])=H1' at S1 av ai n1
  try dsimp only
  rw[ap_seq,ap_for];walk_at "i";refine⟨a,ns,rfl,S1.seq hS,hl,λp1 bb H2 s2 cm h2=>?_⟩;refine⟨p1,rfl,_,fU h2,λq1 ay=>⟨⟨_,fU fL⟩,?_⟩⟩;rw[kY,<-z8];have bu:(bb.take m).length<=m:=by rw[zx];lia
  generalize bb.take m=cs at bu;have s3:=s2.trans (fO (o:=.lst (cs.map V.int)) ay);have am:(upd H2 q1 (.lst (cs.map V.int))) q1=some (.lst (cs.map V.int)):=fL;have b0:q1≠pt:=λe=>by rw[e,s2 _ _ av]at ay;cases ay
  have L3:Lp H1 (upd H2 q1 (.lst (cs.map V.int))) pt [] aa z 0:=⟨n1.trans s3,s3 _ _ av,λr h=>(zg h).elim,rfl,λj r h=>by simp at h⟩;generalize upd H2 q1 _=H3 at s3 am L3;have cj:=s3 _ _ ai;have cy:=(S1.trans s3).seq hS;have cu:∀{Hx:Hp},Same H3 Hx->True:=λ_=>trivial
  refine Dr.enum (K:=K) (a:=q1) (xs:=cs.map V.int) (λi σ H4=>∃(tl:EL)(v6 v7 v8 v9 ax aq ap aw ao:Option V),σ=[some (.ref a),some (.int m),some (.ref wa),some (.int z),some (.int aa),some (.ref pt),v6,v7,v8,v9,ax,aq,ap,aw,ao]/\Lp H1 H4 pt tl aa z i/\H4 q1=some (.lst (cs.map V.int)))
   ⟨[],_,_,_,_,_,_,_,_,_,rfl,L3,am⟩ (λi σ H4 _ ⟨_,_,_,_,_,_,_,_,_,_,_,_,h⟩=>fU h) ?_ ?_
  ·rintro i y σ H4 pe hi ⟨tl,v6,v7,v8,v9,ax,aq,ap,aw,ao,rfl,L4,bd⟩ ch
   obtain⟨c,rfl,cg⟩:=Ou hi;have ct:i<cs.length:=(zv.mp cg).1;have n5:=fO (o:=.tup [V.int i,V.int c]) ch;have L5:=L4.same n5;have br:=n5 _ _ bd;walk_at "i";refine⟨_,iD fL,rfl,_,_,rfl,_,_,rfl,rfl,?_⟩;generalize upd H4 pe _=H5 at L5 br;walk_at "m";refine⟨⟨by decide,by decide,by decide⟩,sz,λp2 ca=>?_⟩;have n6:=fO (o:=.lst [V.int 4,V.int (10^Int.toNat 6+1),V.int 3,V.int 3]) ca;refine⟨c,p2,[4,1000001,3,3],rfl,fU (by rw[fL];rfl),by unfold Jh;decide,by decide,λp3 H6 t6 cx h6=>?_⟩;have L6:=(L5.same n6).same t6;have bx:=t6 _ _ (n6 _ _ br);obtain⟨sm,gr,kd,mo,b5,co,c2,cr,cp⟩:∃sm gr kd mo,Kc c [4,1000001,3,3]=[sm,gr,kd,mo]/\(0<=sm/\sm<4)/\(0<=gr/\gr<1000001)/\(0<=kd/\kd<3)/\(0<=mo/\mo<3):=⟨_,_,_,_,rfl,by lia,by lia,by lia,by lia⟩;rw[b5]at h6;refine⟨p3,rfl,_,fU h6,rfl,_,_,rfl,_,_,rfl,_,_,rfl,_,_,rfl,rfl,?_⟩;walk_at "m";refine⟨by decide,sz,λp4 b2=>?_⟩
   obtain ⟨ae,bh,aj⟩:∃ae:Int,atI [V.int sm,V.int gr,V.int (gr%30)] kd=some (.int ae)/\(0<=ae/\ae<=1000000):=by
    rcases(show kd=0\/kd=1\/kd=2 by lia)with e|e|e<;>rw[e]
    ·exact⟨sm,rfl,by lia⟩
    ·exact⟨gr,rfl,by lia⟩
    ·exact⟨gr%30,rfl,by lia⟩
   refine⟨_,fU fL,_,bh,?_⟩;have n7:=fO (o:=.lst [V.int sm,V.int gr,V.int (gr%30)]) b2;have L7:=L6.same n7;have be:=n7 _ _ bx;generalize upd H6 p4 _=H7 at L7 be;walk_at "m";intro p8 b6;have n8:=fO (o:=.dK []) b6;have bv:(upd H7 p8 (.dK [])) p8=some (.dK []):=fL;have L8:=L7.same n8;have az:=n8 _ _ be;generalize upd H7 p8 (.dK [])=H8 at L8 az bv
   obtain ⟨w0,w1,w2,wr,b7⟩:∃w0 w1 w2 wr,ws=w0::w1::w2::wr:=by
    have:=hW.l0
    cases ws with
    |nil=>simp at this
    |cons w0 r=>cases r with
     |nil=>simp at this
     |cons w1 r=>cases r with
      |nil=>simp at this
      |cons w2 r=>exact⟨w0,w1,w2,r,rfl⟩
   intro pd bs;have t8:=fO (o:=.dK []) bs;have ac:=t8 _ _ (L8.s _ _ as);rw[b7]at ac;simp only[Np];walk_at "i";refine⟨_,fU ac,.str w0,gR (j:=0) rfl,⟨by decide,by decide,by decide⟩,_,fU ac,.str w1,gR (j:=1) rfl,_,fU ac,.str w2,gR (j:=2) rfl,fL,[(Sum.inr w0,.int (10^Int.toNat 9)),(Sum.inr w1,.int 50),(Sum.inr w2,.int (3+sm))],rfl,by simp,?_⟩;rw[aae];obtain⟨af,al⟩:∃k,k=oX [] [(Sum.inr w0,V.int (10^Int.toNat 9)),(Sum.inr w1,V.int 50),(Sum.inr w2,V.int (3+sm))]:=⟨_,rfl⟩;rw[<-al];have n9:=fO (o:=.dK af) bs;have bk:(upd H8 pd (.dK af)) pd=some (.dK af):=fL;have L9:=L8.same n9;have bp:=n9 _ _ az;have ak:=n9 _ _ bv;generalize upd H8 pd (.dK af)=H9 at L9 bp bk ak;refine⟨sz,λau bm=> .inr ?_⟩;have ag:=fO (o:=.lst [V.ref p8,V.ref pd]) bm;have bq:(upd H9 au (.lst [V.ref p8,V.ref pd])) au=some (.lst [V.ref p8,V.ref pd]):=fL;have ar:=L9.same ag;have ah:=ag _ _ bp;have bg:=ag _ _ ak;have ba:=ag _ _ bk;generalize upd H9 au (.lst [V.ref p8,V.ref pd])=b1 at ar ah bq bg ba
   obtain ⟨hd,kvs,b9,ce,hok⟩:∃(hd:Addr)(kvs:List (Key×V)),atI [V.ref p8,V.ref pd] (if 0<mo then 1 else 0)=some (.ref hd)/\b1 hd=some (.dK kvs)/\∀w:Str,∃i:Int,0<=i/\(oF kvs (Sum.inr w)).getD (.int 0)=.int i:=by
    by_cases q:0<mo
    ·rw[zp q]
     exact⟨pd,af,rfl,ba,by rw[al];exact aaB w0 w1 w2 (by decide) (by lia)⟩
    ·rw[zk q]
     exact⟨p8,[],rfl,bg,λw=>⟨0,yye _,rfl⟩⟩
   refine⟨_,fU bq,_,b9,?_⟩
   have bn:0<=aa+((i:Int)+1)*z%61/\aa+((i:Int)+1)*z%61<=1000000:=by
    have:=zI (((i:Int)+1)*z) (show(61:Int)≠0 by decide);have:=zA (((i:Int)+1)*z) (show(0:Int)<61 by decide);lia
   walk_at "m";refine⟨⟨by decide,by decide⟩,QT (by lia) (by lia),by decide,_,ae,aa+((i:Int)+1)*z%61,wa,hd,ws,kvs,rfl,ar.s _ _ as,hW,ce,hok,⟨aj.1,aj.2⟩,⟨bn.1,bn.2⟩,λt e cl bw cq ht hg ho cz bz _=>?_⟩;have bi:=ar.same bw;have bo:=bw _ _ ah;refine⟨.inl ⟨rfl,_,fU bi.l⟩,⟨by decide,by decide⟩,t,_,e,rfl,ht,hg,ho,λt' e' cv bc ci b4 c1 b3=>?_⟩;have ab:=bi.same bc;have bj:=bc _ _ bo;refine⟨_,ab.l,by rw[pC,ab.n,zc];lia,tl++[(t',e')],⟨ab.s.upd ad,?_,λr hr=>?_,by rw[zm,ab.n];rfl,λj r hj=>?_⟩,(fX b0).trans bj⟩
   ·rw[fL];unfold jX;rw[zo];rfl
   ·rcases zG.mp hr with hr|hr
    ·exact⟨VP ab.l (ab.t r hr).1,(ab.t r hr).2⟩
    ·obtain rfl:=zJ.mp hr
     exact⟨VP ab.l ci,b4⟩
   ·by_cases cf:j<tl.length
    ·rw[zZ cf]at hj
     exact ab.m j r hj
    ·rw[yn (by lia)]at hj
     have b8:j - tl.length=0:=by
      have:=(zv.mp hj).1;simp at this;lia
     rw[b8]at hj;cases hj;have:j=i:=by have:=ab.n;lia
     rw[this];exact b3.trans bz
  ·rintro σ H4 ⟨tl,v6,v7,v8,v9,ax,aq,ap,aw,ao,rfl,L4,bd⟩
   rw[za]at L4;have cn:tl.length<=60:=by rw[L4.n];lia
   have cb:(tl.map (·.2.num)).Nodup:=by
    refine List.pairwise_map.mpr (List.pairwise_iff_getElem.mpr λi j hi hj cw=>?_);rw[L4.m i _ (zD hi),L4.m j _ (zD hj)];intro e;have:=aak bf.1 bf.2 (by lia) (by lia) e;lia
   walk_at "a"
   exact k pt tl H4 (s1.trans L4.s) (s1.free ad) L4.l L4.t (by rw[L4.n];exact bu) cb (λr hr=>by
    obtain⟨i,hi,e⟩:=yD hr;have:=L4.m i r (by rw[zD hi,e]);have:=zA (((i:Int)+1)*z) (show(0:Int)<61 by decide);lia)
def Us{rs:EL}{i:Nat}{y:V}(h:(jX rs)[i]? =some y):∃r,rs[i]? =some r/\y=.ref r.1:=by
 unfold jX at h;rw[zE]at h
 cases e:rs[i]? with
 |none=>rw[e]at h;cases h
 |some r=>rw[e]at h;exact⟨r,rfl,(zt h).symm⟩
def QH(e:Ent)(q:V):V.str e.word::e.args q=[.str e.word,.int e.day,.int e.num,.str e.ware]++(e.rest++(if e.nml then[q]else[])):=by cases e<;>rfl
def ats(e:Ent)(q:V):atI (V.str e.word::e.args q) 0=some (.str e.word)/\atI (V.str e.word::e.args q) 1=some (.int e.day)/\atI (V.str e.word::e.args q) 2=some (.int e.num)/\atI (V.str e.word::e.args q) 3=some (.str e.ware):=by cases e<;>exact⟨rfl,rfl,rfl,rfl⟩
def Jl(e:Ent):(e.word=Str.ofString "sell" \/e.word=Str.ofString "give")↔e.nml=true:=by
 cases e with
 |sell=>exact⟨λ_=>rfl,λ_=> .inl rfl⟩
 |give=>exact⟨λ_=>rfl,λ_=> .inr rfl⟩
 |_=>exact⟨λh=>absurd h (by simp only[Ent.word];decide+kernel),λh=>by cases h⟩
def XX(e:Ent)(q:V):CK (V.str e.word::e.args q) (some 4) none=e.rest++(if e.nml then[q]else[]):=by
 rw[QH];exact Xh [.str e.word,.int e.day,.int e.num,.str e.ware] _
def Wc(e:Ent)(q:V):¬(HT.sIx (V.str e.word::e.args q).length 0 (some 4)=0/\HT.sIx (V.str e.word::e.args q).length (V.str e.word::e.args q).length none=(V.str e.word::e.args q).length):=λh=>by
 have h1:=h.1;rw[show(4:Int)=((4:Nat):Int)from rfl,HT.sIx_nat,QH,zm]at h1;simp at h1
def aac(e:Ent):(e.ws.map sV).map V.str=([V.str (jG e.day),V.str (jG e.num),V.str e.word,V.str e.ware]++(e.rest.map sV).map V.str)++(nwO e.lots).map V.str:=by
 have h:((nwO e.lots).map V.str).map sV=nwO e.lots:=by rw[zP];exact zzO _
 unfold Ent.ws;rw[zo,zo,zo,zo,h];rfl
theorem Kq:∀(os:List Ent)(t:Str),(os.foldl (λt e=>t++RT e.ws) t).length=t.length+(os.map λe=>(RT e.ws).length).sum
 |[],t=>by simp
 |e::os,t=>by
  rw[zzc,Kq os,str_len,zj,yY];lia
def Rz(os:List Ent)(e:Ent):wg (os++[e])=wg os++RT e.ws:=by
 unfold wg;rw[List.foldl_append];rfl
noncomputable def Kr(K:Fg_):Sp:=λvs H Q _=>∃(p:Addr)(tl:EL),vs=[.ref p]/\H p=some (.lst (jX tl))/\ToldN H tl/\tl.length<=60/\∀H',Same H H'->Q (.str (wg (tl.map (·.2)))) H'
def MF(T:Txt w K mg A D):ji P w K mg base CX0 1 A.qh D.qh ["_law_told_here"] (Kr K):=by
 refine T.r6.F.okv iR λ_ _ _ _ H vs Q E hr h=>?_
 ·obtain⟨p,tl,rfl,hp,hT,hl,k⟩:=h
  refine ⟨_,(fK (gn (i:=1) iR.nd rfl orl fZ)
   (fK (wj yw rfl (mQ (K:=K) (pv 0)) (gA (i:=2) iR.nd rfl orl)
    (fK (gn (i:=3) iR.nd rfl orl (iI (fG (iy wz (by rfl) T.tR (by decide+kernel) (fG (gF (jP (K:=K)) (pvD 2) fH (λ_ _=>rfl)) fM)) (fG (iy wz (by rfl) T.tR (by decide+kernel) (fG (gF (jP (K:=K)) (pvD 2) fH (λ_ _=>rfl)) fM)) (fG (gF (jP (K:=K)) (pvD 2) fH (λ_ _=>rfl)) (fG (gF (jP (K:=K)) (pvD 2) fH (λ_ _=>rfl)) fM))))))
    (fK (gn (i:=4) iR.nd rfl orl (iy (Hw (K:=K)) (by rfl) T.tQ (by decide+kernel) (fG (gQ (Vb (K:=K)) (pvD 2) (gZ fH) iJ) fM)))
    (fK (gn (i:=5) iR.nd rfl orl jJ)
    (fK (iB (PW.pt (nZ (fY (jT) (gF (jP (K:=K)) (pvD 2) fH (λ_ _=>rfl)) fZ (gk _)) (lY (fY (jT) (gF (jP (K:=K)) (pvD 2) fH (λ_ _=>rfl)) fZ (gk _))))) (fQ (gn (i:=5) iR.nd rfl orl (Vh (K:=K) zY PySem.F.slot_list_pop PySem.F.type_list_pop Zc (pvD 4)))) gm)
    (fK (gn (i:=3) iR.nd rfl orl (fW vW (pvD 3) (jA (cap:=[none]) (N':=["_law_thing"]) rfl (by walk_at "c") (mQ (K:=K) (pv 4)) (λ_ _ _ _=>(gA (i:=0) nd1 rfl orl orr)) (λ_ _ _ _=>jD) (λ_ _ _ _=>(iy wz (by rfl) T.tR (by decide+kernel) (pav 0 fM))))))
    (fK (iB (fY (aaK) (pvD 5) jJ (gk _)) (fQ (gn (i:=3) iR.nd rfl orl (fW vW (pvD 3) (jA (cap:=[none,none]) (N':=["_law_lot", "_law_some"]) rfl (by walk_at "c") (aaT (K:=K) (pvD 5)) (λ_ _ _ _=>(wG (K:=K) (n:=2) rfl (gO (gA (i:=0) (show(["_law_lot", "_law_some"]:List Str).Nodup from by decide+kernel) rfl orl orr) (gO (gA (i:=1) (show(["_law_lot", "_law_some"]:List Str).Nodup from by decide+kernel) rfl orl orr) nP)))) (λ_ _ _ _=>jD) (λ_ _ _ _=>(fW jr (fW jr (iy wz (by rfl) T.tR (by decide+kernel) (pav 0 fM)) fZ) (iy wz (by rfl) T.tR (by decide+kernel) (pav 1 fM)))))))) gm)
    (fQ (gn (i:=1) iR.nd rfl orl (fW jr (fW jr (pvD 1) (jV (K:=K) zT yM yN Fo fZ (pav 3 fM))) fZ))))))))))
   (fQ (gj (pvD 1))))),?_⟩
  simp only[start_eq];walk_at "m"
  try dsimp only
  rw[ap_seq,ap_for];walk_at "i";refine⟨⟨_,fU hp⟩,?_⟩
  refine wV (K:=K) (a:=p) (xs:=jX tl) (λi σ Hx=>∃(v2 v3 v4 v5:Option V),σ=[some (.ref p),some (.str (wg ((tl.map (·.2)).take i))),v2,v3,v4,v5]/\Same H Hx)
   ⟨_,_,_,_,rfl,same_refl _⟩ (λi σ Hx _ ⟨_,_,_,_,_,s⟩=>s.seq (fU hp)) ?_ ?_
  ·rintro i x σ H1 hx ⟨v2,v3,v4,v5,rfl,s1⟩
   obtain⟨r,aq,rfl⟩:=Us hx;obtain⟨⟨nt,ht,ai⟩,hg⟩:=(hT.same s1) r (zb aq);obtain⟨a0,a1,a2,a3⟩:=ats r.2 nt;have hb:=wC hg.1;have bj:=hb.d0;have bg:=hb.d1;have bf:=hb.n0;have bh:=hb.n1;walk_at "i";walk_at "m";refine⟨_,iD ht,_,a1,.inl ⟨_,rfl,lA (by lia),_,iD ht,_,a2,.inl ⟨_,rfl,lA (by lia),_,iD ht,_,a0,_,iD ht,_,a3,sz,λp2 ao=>?_⟩⟩⟩;have n2:=fO (o:=.lst [V.str (jG r.2.day),V.str (jG r.2.num),V.str r.2.word,V.str r.2.ware]) ao;have h2:(upd H1 p2 (.lst [V.str (jG r.2.day),V.str (jG r.2.num),V.str r.2.word,V.str r.2.ware])) p2=some (.lst [V.str (jG r.2.day),V.str (jG r.2.num),V.str r.2.word,V.str r.2.ware]):=fL;generalize upd H1 p2 (.lst [V.str (jG r.2.day),V.str (jG r.2.num),V.str r.2.word,V.str r.2.ware])=H2 at n2 h2;have bb:=s1.free ao;walk_at "m";refine⟨_,iD (n2 _ _ ht),Wc r.2 nt,λp3 au=>?_⟩;rw[XX];have n3:=fO (o:=.tup (r.2.rest++(if r.2.nml then[nt]else[]))) au;have h3:(upd H2 p3 (.tup (r.2.rest++(if r.2.nml then[nt]else[])))) p3=some (.tup (r.2.rest++(if r.2.nml then[nt]else[]))):=fL;generalize upd H2 p3 (.tup (r.2.rest++(if r.2.nml then[nt]else[])))=H3 at n3 h3;refine⟨_,.inr (iD h3),λp4 ad=>?_⟩;have n4:=fO (o:=.lst (r.2.rest++(if r.2.nml then[nt]else[]))) ad;have h4:(upd H3 p4 (.lst (r.2.rest++(if r.2.nml then[nt]else[])))) p4=some (.lst (r.2.rest++(if r.2.nml then[nt]else[]))):=fL;generalize upd H3 p4 (.lst (r.2.rest++(if r.2.nml then[nt]else[])))=H4 at n4 h4;have af:=n2.trans (n3.trans n4);have S4:=s1.trans af;have aj:=(n3.trans n4) _ _ h2;have ap:=af _ _ ht;have ba:=ai.same af;have am:H p4=none:=(s1.trans (n2.trans n3)).free ad;have ah:H1 p4=none:=(n2.trans n3).free ad;have ax:p2≠p4:=λz=>by have:=n3 _ _ h2;rw[z,ad]at this;cases this
   walk_at "m"
   try dsimp only
   refine vU (λσ' H'=>∃u,σ'=[some (.ref p),some (.str (wg ((tl.map (·.2)).take i))),some (.ref r.1),some (.ref p2),some (.ref p4),some u]/\Same H H'/\H' p4=some (.lst r.2.rest)/\H' p2=some (.lst [V.str (jG r.2.day),V.str (jG r.2.num),V.str r.2.word,V.str r.2.ware])/\NT H' u r.2.lots) ?_ ?_
   rotate_left
   ·intro N hN
    walk_at "i";refine⟨_,iD ap,_,a0,rfl,?_⟩
    have ak:r.2.nml=true->tyV K "list" (.ref p4) H4/\adQ (.ref p4) [] H4 λx H'=>N [some (.ref p),some (.str (wg ((tl.map (·.2)).take i))),some (.ref r.1),some (.ref p2),some (.ref p4),some x] H':=λhm=>by
     rw[hm]at h4;refine⟨.inl ⟨rfl,_,fU h4⟩,p4,_,nt,rfl,rfl,h4,by simp,hN _ _ ⟨_,rfl,S4.upd am,?_,(fX ax).trans aj,?_⟩⟩
     ·rw[fL,zp rfl,List.dropLast_concat]
     ·exact ai.same (af.upd ah)
    by_cases hs:r.2.word=Str.ofString "sell"
    ·rw[zp (congrArg V.str hs)]
     exact ak ((Jl _).mp (.inl hs))
    rw[zk λz=>hs (V.str.inj z)];refine⟨_,iD ap,_,a0,rfl,?_⟩;by_cases hv:r.2.word=Str.ofString "give"
    ·rw[zp (congrArg V.str hv)]
     exact ak ((Jl _).mp (.inr hv))
    rw[zk λz=>hv (V.str.inj z)];rcases Tj r.2 nt with⟨hm,_⟩|⟨hm,ae,_⟩
    ·exact absurd ((Jl _).mpr hm) (λq=>q.elim hs hv)
    ·rw[hm,zk (by decide),z0]at h4
     exact hN _ _ ⟨_,rfl,S4,h4,aj,by rw[ae];rfl⟩
   rintro σ' H5 ⟨u,rfl,S5,h5,ay,az⟩;obtain⟨r1,r2⟩:=Uj hg.1;obtain⟨w1,w2⟩:=acK hg;have bc:=(Yy hg).2;obtain⟨pp,bk,aa⟩:=Qn hg.1
   try dsimp only
   walk_at "m";refine⟨⟨_,fU h5⟩,?_⟩;refine jC.list (K:=K) (xs:=r.2.rest) (λσ=>∃a,σ=[a]) (λ_=>true) (λv=> .str (sV v)) (fU h5) ⟨_,rfl⟩ (by rw[zc];lia) ?_ ?_
   ·rintro x hx σ H6 R1 R2 ⟨_,rfl⟩ sm k1 k2
    walk_at "i";rcases r1 x hx with⟨j,rfl,hj⟩|⟨z,rfl,hz⟩
    ·exact .inl ⟨j,rfl,hj,k1 rfl _ _ ⟨_,rfl⟩ (same_refl _)⟩
    ·exact .inr ⟨z,rfl,k1 rfl _ _ ⟨_,rfl⟩ (same_refl _)⟩
   intro D6 H6 be s6 h6;rw[abm]at h6;refine⟨p2,D6,_,_,rfl,rfl,s6 _ _ ay,h6,by rw[zc,za,za];simp;lia,λp7 as=>?_⟩;obtain⟨W0,ag⟩:∃W0,W0=[V.str (jG r.2.day),V.str (jG r.2.num),V.str r.2.word,V.str r.2.ware]++(r.2.rest.map sV).map V.str:=⟨_,rfl⟩;have bd:W0.length<=7:=by rw[ag,zm,za,za];simp;lia
   rw[<-ag];have n7:=fO (o:=.lst W0) as;have h7:(upd H6 p7 (.lst W0)) p7=some (.lst W0):=fL;generalize upd H6 p7 (.lst W0)=H7 at n7 h7;have S7:=S5.trans (s6.trans n7);have ac:=az.same (s6.trans n7)
   try dsimp only
   refine vU (λσ' H'=>∃pw,σ'=[some (.ref p),some (.str (wg ((tl.map (·.2)).take i))),some (.ref r.1),some (.ref pw),some (.ref p4),some u]/\Same H H'/\H' pw=some (.lst ((r.2.ws.map sV).map V.str))) ?_ ?_
   rotate_left
   ·intro N hN
    have ab:=aac r.2;rw[<-ag]at ab;walk_at "i"
    cases ae:r.2.lots with
    |none=>
     rw[ae]at ac ab;have hu:u=.non:=ac;subst hu;rw[zk (by simp)];exact hN _ _ ⟨p7,rfl,S7,by rw[ab,h7];exact congrArg (λz=>some (HO.lst z)) (z0 _).symm⟩
    |some rs=>
     rw[ae]at ac ab aa;obtain⟨l,rfl,al,hL⟩:=ac;have aa:DQ rs pp:=aa;rw[zp (by simp)];refine⟨l,rfl,⟨_,iD al⟩,?_⟩;refine jC.tupF (λσ=>∃a b,σ=[a,b]) (lwV H7) (iD al) ⟨_,_,rfl⟩ (by rw[jL,zc];have:=aa.l;lia) ?_ ?_
     ·rintro x hx σ H8 R ⟨_,_,rfl⟩ sm kk
      obtain⟨q,hq,rfl⟩:=zC.mp hx;have an:=hL q hq;obtain⟨b0,b1,b2,b3⟩:=aa.b q hq;have b4:=lO (lA (i:=q.2.1) (by lia));have b5:=lO (lA (i:=q.2.2) (by lia));have e1:(Str.ofString ":").length=1:=by decide+kernel
      rw[Zj an]at kk;walk_at "i";exact⟨_,iD (sm _ _ an),rfl,_,_,rfl,_,_,rfl,rfl,.inl ⟨_,rfl,lA (by lia),by rw[e1,zc];lia,.inl ⟨_,rfl,lA (by lia),by rw[str_len,e1,zc];lia,kk _ _ ⟨_,_,rfl⟩ (same_refl _)⟩⟩⟩
     ·intro D8 H8 bi s8 h8
      rw[YD hL]at h8;refine⟨p7,D8,_,_,rfl,rfl,s8 _ _ h7,h8,by rw[za,za,zc];have:=aa.l;lia,λp9 ar=>hN _ _ ⟨p9,rfl,(S7.trans s8).trans (fO ar),?_⟩⟩;rw[fL,ab];rfl
   rintro σ' H8 ⟨pw,rfl,S8,h8⟩
   have av:∀e∈(tl.map (·.2)).take i,e.good5:=λe he=>by
    obtain⟨q,hq,rfl⟩:=zC.mp (z5 he);exact(hT q hq).2
   have l1:(wg ((tl.map (·.2)).take i)).length<=12013*60:=by
    unfold wg;rw[Kq];have q1:=text_len _ av;have q2:((tl.map (·.2)).take i).length<=60:=by rw[zx,za];lia
    have q3:(Str.ofString "").length=0:=by decide+kernel
    have q4:=Nat.mul_le_mul_left 12013 q2;lia
   have e1:(Str.ofString " ").length=1:=by decide+kernel
   have e2:(Str.ofString "\n").length=1:=by decide+kernel
   have l2:=Eo w1;have l3:=Ug w1;have l4:=l3;unfold RT at l4;rw[str_len,e2]at l4;have aw:(tl.map (·.2))[i]? =some r.2:=by rw[zE,aq];rfl
   try dsimp only
   walk_at "i";refine⟨rfl,_,h8,by rw[za,e1];lia,by rw[zc];lia,by rw[str_len,e2,zc];lia,?_,S8⟩;rw[yq,aw];exact((Rz _ r.2).trans (Lx _ _ _).symm).symm
  ·rintro σ H1 ⟨v2,v3,v4,v5,rfl,s1⟩
   rw[pC,<-za (f:=λr:Addr×Ent=>r.2),zzn];walk_at "a";exact k H1 s1
noncomputable def Runs(R:Nat)(l:List Nat):Prop:=∀s v u,l=s++v++u->10∉v->v.length<=R
def Runs.mono{R S:Nat}{l:List Nat}(h:Runs R l)(hl:R<=S):Runs S l:=λs v u e q=>zF (h s v u e q) hl
def Runs.part{R:Nat}{l a b c:List Nat}(h:Runs R l)(e:l=a++b++c):Runs R b:=λs v u q z=>h (a++s) v (u++c) (by rw[e,q];simp only[List.append_assoc]) z
def BL{l:List Nat}:Runs l.length l:=λs v u e _=>by rw[e,zm,zm];lia
def IV{R S:Nat}{x y:List Nat}(hx:Runs R x)(hy:Runs S y):Runs (R+S) (x++y):=λs v u e hv=>by
 rcases yO.mp e with⟨as,e1,e2⟩|⟨bs,e1,e2⟩
 ·rcases yO.mp e1 with⟨cs,e3,q⟩|⟨ds,e3,q⟩
  ·have h1:=hx s cs [] (by rw[e3,z0]) λz=>hv (by rw[q];exact yB _ z)
   have h2:=hy [] as u (by rw[e2,yR]) λz=>hv (by rw[q];exact zM _ z);rw[q,zm];lia
  ·have:=hy ds v u (by rw[e2,q]) hv
   lia
 ·have:=hx s v bs e1 hv
  lia
def Xj{R:Nat}{x y:List Nat}(hx:Runs R x)(hy:Runs R y):Runs R (x++10::y):=λs v u e hv=>by
 rcases yO.mp e with⟨as,q,e2⟩|⟨bs,q,e2⟩
 ·cases as with
  |nil=>exact hx s v [] (by rw[z0]at q⊢;exact q.symm) hv
  |cons c as=>
   rw[yy]at e2;injection e2 with e5 e6
   subst e5;rcases yO.mp q with⟨cs,e3,z⟩|⟨ds,e3,z⟩
   ·exact absurd (by rw[z];exact zM _ zi) hv
   ·cases ds with
    |nil=>exact absurd (by rw[show v=10::as from z.symm];exact zi) hv
    |cons d ds=>
     rw[yy]at z;injection z with _ e7
     exact hy ds v u (by rw[e6,e7]) hv
 ·exact hx s v bs q hv
noncomputable def jn:List (List Nat)->List Nat
 |[]=>[]
 |[p]=>p
 |p::q::ps=>p++10::jn (q::ps)
theorem Og{R:Nat}:∀{ps:List (List Nat)},(∀p∈ps,p.length<=R)->Runs R (jn ps)
 |[],_=>BL.mono (zQ _)
 |[p],h=>BL.mono (h p zi)
 |p::q::ps,h=>Xj (BL.mono (h p zi)) (Og λx z=>h x (zr _ z))
theorem YC:∀{ps:List (List Nat)}{p:List Nat},p∈ps->∃s u,jn ps=s++p++u
 |[],_,h=>(zg h).elim
 |[q],p,h=>⟨[],[],by rw[zJ.mp h];simp[jn]⟩
 |r::q::ps,p,h=>by
  rcases zh.mp h with rfl|h
  ·exact⟨[],10::jn (q::ps),by simp[jn]⟩
  ·obtain⟨s,u,e⟩:=YC h
   exact⟨r++10::s,u,by show r++10::jn (q::ps)=_;rw[e];simp⟩
theorem acH:∀l:List Nat,∃ps:List (List Nat),ps≠[]/\(∀p∈ps,10∉p)/\l=jn ps
 |[]=>⟨[[]],by simp,λp hp=>by rw[zJ.mp hp];simp,rfl⟩
 |c::l=>by
  obtain⟨ps,h1,h2,h3⟩:=acH l;by_cases hc:c=10
  ·refine⟨[]::ps,by simp,λp hp=>?_,?_⟩
   ·rcases zh.mp hp with rfl|hp
    ·simp
    ·exact h2 p hp
   ·cases ps with
    |nil=>exact absurd rfl h1
    |cons q ps=>rw[hc,h3];rfl
  ·cases ps with
   |nil=>exact absurd rfl h1
   |cons q ps=>
    refine⟨(c::q)::ps,by simp,λp hp=>?_,?_⟩
    ·rcases zh.mp hp with rfl|hp
     ·intro z
      rcases zh.mp z with z|z
      ·exact hc z.symm
      ·exact h2 q zi z
     ·exact h2 p (zr _ hp)
    ·cases ps with
     |nil=>rw[h3];rfl
     |cons r ps=>rw[h3];rfl
abbrev mkS(p:List Nat):Str:=⟨p.toArray⟩
def Vl(p:List Nat):(mkS p).length=p.length:=zn ..
theorem Pu:∀ps:List (List Nat),(Str.join (Str.ofString "\n") (ps.map mkS)).cps.toList=jn ps
 |[]=>rfl
 |[p]=>by show p.toArray.toList=p;simp
 |p::q::ps=>by
  have z:=Pu (q::ps);show(mkS p++Str.ofString "\n" ++Str.join (Str.ofString "\n") ((q::ps).map mkS)).cps.toList=_;rw[zzk,zzk,yv,yv,z,Br];show p.toArray.toList++[10]++jn (q::ps)=p++10::jn (q::ps);simp
def El(t:Str):∃ps:List (List Nat),ps≠[]/\(∀p∈ps,10∉p)/\t.cps.toList=jn ps/\Txt.split t (Str.ofString "\n")=ps.map mkS:=by
 obtain⟨ps,h1,h2,z⟩:=acH t.cps.toList;refine⟨ps,h1,h2,z,?_⟩;have e:t=Str.join (Str.ofString "\n") (ps.map mkS):=L2.str_ext (by rw[Pu,z]);rw[e,Br,<-show Txt.join ⟨#[10]⟩ (ps.map mkS)=Str.join ⟨#[10]⟩ (ps.map mkS)from StrLaws.glued_eq_join _ _];refine L2.split_join (by simpa using h1) λp hp=>?_;obtain⟨q,hq,rfl⟩:=zC.mp hp
 simpa using h2 q hq
noncomputable def vY(R:Nat)(t:Str):Prop:=∀r∈Txt.split t (Str.ofString "\n"),r.length<=R
def Ma{R:Nat}{t:Str}(h:vY R t):Runs R t.cps.toList:=by
 obtain⟨ps,_,_,q,z⟩:=El t;rw[q];refine Og λp hp=>?_;have:=h (mkS p) (by rw[z];exact y3 hp)
 rwa [Vl]at this
def Bk{R:Nat}{t:Str}(h:Runs R t.cps.toList):vY R t:=by
 obtain⟨ps,_,h2,z,h4⟩:=El t;intro r q;rw[h4]at q;obtain⟨p,hp,rfl⟩:=zC.mp q;obtain⟨s,u,e⟩:=YC hp;have:=h s p u (by rw[z,e]) (h2 p hp)
 rwa [Vl]
def Uq{R:Nat}{L:List Str}(h:∀r∈L,r.length<=R):vY R (Txt.join (Str.ofString "\n") L):=by
 have e:L=(L.map λr=>r.cps.toList).map mkS:=by
  rw[zP];exact(zzO L).symm.trans (zzq λr _=>by show r=mkS r.cps.toList;simp[mkS])
 refine Bk ?_;rw[show Txt.join (Str.ofString "\n") L=Str.join (Str.ofString "\n") L from StrLaws.glued_eq_join _ _,e,Pu];refine Og λp hp=>?_;obtain⟨r,q,rfl⟩:=zC.mp hp;have:=h r q;rw[zH];exact this
noncomputable def meas(L:List Str):Nat:=(L.map (·.length)).sum+L.length
def jt(a b:List Str):meas (a++b)=meas a+meas b:=by
 unfold meas;rw[zo,List.sum_append,zm];lia
def wk(l:List Str)(k:Nat):meas (l.take k)+meas (l.drop k)=meas l:=by rw[<-jt,zzI]
def Xi(l:List Str):meas l.reverse=meas l:=by
 unfold meas;rw[List.map_reverse,List.sum_reverse,zzp]
theorem Um:∀{ps:List (List Nat)},ps≠[]->(jn ps).length+1=meas (ps.map mkS)
 |[],h=>absurd rfl h
 |[p],_=>by
  show p.length+1=(p.toArray.size+0)+1;simp
 |p::q::ps,_=>by
  have z:=Um (ps:=q::ps) (by simp);have e:=jt [mkS p] ((q::ps).map mkS);rw[show(p::q::ps).map mkS=[mkS p]++(q::ps).map mkS from rfl,e,<-z];show(p++10::jn (q::ps)).length+1=(p.toArray.size+0)+1+_;rw[zm,zy,zn];lia
def CN(t:Str):meas (Txt.split t (Str.ofString "\n"))=t.length+1:=by
 obtain⟨ps,h1,_,q,z⟩:=El t;rw[z,<-Um h1,<-q,zH];rfl
def VF(L:List Str):(Txt.join (Str.ofString "\n") L).length<=meas L:=by
 have:=StrLaws.join_length_le (Str.ofString "\n") L;rw[Bq]at this;rw[show Txt.join (Str.ofString "\n") L=Str.join (Str.ofString "\n") L from StrLaws.glued_eq_join _ _];unfold meas;lia
def Qk{R:Nat}{t x c y:Str}{a b:Nat}(h:vY R t)(hx:x.cps.toList=t.cps.toList.take a)(z:c.length<=1)(hy:y.cps.toList=t.cps.toList.drop b):vY (2*R+1) (x++c++y):=by
 have q:=Ma h;refine Bk ?_;rw[zzk,zzk,yv,yv,hx,hy];have h1:Runs R (t.cps.toList.take a):=q.part (a:=[]) (c:=t.cps.toList.drop a) (by simp);have h2:Runs R (t.cps.toList.drop b):=q.part (a:=t.cps.toList.take b) (c:=[]) (by simp);have h3:Runs 1 c.cps.toList:=BL.mono (by rw[zH];exact z);exact(IV (IV h1 h3) h2).mono (by lia)
noncomputable def sgs:Str:=Str.ofString "0123456789: \nabuycelgivz-"
def Ro{t:Str}{k:Nat}(q:k<=t.length):(Txt.slice t none (some (k:Int))).cps.toList=t.cps.toList.take k:=by
 show(PySem.StrLaws.sliceText t none (some (k:Int))).cps.toList=_;rw[PySem.StrLaws.sliceText_to ⟨by lia,by rw[zH];exact_mod_cast q⟩];simp
def Hr(t:Str)(k:Nat):(Txt.slice t (some (k:Int)) none).cps.toList=t.cps.toList.drop k:=by
 have hl:t.cps.toList.length=t.length:=zH;by_cases q:k<=t.length
 ·show(PySem.StrLaws.sliceText t (some (k:Int)) none).cps.toList=_
  rw[PySem.StrLaws.sliceText_from ⟨by lia,by rw[hl];exact_mod_cast q⟩];simp only[yU];rw[zX (by rw[z6];lia)]
 ·rw[slice_from_beyond (by lia),zzD (by lia)]
def VD{R:Nat}{t x y:Str}{a b:Nat}(h:vY R t)(hx:x.cps.toList=t.cps.toList.take a)(z:y.cps.toList=t.cps.toList.drop b):vY (2*R+1) (x++y):=by
 have q:=Ma h;refine Bk ?_;rw[zzk,yv,hx,z];have h1:Runs R (t.cps.toList.take a):=q.part (a:=[]) (c:=t.cps.toList.drop a) (by simp);have h2:Runs R (t.cps.toList.drop b):=q.part (a:=t.cps.toList.take b) (c:=[]) (by simp);exact(IV h1 h2).mono (by lia)
def Qa(xs:List V){l k:Nat}(h:l<=xs.length):CK xs (some (l:Int)) (some ((l+k:Nat):Int))=(xs.drop l).take k:=by
 unfold CK HT.sIx;have z:¬((l:Nat):Int)<0:=by lia
 have q:¬((l+k:Nat):Int)<0:=by lia
 simp only[z,q,if_false,yU];rw[show min l xs.length=l by lia];by_cases hk:l+k<=xs.length
 ·rw[show min (l+k) xs.length - l=k by lia]
 ·rw[show min (l+k) xs.length - l=xs.length - l by lia,zX (by rw[z6];lia),zX (by rw[z6];lia)]
noncomputable def GZ:Sp:=λvs H Q _=>∃(t:Str)(c:Int)(R:Nat),vs=[.str t,.int c]/\t.length<=200000/\R<=100000/\vY R t/\∀t' H',Same H H'->t'.length<=t.length+R+2->vY (2*R+1) t'->Q (.str t') H'
def GF(T:Txt w K mg A D):ji P w K mg base CX0 2 A.qv D.qv ["_law_text_here", "_law_cell"] GZ:=by
 refine T.su.F.okv iU λ_ _ _ _ H vs Q E hr h=>?_
 ·obtain⟨t,c,R,rfl,ht,bw,hR,k⟩:=h
  refine ⟨_,(fK (QQ (pcg (jK T) hr T.r9 (kW T) (pav 1 (fG (iI (fG fH (fG fH (fG (fW jg fH fH) fM)))) fM))) (Pa (K:=K) (n:=3) rfl (gO (gA (i:=2) iU.nd rfl orl) (gO (gA (i:=3) iU.nd rfl orl) (gO (gA (i:=4) iU.nd rfl orl) nP)))))
   (fK (gn (i:=3) iU.nd rfl orl (gF Tu fZ (pvD 3) (λ_ _=>rfl)))
   (fK (gn (i:=5) iU.nd rfl orl (fW gY (pvD 4) (fW iz (gw jB (by rfl) T.tS (by decide+kernel) (pav 0 fM)) fH)))
   (fK (gn (i:=6) iU.nd rfl orl (jV (K:=K) zT yF yG Bx (pvD 0) (fG fZ fM)))
   (fK (gn (i:=7) iU.nd rfl orl (fW gY (pvD 4) (gw (gW (K:=K)) (by rfl) T.tS (by decide+kernel) (pav 6 fM))))
   (fK (iB (fY (xX) (pvD 2) fH (gk _)) (fQ (gj (fW jr (fW jr (gQ Cw (pvD 0) iJ (gZ (pvD 5))) (pvD 3)) (gQ Cw (pvD 0) (gZ (fW iz (pvD 5) fH)) iJ)))) gm)
   (fK (iB (fY (xX) (pvD 2) fH (gk _)) (fQ (gj (fW jr (fW jr (gQ Cw (pvD 0) iJ (gZ (pvD 5))) (pvD 3)) (gQ Cw (pvD 0) (gZ (pvD 5)) iJ)))) gm)
   (fK (iB (fY (jT) (pvD 2) fH (gk _)) (fQ (gj (fW jr (gQ Cw (pvD 0) iJ (gZ (pvD 5))) (gQ Cw (pvD 0) (gZ (fW iz (pvD 5) fH)) iJ)))) gm)
   (fK (iB (fY (jT) (pvD 2) fH (gk _)) (fQ (gj (jV (K:=K) zT yM yN Fo fZ (fG (fW vW (fW vW (gQ (iG (K:=K)) (pvD 6) iJ (gZ (pvD 7))) (gQ (iG (K:=K)) (pvD 6) (gZ (pvD 7)) (gZ (fW iz (pvD 7) fH)))) (gQ (iG (K:=K)) (pvD 6) (gZ (pvD 7)) iJ)) fM)))) gm)
   (fK (iB (fY (jT) (pvD 2) fH (gk _)) (fQ (gj (jV (K:=K) zT yM yN Fo fZ (fG (fW vW (gQ (iG (K:=K)) (pvD 6) iJ (gZ (pvD 7))) (gQ (iG (K:=K)) (pvD 6) (gZ (fW iz (pvD 7) fH)) iJ)) fM)))) gm)
   (fQ (gj (jV (K:=K) zT yM yN Fo fZ (fG (fW vW (fW vW (gQ (iG (K:=K)) (pvD 6) iJ (gZ (pvD 7))) (JF (K:=K) (gQ (iG (K:=K)) (pvD 6) (gZ (pvD 7)) (gZ (fW iz (pvD 7) fH))) (Va Mp fH))) (gQ (iG (K:=K)) (pvD 6) (gZ (fW iz (pvD 7) fH)) iJ)) fM)))))))))))))),?_⟩
  simp only[start_eq];walk_at "n";refine⟨⟨by decide,by decide,by decide⟩,sz,λp2 bs=>?_⟩;have n2:=fO (o:=.lst [V.int 9,V.int 24,V.int (10^Int.toNat 9)]) bs;refine⟨c,p2,[9,24,1000000000],rfl,fU (by rw[fL];rfl),by unfold Jh;decide,by decide,λp3 H3 s3 b4 h3=>?_⟩;obtain⟨wy,sg,aj,br,bv,bq,b8⟩:∃wy sg aj,Kc c [9,24,1000000000]=[wy,sg,aj]/\(0<=wy/\wy<9)/\(0<=sg/\sg<24)/\(0<=aj/\aj<1000000000):=⟨_,_,_,rfl,by lia,by lia,by lia⟩;rw[br]at h3;refine⟨p3,rfl,_,fU h3,rfl,_,_,rfl,_,_,rfl,_,_,rfl,rfl,?_⟩;have S3:=n2.trans s3;walk_at "n";obtain⟨sn,rfl⟩:=yk bq.1
  obtain ⟨s,hs⟩:∃s,sgs.cps.toList[sn]? =some s:=by
   have hl:sgs.cps.toList.length=25:=by decide+kernel
   exact⟨_,zD (by lia)⟩
  refine⟨by decide+kernel,s,gR hs,?_⟩;walk_at "n"
  obtain ⟨j,hj,bt⟩:∃j:Nat,aj%((t.length:Int)+1)=j/\j<=t.length:=by
   have h0:=zI aj (show(t.length:Int)+1≠0 by lia);have h1:=zA aj (show 0<(t.length:Int)+1 by lia);exact⟨(aj%((t.length:Int)+1)).toNat,by lia,by lia⟩
  refine⟨by rw[zc];lia,by lia,?_⟩;rw[hj];walk_at "n";refine⟨rfl,Bq,by lia,λp6 bu=>?_⟩;obtain⟨B,hB⟩:∃B,B=Txt.split t (Str.ofString "\n"):=⟨_,rfl⟩;have aw:meas B=t.length+1:=by rw[hB,CN]
  have b6:0<B.length:=by
   refine yK λe=>?_;rw[z7 e]at aw;exact absurd aw (Nat.succ_ne_zero _).symm
  have bo:∀r∈B,r.length<=R:=by rw[hB];exact hR
  rw[<-hB];have S6:=S3.trans (fO (o:=.lst (B.map V.str)) bu);have h6:upd H3 p6 (.lst (B.map V.str)) p6=some (.lst (B.map V.str)):=fL;generalize upd H3 p6 (.lst (B.map V.str))=H6 at S6 h6⊢;walk_at "n"
  obtain ⟨l,hl,b5⟩:∃l:Nat,aj%((B.map V.str).length:Int)=l/\l<B.length:=by
   rw[za];have h0:=zI aj (show(B.length:Int)≠0 by lia);have h1:=zA aj (show 0<(B.length:Int) by lia);exact⟨(aj%(B.length:Int)).toNat,by lia,by lia⟩
  refine⟨_,.inl (fU h6),by rw[za];lia,?_⟩;rw[hl];have bx:B.length<=t.length+1:=by unfold meas at aw;lia
  have L1:(Str.length ⟨#[s]⟩)=1:=rfl;have x1:=Ro bt;have x2:=Txt.slice_le t none (some (j:Int));have y1:=Hr t j;have y2:=Txt.slice_le t (some (j:Int)) none;have z1:=Hr t (j+1);have z2:=Txt.slice_le t (some ((j+1:Nat):Int)) none;have lt:t.cps.toList.length=t.length:=zH
  have lx:(Txt.slice t none (some (j:Int))).length=j:=by
   have e:=congrArg List.length x1;rw[zx,lt]at e;rw[show(Txt.slice t none (some (j:Int))).length=(Txt.slice t none (some (j:Int))).cps.toList.length from zH.symm,e];lia
  have ly:(Txt.slice t (some (j:Int)) none).length=t.length - j:=by
   have e:=congrArg List.length y1;rw[z6,lt]at e;rw[<-e];exact zH.symm
  have lz:(Txt.slice t (some ((j+1:Nat):Int)) none).length=t.length - (j+1):=by
   have e:=congrArg List.length z1;rw[z6,lt]at e;rw[<-e];exact zH.symm
  walk_at "n"
  have az:∀(L:List Str),(∀r∈L,r∈B)->meas L<=meas B+R+1->∀H',Same H H'->(L.map (·.length)).sum+L.length*(Str.ofString "\n").length<=1000000/\Q (.str (Txt.join (Str.ofString "\n") L)) H':=λL hm bk H' s=>by
   rw[aw]at bk;have h1:=VF L;have h2:=Uq (R:=R) λr hr=>bo r (hm r hr);refine⟨by rw[Bq];unfold meas at bk;lia,k _ H' s (by lia) λr hr=>zF (h2 r hr) (by lia)⟩
  by_cases w3:wy<3
  ·rw[zp w3,show((j:Int)+1)=((j+1:Nat):Int)from rfl]
   refine⟨t,rfl,by rw[zc];lia,_,rfl,by rw[zc];lia,t,rfl,by rw[zc];lia,_,rfl,by rw[zc,str_len];lia,k _ _ S6 (by rw[str_len,str_len];lia) (Qk hR x1 (yyh L1) z1)⟩
  rw[zk w3];walk_at "n";by_cases w5:wy<5
  ·rw[zp w5]
   refine⟨t,rfl,by rw[zc];lia,_,rfl,by rw[zc];lia,t,rfl,by rw[zc];lia,_,rfl,by rw[zc,str_len];lia,k _ _ S6 (by rw[str_len,str_len];lia) (Qk hR x1 (yyh L1) y1)⟩
  rw[zk w5];walk_at "n";by_cases w6:wy=5
  ·rw[zp w6,show((j:Int)+1)=((j+1:Nat):Int)from rfl]
   refine⟨t,rfl,by rw[zc];lia,t,rfl,by rw[zc];lia,_,rfl,_,rfl,by rw[zc];lia,k _ _ S6 (by rw[str_len];lia) (VD hR x1 z1)⟩
  rw[zk w6];walk_at "n"
  have m0:meas ((B.drop l).take 1)<=R+1:=by
   obtain ⟨y,ys,e⟩:∃y ys,B.drop l=y::ys:=by
    cases e:B.drop l with
    |nil=>have:=zzP.mp e;lia
    |cons y ys=>exact⟨y,ys,rfl⟩
   have h1:=bo y (yV (by rw[e];exact zi));rw[e];show(y.length+0)+1<=R+1;lia
  have m1:=wk B l;have m2:=wk (B.drop l) 1;have m3:=wk (B.drop l) 2;have m4:B.drop (l+1)=(B.drop l).drop 1:=by rw[List.drop_drop]
  have m5:B.drop (l+2)=(B.drop l).drop 2:=by rw[List.drop_drop]
  have t1:∀r∈B.take l,r∈B:=λr=>z5;have t2:∀{n:Nat} r,r∈B.drop n->r∈B:=λr=>yV;have b1:(B.take l).length<=200001:=by rw[zx];lia
  have b2:∀n,(B.drop n).length<=200001:=λn=>by rw[z6];lia
  have b3:∀n m,((B.drop n).take m).length<=200001:=λn m=>by rw[zx,z6];lia
  by_cases w7:wy=6
  ·rw[zp w7]
   refine⟨rfl,_,fU h6,λq1 au=>?_⟩;rw[kY,<-z8];have n1:=fO (o:=.lst ((B.take l).map V.str)) au;have g1:upd H6 q1 (.lst ((B.take l).map V.str)) q1=some (.lst ((B.take l).map V.str)):=fL;have af:=n1 _ _ h6;have S6n:=S6.trans n1;generalize upd H6 q1 (.lst ((B.take l).map V.str))=bl at n1 g1 af S6n⊢;refine⟨_,fU af,λq2 av=>?_⟩;rw[show((l:Int)+1)=((l+1:Nat):Int)from rfl,Qa _ (by rw[za];lia),<-yZ,<-z8];have n2:=fO (o:=.lst (((B.drop l).take 1).map V.str)) av;have g2:upd bl q2 (.lst (((B.drop l).take 1).map V.str)) q2=some (.lst (((B.drop l).take 1).map V.str)):=fL;have ab:=n2 _ _ af;have ah:=n2 _ _ g1;have S6nn:=S6n.trans n2;generalize upd bl q2 (.lst (((B.drop l).take 1).map V.str))=bg at n2 g2 ab ah S6nn⊢;refine⟨_,ah,_,g2,by rw[zc,za,za];have:=b3 l 1;lia,λq3 as=>?_⟩;rw[<-zo];have n3:=fO (o:=.lst ((B.take l++(B.drop l).take 1).map V.str)) as;have g3:upd bg q3 (.lst ((B.take l++(B.drop l).take 1).map V.str)) q3=some (.lst ((B.take l++(B.drop l).take 1).map V.str)):=fL;have z:=n3 _ _ ab;have ad:=n3 _ _ ah;have am:=n3 _ _ g2;have S6nnn:=S6nn.trans n3;generalize upd bg q3 (.lst ((B.take l++(B.drop l).take 1).map V.str))=bh at n3 g3 z ad am S6nnn⊢;refine⟨_,fU z,λq4 ay=>?_⟩;rw[oh,<-yZ];have n4:=fO (o:=.lst ((B.drop l).map V.str)) ay;have g4:upd bh q4 (.lst ((B.drop l).map V.str)) q4=some (.lst ((B.drop l).map V.str)):=fL;have q:=n4 _ _ z;have ae:=n4 _ _ ad;have ai:=n4 _ _ am;have ao:=n4 _ _ g3;have S6nnnn:=S6nnn.trans n4;generalize upd bh q4 (.lst ((B.drop l).map V.str))=bn at n4 g4 q ae ai ao S6nnnn⊢;refine⟨_,ao,_,g4,by rw[zc,za,za];rw[zm];have:=b3 l 1;have:=b2 l;lia,λq5 ba=>?_⟩;rw[<-zo];have n5:=fO (o:=.lst ((B.take l++(B.drop l).take 1++B.drop l).map V.str)) ba;have g5:upd bn q5 (.lst ((B.take l++(B.drop l).take 1++B.drop l).map V.str)) q5=some (.lst ((B.take l++(B.drop l).take 1++B.drop l).map V.str)):=fL;have aa:=n5 _ _ q;have ac:=n5 _ _ ae;have ag:=n5 _ _ ai;have al:=n5 _ _ ao;have aq:=n5 _ _ g4;have S6nnnnn:=S6nnnn.trans n5;generalize upd bn q5 (.lst ((B.take l++(B.drop l).take 1++B.drop l).map V.str))=bz at n5 g5 aa ac ag al aq S6nnnnn⊢;exact⟨_,g5,az _ (λr hr=>(zG.mp hr).elim (λhr=>(zG.mp hr).elim (t1 r) λhr=>t2 r (z5 hr)) (t2 r)) (by rw[jt,jt];lia) _ S6nnnnn⟩
  rw[zk w7];walk_at "n";by_cases w8:wy=7
  ·rw[zp w8]
   refine⟨rfl,_,fU h6,λq1 au=>?_⟩;rw[kY,<-z8];have n1:=fO (o:=.lst ((B.take l).map V.str)) au;have g1:upd H6 q1 (.lst ((B.take l).map V.str)) q1=some (.lst ((B.take l).map V.str)):=fL;have af:=n1 _ _ h6;have S6n:=S6.trans n1;generalize upd H6 q1 (.lst ((B.take l).map V.str))=bm at n1 g1 af S6n⊢;refine⟨_,fU af,λq2 av=>?_⟩;rw[show((l:Int)+1)=((l+1:Nat):Int)from rfl,oh,<-yZ];have n2:=fO (o:=.lst ((B.drop (l+1)).map V.str)) av;have g2:upd bm q2 (.lst ((B.drop (l+1)).map V.str)) q2=some (.lst ((B.drop (l+1)).map V.str)):=fL;have ab:=n2 _ _ af;have ah:=n2 _ _ g1;have S6nn:=S6n.trans n2;generalize upd bm q2 (.lst ((B.drop (l+1)).map V.str))=bc at n2 g2 ab ah S6nn⊢;refine⟨_,ah,_,g2,by rw[zc,za,za];have:=b2 (l+1);lia,λq3 as=>?_⟩;rw[<-zo];have n3:=fO (o:=.lst ((B.take l++B.drop (l+1)).map V.str)) as;have g3:upd bc q3 (.lst ((B.take l++B.drop (l+1)).map V.str)) q3=some (.lst ((B.take l++B.drop (l+1)).map V.str)):=fL;have z:=n3 _ _ ab;have ad:=n3 _ _ ah;have am:=n3 _ _ g2;have S6nnn:=S6nn.trans n3;generalize upd bc q3 (.lst ((B.take l++B.drop (l+1)).map V.str))=b0 at n3 g3 z ad am S6nnn⊢;exact⟨_,g3,az _ (λr hr=>(zG.mp hr).elim (t1 r) (t2 r)) (by rw[jt,m4];lia) _ S6nnn⟩
  rw[zk w8];walk_at "a";refine⟨rfl,_,fU h6,λq1 au=>?_⟩;rw[kY,<-z8];have n1:=fO (o:=.lst ((B.take l).map V.str)) au;have g1:upd H6 q1 (.lst ((B.take l).map V.str)) q1=some (.lst ((B.take l).map V.str)):=fL;have af:=n1 _ _ h6;have S6n:=S6.trans n1;generalize upd H6 q1 (.lst ((B.take l).map V.str))=be at n1 g1 af S6n⊢;refine⟨_,fU af,λq2 av=>?_⟩;rw[show((l:Int)+2)=((l+2:Nat):Int)from rfl,Qa _ (by rw[za];lia),<-yZ,<-z8];have n2:=fO (o:=.lst (((B.drop l).take 2).map V.str)) av;have g2:upd be q2 (.lst (((B.drop l).take 2).map V.str)) q2=some (.lst (((B.drop l).take 2).map V.str)):=fL;have ab:=n2 _ _ af;have ah:=n2 _ _ g1;have S6nn:=S6n.trans n2;generalize upd be q2 (.lst (((B.drop l).take 2).map V.str))=bf at n2 g2 ab ah S6nn⊢;refine⟨_,fU g2,λq3 as=>?_⟩;rw[<-List.map_reverse];have n3:=fO (o:=.lst ((((B.drop l).take 2).reverse).map V.str)) as;have g3:upd bf q3 (.lst ((((B.drop l).take 2).reverse).map V.str)) q3=some (.lst ((((B.drop l).take 2).reverse).map V.str)):=fL;have z:=n3 _ _ ab;have ad:=n3 _ _ ah;have am:=n3 _ _ g2;have S6nnn:=S6nn.trans n3;generalize upd bf q3 (.lst ((((B.drop l).take 2).reverse).map V.str))=bj at n3 g3 z ad am S6nnn⊢;refine⟨_,ad,_,g3,by rw[zc,za,za];rw[zzp];have:=b3 l 2;lia,λq4 ay=>?_⟩;rw[<-zo];have n4:=fO (o:=.lst ((B.take l++((B.drop l).take 2).reverse).map V.str)) ay;have g4:upd bj q4 (.lst ((B.take l++((B.drop l).take 2).reverse).map V.str)) q4=some (.lst ((B.take l++((B.drop l).take 2).reverse).map V.str)):=fL;have q:=n4 _ _ z;have ae:=n4 _ _ ad;have ai:=n4 _ _ am;have ao:=n4 _ _ g3;have S6nnnn:=S6nnn.trans n4;generalize upd bj q4 (.lst ((B.take l++((B.drop l).take 2).reverse).map V.str))=bi at n4 g4 q ae ai ao S6nnnn⊢;refine⟨_,fU q,λq5 ba=>?_⟩;rw[oh,<-yZ];have n5:=fO (o:=.lst ((B.drop (l+2)).map V.str)) ba;have g5:upd bi q5 (.lst ((B.drop (l+2)).map V.str)) q5=some (.lst ((B.drop (l+2)).map V.str)):=fL;have aa:=n5 _ _ q;have ac:=n5 _ _ ae;have ag:=n5 _ _ ai;have al:=n5 _ _ ao;have aq:=n5 _ _ g4;have S6nnnnn:=S6nnnn.trans n5;generalize upd bi q5 (.lst ((B.drop (l+2)).map V.str))=bb at n5 g5 aa ac ag al aq S6nnnnn⊢;refine⟨_,aq,_,g5,by rw[zc,za,za];rw[zm,zzp];have:=b3 l 2;have:=b2 (l+2);lia,λq6 bp=>?_⟩;rw[<-zo];have n6:=fO (o:=.lst ((B.take l++((B.drop l).take 2).reverse++B.drop (l+2)).map V.str)) bp;have g6:upd bb q6 (.lst ((B.take l++((B.drop l).take 2).reverse++B.drop (l+2)).map V.str)) q6=some (.lst ((B.take l++((B.drop l).take 2).reverse++B.drop (l+2)).map V.str)):=fL;have ak:=n6 _ _ aa;have an:=n6 _ _ ac;have ap:=n6 _ _ ag;have ar:=n6 _ _ al;have ax:=n6 _ _ aq;have bd:=n6 _ _ g5;have S6nnnnnn:=S6nnnnn.trans n6;generalize upd bb q6 (.lst ((B.take l++((B.drop l).take 2).reverse++B.drop (l+2)).map V.str))=b7 at n6 g6 ak an ap ar ax bd S6nnnnnn⊢
  exact⟨_,g6,az _ (λr hr=>(zG.mp hr).elim (λhr=>(zG.mp hr).elim (t1 r) λhr=>t2 r (z5 (List.mem_reverse.mp hr))) (t2 r)) (by rw[jt,jt,Xi,m5];lia) _ S6nnnnnn⟩
structure PEo(X:Cx)(e:Expr)(t:TE):Prop where
 h:PE X e t
structure PSq(X:Cx)(s:Stmt)(t:TS):Prop where
 h:PS X s t
structure PSo(X:Cx)(s:List Stmt)(t:TS):Prop where
 h:PSs X s t
def kJ{X:Cx}{st:Stmt}{rest:List Stmt}{t u:TS}(a:PSq X st t)(b:PSo X rest u):PSo X (st::rest) (aaX t u):=⟨fK a.h b.h⟩
def Wn{X:Cx}{pos:Pos}{i:Nat}{x:Str}{e:Expr}{te:TE}{pos':Pos}(q:X.N.Nodup)(hi:X.N[i]? =some x)(hx:Loc X.env.scope x)(z:PEo X e te)(hs:swapsWith e (some (.Name x pos')) pos.line X.env=pure false:=by rfl)(hf:X.fn x=true\/X.env.scope.names.lookup x=some .local:=by first|exact .inl rfl|exact .inr rfl):
  PSq X (.Assign [.Name x pos'] e pos) (abz te (Fy i)):=⟨gn q hi hx z.h hs hf⟩
def Ef{X:Cx}{o i value:Expr}{td ty tv:TE}{pos pos':Pos}(hu:X.A.units+1<cLine)(q:PEo X o td)(hi:PEo X i ty)(hv:PEo X value tv)(z:swapsWith value (some (.Subscript o i pos')) pos.line X.env=pure false:=by rfl):
  PSq X (.Assign [.Subscript o i pos'] value pos) (Lj td ty tv):=⟨JV hu q.h hi.h hv.h z⟩
def Vd{X:Cx}{pos:Pos}{k1 k2 v1 q:Expr}{s1 s2 z t2:TE}(a1:PEo X k1 s1)(b1:PEo X v1 z)(a2:PEo X k2 s2)(b2:PEo X q t2):PEo X (.Dict [some k1,some k2] [v1,q] pos) (aaF [(s1,z),(s2,t2)]):=
 ⟨Wf (Bc a1.h b1.h (Bc a2.h b2.h Tz)) rfl rfl (zzJ _ _) (zV rfl)⟩
def jw{X:Cx}{a b:Expr}{ta tb:TE}{x1}{pos:Pos}(ha:PEo X a ta)(hb:PEo X b tb)(h1:starEach [a,b] X.env=(false,eval a X.env)::starEach [b] X.env:=by rfl)(h2:starEach [b] X.env=(false,eval b X.env)::starEach [] X.env:=by rfl):PEo X (.Tuple [a,b] x1 pos) (ade (jW ta (jW tb Ka))):=⟨ju (fG ha.h (fG hb.h fM h2) h1)⟩
def XD{X:Cx}{a:Expr}{ta:TE}{pos:Pos}(ha:PEo X a ta)(h1:starEach [a] X.env=(false,eval a X.env)::starEach [] X.env:=by rfl):PEo X (.List [a] pos) (WM (jW ta Ka)):=⟨iI (fG ha.h fM h1)⟩
def QX{X:Cx}{a b:Expr}{ta tb:TE}{pos:Pos}(ha:PEo X a ta)(hb:PEo X b tb)(h1:starEach [a,b] X.env=(false,eval a X.env)::starEach [b] X.env:=by rfl)(h2:starEach [b] X.env=(false,eval b X.env)::starEach [] X.env:=by rfl):PEo X (.List [a,b] pos) (WM (jW ta (jW tb Ka))):=⟨iI (fG ha.h (fG hb.h fM h2) h1)⟩
def Je{X:Cx}{a b c:Expr}{ta tb tc:TE}{pos:Pos}(ha:PEo X a ta)(hb:PEo X b tb)(q:PEo X c tc)(z:starEach [a,b,c] X.env=(false,eval a X.env)::starEach [b,c] X.env:=by rfl)(h1:starEach [b,c] X.env=(false,eval b X.env)::starEach [c] X.env:=by rfl)(h2:starEach [c] X.env=(false,eval c X.env)::starEach [] X.env:=by rfl):PEo X (.List [a,b,c] pos) (WM (jW ta (jW tb (jW tc Ka)))):=⟨iI (fG ha.h (fG hb.h (fG q.h fM h2) h1) z)⟩
noncomputable def pY(T:Txt w K mg A D)(z:Value)(A':Around)(outer:List Env)(s0:Shared)(H:Hp)(E:XK)(q:nY 2 (A'.deeper (envOfC "_law_read" (fP lD) s0.heap.objs.size A.rA z))):
  {t:TS//PSo (pJ CX0 P w K mg base ["_law_row", "_law_words", "_law_head", "_law_kind", "_law_rest", "_law_ranges", "_law_told_here", "_law_many", "_law_numbers", "_law_named"] "_law_read" (fP lD) A.rA z A' outer s0 H E).nox (iK lD) t}:=
 ⟨_,(kJ ⟨(gn (i:=1) ig.nd rfl orl (jV (K:=K) zT yF yG Bx (pvD 0) (fG fZ fM)))⟩
   (kJ ⟨(iB (PW.pt (nZ (fY (xX) (gw (gW (K:=K)) (by rfl) T.tS (by decide+kernel) (pav 1 fM)) fH (gk _)) (lY (xM (xN (pcg (wI T) q T.tL (xG T) (fG (gF (fV (K:=K)) (pvD 1) fH (λ_ _=>rfl)) fM))))))) (fQ (gj jJ)) gm)⟩
   (kJ ⟨(Cg (i:=2) ig.nd rfl rfl (cap:=[none]) (N':=["_law_word"]) rfl (by walk_at "c") (lU (K:=K) (gQ (iG (K:=K)) (pvD 1) iJ (gZ fH))) (λ_ _ _ _=>(gA (i:=0) nd1 rfl orl orr)) (λ_ _ _ _=>jD) (λ_ _ _ _=>(pcg (lQ T) q T.tJ (mV T) (pav 0 fM))))⟩
   (kJ ⟨(gn (i:=3) ig.nd rfl orl (gF (fV (K:=K)) (pvD 1) fH (λ_ _=>rfl)))⟩
   (kJ ⟨(gn (i:=4) ig.nd rfl orl (gQ (iG (K:=K)) (pvD 1) (gZ fH) iJ))⟩
   (kJ (Wn (i:=5) ig.nd rfl orl (Vd ⟨fZ⟩ (Je (jw ⟨fH⟩ ⟨fW jg fH fH⟩) (jw ⟨fH⟩ ⟨fW jg fH fH⟩) (jw ⟨fH⟩ ⟨fW jg fH fH⟩)) ⟨fZ⟩ (Je (jw ⟨fH⟩ ⟨fW jg fH fH⟩) (jw ⟨fH⟩ ⟨fW jg fH fH⟩) (jw ⟨fH⟩ ⟨fW jg fH fH⟩))))
   (kJ (Ef (Bg q) ⟨(pvD 5)⟩ ⟨fZ⟩ (Je (jw ⟨fH⟩ ⟨fW jg fH fH⟩) (jw ⟨fH⟩ ⟨fW jg fH fH⟩) (jw ⟨fH⟩ ⟨gF (fV (K:=K)) (pvD 2) fH (λ_ _=>rfl)⟩)))
   (kJ (Ef (Bg q) ⟨(pvD 5)⟩ ⟨fZ⟩ (XD (jw ⟨fH⟩ ⟨fW jg fH fH⟩)))
   (kJ (Ef (Bg q) ⟨(pvD 5)⟩ ⟨fZ⟩ (QX (jw ⟨fH⟩ ⟨fH⟩) (jw ⟨fH⟩ ⟨fH⟩)))
   (kJ (Ef (Bg q) ⟨(pvD 5)⟩ ⟨fZ⟩ (QX (jw ⟨fH⟩ ⟨fW jg fH fH⟩) (jw ⟨fH⟩ ⟨fW jg fH fH⟩)))
   ⟨(fK (iB (PW.pt (nZ (fY (Nj (Bg q)) (pvD 3) (pvD 5) (by with_unfolding_all rfl)) (lY (xM (xN (pcg (xQ T) q T.tM (Bb T) (pav 2 (fG (iI (fG (ju (fG fH (fG (fW jg fH fH) fM))) (fG (ju (fG fH (fG (fW jg fH fH) fM))) fM))) fM)))))))) (fQ (gj jJ)) gm)
   (fK (gn (i:=6) ig.nd rfl orl (ju (pav 3 (fG (gF (fV (K:=K)) (pvD 2) fH (λ_ _=>rfl)) (fG (gF (fV (K:=K)) (pvD 2) fH (λ_ _=>rfl)) (fG (gF (fV (K:=K)) (pvD 1) fH (λ_ _=>rfl)) fM))))))
   (fK (iB (fY (jT) (pvD 3) fZ (gk _)) (fK (iB (PW.pt (nZ (fY (Ju (K:=K) q) (pvD 4) (iI fM) (gk _)) (nZ (xM (xN (pcg (wI T) q T.tL (xG T) (fG (gF (fV (K:=K)) (pvD 4) fH (λ_ _=>rfl)) fM)))) (lY (fY (jT) (gF (fV (K:=K)) (pvD 4) fH (λ_ _=>rfl)) (gF (fV (K:=K)) (pvD 1) fH (λ_ _=>rfl)) (gk _)))))) (fQ (gj jJ)) gm)
    (fK (gn (i:=6) ig.nd rfl orl (fW (Ba (K:=K)) (pvD 6) (ju (fG (gF (fV (K:=K)) (pvD 4) fH (λ_ _=>rfl)) fM))))
    (fQ (gn (i:=4) ig.nd rfl orl (gQ (iG (K:=K)) (pvD 4) (gZ fH) iJ))))) gm)
   (fK (gn (i:=7) ig.nd rfl orl (gw (gW (K:=K)) (by rfl) T.tS (by decide+kernel) (fG (Wz (Bg q) (pvD 5) (pvD 3) (λ_ _=>rfl)) fM)))
   (fK (Cg (i:=8) ig.nd rfl rfl (cap:=[none]) (N':=["_law_word"]) rfl (by walk_at "c") (lU (K:=K) (gQ (iG (K:=K)) (pvD 4) iJ (gZ (pvD 7)))) (λ_ _ _ _=>(gA (i:=0) nd1 rfl orl orr)) (λ_ _ _ _=>jD) (λ_ _ _ _=>(pcg (lQ T) q T.tJ (mV T) (pav 0 fM))))
   (fK (iB (PW.pt (nZ (xM (xN (pcg (xQ T) q T.tM (Bb T) (pav 8 (fG (Wz (Bg q) (pvD 5) (pvD 3) (λ_ _=>rfl)) fM))))) (lY (PW.pt (Be (fY (jT) (pvD 3) fZ (gk _)) (wU (fY (xu) (gF (fV (K:=K)) (pvD 8) fH (λ_ _=>rfl)) (gF (fV (K:=K)) (pvD 8) fH (λ_ _=>rfl)) (gk _)))))))) (fQ (gj jJ)) gm)
   (fK (gn (i:=6) ig.nd rfl orl (fW (Ba (K:=K)) (pvD 6) (iy (pL (K:=K)) (by rfl) T.tY (by decide+kernel) (pav 8 fM))))
   (fK (iB (PW.pt (Be (fY (Hh) (pvD 3) fZ (gk _)) (wU (fY (Hh) (pvD 3) fZ (gk _))))) (fQ (gj (gF (fV (K:=K)) (iI (pav 6 (fG jJ fM))) (iy Ez (by rfl) T.tT (by decide+kernel) (fG (Ca (xu) (gw (gW (K:=K)) (by rfl) T.tS (by decide+kernel) (pav 4 fM)) (pvD 7) (gk _)) fM)) (λ_ _=>rfl)))) gm)
   (fK (iB (fY (jT) (gw (gW (K:=K)) (by rfl) T.tS (by decide+kernel) (pav 4 fM)) (pvD 7) (gk _)) (fQ (gj (fW (Ba (K:=K)) (pvD 6) (ju (fG jJ fM))))) gm)
   (fK (gn (i:=9) ig.nd rfl orl (pcg (Lq T) q T.tK (Ox T) (fG (gQ (iG (K:=K)) (pvD 4) (gZ (pvD 7)) iJ) (fG (gF (fV (K:=K)) (pvD 8) fH (λ_ _=>rfl)) fM))))
   (fK (iB (fY (Lz) (pvD 9) jJ (gk _)) (fQ (gj jJ)) gm)
   (fQ (gj (fW (Ba (K:=K)) (pvD 6) (ju (pav 9 fM))))))))))))))))⟩))))))))))⟩
theorem Fb{sep:Str}(q:sep.length=1):∀{ws:List Str},ws≠[]->(Str.join sep ws).length+1=meas ws
 |[],h=>absurd rfl h
 |[w],_=>by
  show w.length+1=(w.length+0)+1;lia
 |w::v::ws,_=>by
  have z:=Fb q (ws:=v::ws) (by simp);have e:=jt [w] (v::ws);rw[show w::v::ws=[w]++(v::ws)from rfl,e,<-z];show(w++sep++Str.join sep (v::ws)).length+1=(w.length+0)+1+_;rw[str_len,str_len,q];lia
def HN(z:Str):meas (jZ z)<=z.length+1:=by
 by_cases h:jZ z=[]
 ·rw[h];exact zQ _
 ·have:=Fb (sep:=Str.ofString " ") (by decide+kernel) h
  rw[show Str.join (Str.ofString " ") (jZ z)=z from StrLaws.join_split z _]at this;lia
theorem JK:∀{ws:List Str}{w:Str},w∈ws->w.length+1<=meas ws
 |[],_,h=>(zg h).elim
 |v::ws,w,h=>by
  have e:=jt [v] ws;rw[show v::ws=[v]++ws from rfl,e];have q:meas [v]=v.length+1:=by show(v.length+0)+1=_;lia
  rcases zh.mp h with rfl|h
  ·lia
  ·have:=JK h
   lia
def QR{H:Hp}{q:Addr}{ws:List Str}{Q:VK}{σ:L2.St}(hq:H q=some (.lst (ws.map V.str)))(hl:ws.length<=20000)(hz:∀x∈ws,x.length<=1000000)(k:∀D H',Same H H'->H' D=some (.lst ((ws.map gK).map V.int))->Q (.ref D) H'):jC [none] (Itl K q) (Fy 0) Eb (Rc xT [] E0 (jW (tV 0) Ka)) σ H Q:=by
 refine jC.list (K:=K) (xs:=ws.map V.str) (λσ=>∃a,σ=[a]) (λ_=>true) (λv=> .int (gK (sV v))) (fU hq) ⟨_,rfl⟩ (by rw[za,zc];lia) ?_ ?_
 ·rintro x hx σ H5 R1 R2 ⟨_,rfl⟩ sm k1 k2
  obtain⟨z,aa,rfl⟩:=zC.mp hx;walk_at "i";exact⟨z,rfl,hz z aa,λH6 s6=>k1 rfl _ _ ⟨_,rfl⟩ s6⟩
 ·intro Da H' hD sm e
  refine k Da H' sm ?_;rw[e,lu,zP,zP];rfl
noncomputable def rgT:List ((TE×TE)×Int×Int)->TA
 |[]=>Ka
 |x::L=>jW (ade (jW x.1.1 (jW x.1.2 Ka))) (rgT L)
noncomputable def RgE(σ:L2.St)(H0:Hp)(X:TE)(i:Int):Prop:=∀H' Q,Same H0 H'->Q (.int i) H'->X σ H' Q
theorem Vv{σ:L2.St}{H0:Hp}:∀{L:List ((TE×TE)×Int×Int)},(∀x∈L,RgE σ H0 x.1.1 x.2.1/\RgE σ H0 x.1.2 x.2.2)->∀{H:Hp}{Q:List V->Hp->Prop},Same H0 H->(∀(rg:Rs) H',Same H H'->rg.map (·.2)=L.map (·.2)->Gw H' rg->Q (refs rg) H')->rgT L σ H Q
 |[],_,H,Q,_,k=>k [] H (same_refl H) rfl λr q=>(zg q).elim
 |x::L,h,H,Q,s0,k=>by
  obtain⟨h1,h2⟩:=h x zi;show x.1.1 σ H λv1 H1=>x.1.2 σ H1 λz H2=>[v1,z].length<=sizeLine/\∀p,H2 p=none->rgT L σ (upd H2 p (.tup [v1,z])) λxs H3=>Q (.ref p::xs) H3;refine h1 _ _ s0 (h2 _ _ s0 ⟨by rw[zc];exact zV rfl,λp hp=>?_⟩);have n1:=fO (o:=.tup [V.int x.2.1,V.int x.2.2]) hp;refine Vv (λy hy=>h y (zr _ hy)) (s0.trans n1) λrg H' s' e hL=>k ((p,x.2)::rg) H' (n1.trans s') (by rw[zj,zj,e]) λr q=>?_;rcases zh.mp q with rfl|q
  ·exact s' _ _ fL
  ·exact hL r q
structure Qf(H:Hp)(l:Addr)(rg:List (Int×Int)):Prop where
 ex:∃rs:Rs,H l=some (.lst (refs rs))/\rs.map (·.2)=rg/\Gw H rs
theorem Qf.same{H H':Hp}{l:Addr}{rg:List (Int×Int)}(h:Qf H l rg)(s:Same H H'):Qf H' l rg:=let⟨rs,h1,h2,h3⟩:=h.ex;⟨rs,s _ _ h1,h2,h3.same s⟩
def Qf.putD{H:Hp}{l d:Addr}{rg:List (Int×Int)}{kvs kvs':List (Key×V)}(h:Qf H l rg)(hd:H d=some (.dK kvs)):Qf (upd H d (.dK kvs')) l rg:=by
 obtain⟨rs,h1,h2,q⟩:=h.ex;exact⟨rs,(fX λe=>by rw[e,hd]at h1;cases h1).trans h1,h2,λr z=>(fX λe=>by have:=q r z;rw[e,hd]at this;cases this).trans (q r z)⟩
def HJ{σ:L2.St}{H0:Hp}(L:List ((TE×TE)×Int×Int))(h:∀x∈L,RgE σ H0 x.1.1 x.2.1/\RgE σ H0 x.1.2 x.2.2){H:Hp}{Q:VK}(q:Same H0 H)(hl:L.length<=3)(k:∀(p:Addr) H',Same H H'->Qf H' p (L.map (·.2))->Q (.ref p) H'):WM (rgT L) σ H Q:=by
 refine Vv h q λrg H' s' e z=>⟨?_,λp hp=>k p _ (s'.trans (fO hp)) ⟨rg,fL,e,z.same (fO hp)⟩⟩;have:=congrArg List.length e;rw[za,za]at this;rw[jL,zc];lia
abbrev pw(n:Int):TE:=tOp (rI abp λi j=>V.int (i^j.toNat)) (tC (V.int 10)) (tC (V.int n))
def Fq{σ:L2.St}{H0:Hp}{i:Int}:RgE σ H0 (tC (V.int i)) i:=λ_ _ _ q=>q
def Qm{σ:L2.St}{H0:Hp}{n i:Int}(h:abp 10 n)(e:(10:Int)^n.toNat=i):RgE σ H0 (pw n) i:=λH' Q _ q=>by
 walk_at "i";exact⟨h,by rw[e];exact q⟩
noncomputable def acZ:List ((TE×TE)×Int×Int):=[((tC (V.int 1),pw 9),1,1000000000),((tC (V.int 0),pw 9),0,1000000000),((tC (V.int 0),pw 9),0,1000000000)]
def YZ{σ:L2.St}{H0:Hp}:∀x∈acZ,RgE σ H0 x.1.1 x.2.1/\RgE σ H0 x.1.2 x.2.2:=λx q=>by
 have p9:RgE σ H0 (pw 9) 1000000000:=Qm ⟨by decide,by decide,by decide⟩ (by decide);simp only[acZ,zh,zg,or_false]at q;rcases q with rfl|rfl|rfl<;>exact⟨Fq,p9⟩
def p9{σ:L2.St}{H0:Hp}:RgE σ H0 (pw 9) 1000000000:=Qm ⟨by decide,by decide,by decide⟩ (by decide)
def p18{σ:L2.St}{H0:Hp}:RgE σ H0 (pw 18) 1000000000000000000:=Qm ⟨by decide,by decide,by decide⟩ (by decide)
def p6'{σ:L2.St}{H0:Hp}:RgE σ H0 (pw 6) 1000000:=Qm ⟨by decide,by decide,by decide⟩ (by decide)
def oA{σ:L2.St}{H0:Hp}{X Y:TE}{i j:Int}{L:List ((TE×TE)×Int×Int)}(a:RgE σ H0 X i)(b:RgE σ H0 Y j)(h:∀x∈L,RgE σ H0 x.1.1 x.2.1/\RgE σ H0 x.1.2 x.2.2):∀x∈((X,Y),i,j)::L,RgE σ H0 x.1.1 x.2.1/\RgE σ H0 x.1.2 x.2.2:=λx q=>by
 rcases zh.mp q with rfl|q
 ·exact⟨a,b⟩
 ·exact h x q
def Io{σ:L2.St}{H0:Hp}:∀x∈([]:List ((TE×TE)×Int×Int)),RgE σ H0 x.1.1 x.2.1/\RgE σ H0 x.1.2 x.2.2:=λ_ h=>(zg h).elim
noncomputable def kv6(la lb lg lv ls lp:Addr):List (Key×V):=putK (putK (putK (putK (putK (putK [] (Sum.inr (Str.ofString "buy")) (V.ref la)) (Sum.inr (Str.ofString "sell")) (V.ref lb)) (Sum.inr (Str.ofString "gift")) (V.ref lg)) (Sum.inr (Str.ofString "give")) (V.ref lv)) (Sum.inr (Str.ofString "split")) (V.ref ls)) (Sum.inr (Str.ofString "part")) (V.ref lp)
def acU:([]:List (Key×V)).length<=0:=ze _
def QC{kvs:List (Key×V)}{n:Nat}{k:Key}{v:V}(h:kvs.length<=n):(putK kvs k v).length<=n+1:=zF (Ek _ _ _) (Nat.succ_le_succ h)
def abf{la lb z lv ls lp:Addr}{wd:Str}(h:∀x∈kxs,x.wd≠wd):oF (kv6 la lb z lv ls lp) (Sum.inr wd)=none:=by
 have key:∀x∈kxs,¬(Sum.inr wd:Key)=Sum.inr x.wd:=λx hx e=>h x hx (Sum.inr.inj e).symm;have n0:¬(Sum.inr wd:Key)=Sum.inr (Str.ofString "buy"):=key _ (.head _);have n1:¬(Sum.inr wd:Key)=Sum.inr (Str.ofString "sell"):=key _ (.tail _ (.head _));have n2:¬(Sum.inr wd:Key)=Sum.inr (Str.ofString "gift"):=key _ (.tail _ (.tail _ (.head _)));have q:¬(Sum.inr wd:Key)=Sum.inr (Str.ofString "give"):=key _ (.tail _ (.tail _ (.tail _ (.head _))));have n4:¬(Sum.inr wd:Key)=Sum.inr (Str.ofString "split"):=key _ (.tail _ (.tail _ (.tail _ (.tail _ (.head _)))));have n5:¬(Sum.inr wd:Key)=Sum.inr (Str.ofString "part"):=key _ (.tail _ (.tail _ (.tail _ (.tail _ (.tail _ (.head _))))));unfold kv6;rw[iW,iW,iW,iW,iW,iW,zk n5,zk n4,zk q,zk n2,zk n1,zk n0];rfl
def abH{la lb q lv z lp:Addr}{H:Hp}{d:Int}(ha:Qf H la trd)(hb:Qf H lb trd)(hg:Qf H q [(1,1000000000),(0,1000000000000000000),(0,d)])(hv:Qf H lv [(1,1000000000)])(hs:Qf H z [(1,1000),(1,1000)])(hp:Qf H lp [(0,1000000),(1,1000000)]){x:Kx}(hx:x∈kxs):∃l,oF (kv6 la lb q lv z lp) (Sum.inr x.wd)=some (.ref l)/\Qf H l (x.rg d):=by
 simp only[kxs,zh,zg,or_false]at hx;unfold kv6;rw[iW,iW,iW,iW,iW,iW];rcases hx with rfl|rfl|rfl|rfl|rfl|rfl
 ·exact⟨la,rfl,ha⟩
 ·exact⟨lb,rfl,hb⟩
 ·exact⟨q,rfl,hg⟩
 ·exact⟨lv,rfl,hv⟩
 ·exact⟨z,rfl,hs⟩
 ·exact⟨lp,rfl,hp⟩
def aaC{x y:Kx}(q:x∈kxs)(z:y∈kxs)(e:x.wd=y.wd):x=y:=by
 have key:∀i j:Fin 6,(kxs[i.val]'i.isLt).wd=(kxs[j.val]'j.isLt).wd->i=j:=by decide+kernel
 obtain⟨i,hi,rfl⟩:=yD q;obtain⟨j,hj,rfl⟩:=yD z;have:=key ⟨i,hi⟩ ⟨j,hj⟩ e;cases this;rfl
def Er{x:Kx}(q:x∈kxs):x.wd=Str.ofString "part" ↔x.pt=true:=by
 have key:∀i:Fin 6,(decide ((kxs[i.val]'i.isLt).wd=Str.ofString "part"))=(kxs[i.val]'i.isLt).pt:=by decide+kernel
 obtain⟨i,hi,rfl⟩:=yD q;exact⟨λh=>(key ⟨i,hi⟩).symm.trans (zS h),λh=>zzE ((key ⟨i,hi⟩).trans h)⟩
def Yu{x:Kx}(q:x∈kxs):(x.wd=Str.ofString "sell" \/x.wd=Str.ofString "give")↔x.lot=true:=by
 have key:∀i:Fin 6,(decide ((kxs[i.val]'i.isLt).wd=Str.ofString "sell" \/(kxs[i.val]'i.isLt).wd=Str.ofString "give"))=(kxs[i.val]'i.isLt).lot:=by decide+kernel
 obtain⟨i,hi,rfl⟩:=yD q;exact⟨λh=>(key ⟨i,hi⟩).symm.trans (zS h),λh=>zzE ((key ⟨i,hi⟩).trans h)⟩
def acN{x:Kx}(q:x∈kxs)(d:Int):(x.rg d).length<=3:=by
 simp only[kxs,zh,zg,or_false]at q;rcases q with rfl|rfl|rfl|rfl|rfl|rfl<;>exact zV rfl
def Ym(ws:List Str):(ws.map V.str).all abP=true:=by
 rw[y6];intro v q;obtain⟨z,_,rfl⟩:=zC.mp q;rfl
def Yi{x:Kx}(q:x∈kxs)(h:x.pt=true)(d:Int):(x.rg d).length=2:=by
 simp only[kxs,zh,zg,or_false]at q;rcases q with rfl|rfl|rfl|rfl|rfl|rfl<;>first|rfl|cases h
def abe{x:Kx}(q:x∈kxs)(d:Int):(x.rg d).length≠0:=by
 simp only[kxs,zh,zg,or_false]at q;rcases q with rfl|rfl|rfl|rfl|rfl|rfl<;>exact Nat.succ_ne_zero _
def WT{x:Kx}(q:x∈kxs)(h:x.lot=true)(d:Int):∃r,x.rg d=(1,1000000000)::r:=by
 simp only[kxs,zh,zg,or_false]at q;rcases q with rfl|rfl|rfl|rfl|rfl|rfl<;>first|exact⟨_,rfl⟩|cases h
def Jq{H:Hp}{a b:Addr}{xs ys:List V}{Q:VK}(ha:H a=some (.tup xs))(q:xs≠[])(hb:H b=some (.tup ys))(h1:ys≠[])(hl:xs.length+ys.length<=sizeLine)(k:∀p H',Same H H'->H' p=some (.tup (xs++ys))->Q (.ref p) H'):aaA K (.ref a) (.ref b) H Q:=
 ⟨a,b,xs,ys,rfl,rfl,iD ha,iD hb,q,hl,λe=>absurd e h1,λ_ p hp=>k p _ (fO hp) fL⟩
def aaH{wd s g:Str}{A B:Prop}(h:wd=s\/wd=g):(if¬wd=s then if¬wd=g then A else B else B)=B:=by
 rcases h with h|h
 ·rw[zk λq=>q h]
 ·by_cases h2:wd=s
  ·rw[zk λq=>q h2]
  ·rw[zp h2,zk λq=>q h]
def acw{wd s g:Str}{A B:Prop}(h:¬(wd=s\/wd=g)):(if¬wd=s then if¬wd=g then A else B else B)=A:=by
 rw[zp λq=>h (.inl q),zp λq=>h (.inr q)]
noncomputable def Mq(K:Fg_):Sp:=λvs H Q _=>∃z:Str,vs=[.str z]/\z.length<=11950/\(∀e t H',lW (jZ z) e->Same H H'->xW H' t e->Q (.ref t) H')/\((∀e,¬lW (jZ z) e)->∀H',Same H H'->Q .non H')
def Nr(T:Txt w K mg A D):ji P w K mg base CX0 3 A.rA D.rA ["_law_row"] (Mq K):=by
 refine T.tN.F.ok ig (by walk_at "v") (λei A' outer s0 H vs Q E hr h=>?_)
 ·obtain⟨z,rfl,hz,k,kN⟩:=h
  obtain⟨tt,eb⟩:∃tt,tt=pY (base:=base) T ei A' outer s0 H E hr:=⟨_,rfl⟩;rcases tt with⟨t1,⟨R⟩⟩;refine⟨t1,R,?_⟩;rw[show t1=(pY (base:=base) T ei A' outer s0 H E hr).1 from congrArg Subtype.val eb];unfold pY;clear eb R;simp only[start_eq];walk_at "n";refine⟨rfl,by decide+kernel,by lia,λp1 ew=>?_⟩;have cs:=HN z;rw[show Txt.split z (Str.ofString " ")=jZ z from rfl];generalize jZ z=ws at k kN cs⊢;have S1:=fO (o:=.lst (ws.map V.str)) ew;have g1:upd H p1 (.lst (ws.map V.str)) p1=some (.lst (ws.map V.str)):=fL;generalize upd H p1 (.lst (ws.map V.str))=H1 at S1 g1⊢;walk_at "n";refine⟨_,.inl (fU g1),?_⟩;rw[za];by_cases h4:ws.length<4
  ·rw[zp (by lia)]
   exact kN (λe ⟨kd,⟨hk,_,hl,_⟩,_⟩=>by have:=(lK hk).2.2.1;lia) H1 S1
  rw[zk (by lia)];obtain⟨a,b,kk,w,rest,rfl⟩:=adn (l:=ws) (by lia);have bv:∀x∈a::b::kk::w::rest,x.length<=11950:=λx hx=>by have:=JK hx;lia
  have fu:rest.length<=11950:=by
   unfold meas at cs;simp only[zy]at cs;lia
  refine⟨_,fU g1,.str w,gR (j:=3) rfl,w,rfl,by have:=bv w (by simp);lia,λH2 s2=>?_⟩;have S2:=S1.trans s2;have g2:=s2 _ _ g1;refine⟨_,rfl,?_⟩;by_cases bc:Nm w
  rotate_left
  ·rw[zB bc,zp rfl]
   exact kN (λe ht=>by obtain⟨x,_,_,hR⟩:=Oi ht;exact bc hR.hw) H2 S2
  rw[zS bc,zk (λz=>nomatch z)];walk_at "n";refine⟨_,fU g2,λq1 fl=>?_⟩;rw[show CK ((a::b::kk::w::rest).map V.str) none (some 2)=[a,b].map V.str from by rw[show(2:Int)=((2:Nat):Int)from rfl,kY];rfl];have n3:=fO (o:=.lst ([a,b].map V.str)) fl;have e3:upd H2 q1 (.lst ([a,b].map V.str)) q1=some (.lst ([a,b].map V.str)):=fL;refine⟨⟨_,fU e3⟩,QR e3 (show 2<=20000 by decide) (λx hx=>zF (bv x (by rcases zh.mp hx with rfl|hx;exact zi;rw[zJ.mp hx];exact zr _ zi)) (by decide)) λpd H3 s3 b8=>?_⟩;have S3:=S2.trans (n3.trans s3);have g3:=s3 _ _ (n3 _ _ g2);have b8:H3 pd=some (.lst [V.int (gK a),V.int (gK b)]):=b8;clear n3 e3 s3;walk_at "n";refine⟨_,fU g3,.str kk,gR (j:=2) rfl,?_⟩;walk_at "n";refine⟨_,fU g3,λq2 fm=>?_⟩;rw[show CK ((a::b::kk::w::rest).map V.str) (some 4) none=rest.map V.str from by rw[show(4:Int)=((4:Nat):Int)from rfl,oh];rfl];have n4:=fO (o:=.lst (rest.map V.str)) fm;have g4:=n4 _ _ g3;have br:=n4 _ _ b8;have e4:upd H3 q2 (.lst (rest.map V.str)) q2=some (.lst (rest.map V.str)):=fL;have S4:=S3.trans n4;generalize upd H3 q2 (.lst (rest.map V.str))=H4 at S4 g4 br e4⊢;clear b8 g3 S3 n4;walk_at "n";unfold aaF;intro pr aw;simp only[Np];have b0:=fO (o:=.dK []) aw;have hd:upd H4 pr (.dK []) pr=some (.dK []):=fL;rw[ap_c];refine HJ (H0:=H4) acZ YZ b0 (ze _) λla H5 s5 A5=>?_
  try dsimp only
  rw[ap_c];refine HJ (H0:=H4) acZ YZ (b0.trans s5) (ze _) λlb H6 s6 B6=>?_;have b2:=s6 _ _ (s5 _ _ hd);refine⟨b2,[(Sum.inr (Str.ofString "buy"),V.ref la),(Sum.inr (Str.ofString "sell"),V.ref lb)],rfl,zV rfl,?_⟩;have s7:Same H4 (upd H6 pr (.dK (oX [] [(Sum.inr (Str.ofString "buy"),V.ref la),(Sum.inr (Str.ofString "sell"),V.ref lb)]))):=(b0.trans (s5.trans s6)).upd aw;have A7:=(A5.same s6).putD (kvs':=oX [] [(Sum.inr (Str.ofString "buy"),V.ref la),(Sum.inr (Str.ofString "sell"),V.ref lb)]) b2;have B7:=B6.putD (kvs':=oX [] [(Sum.inr (Str.ofString "buy"),V.ref la),(Sum.inr (Str.ofString "sell"),V.ref lb)]) b2;have c6:upd H6 pr (.dK (oX [] [(Sum.inr (Str.ofString "buy"),V.ref la),(Sum.inr (Str.ofString "sell"),V.ref lb)])) pr=some (.dK (oX [] [(Sum.inr (Str.ofString "buy"),V.ref la),(Sum.inr (Str.ofString "sell"),V.ref lb)])):=fL;generalize upd H6 pr _=H7 at s7 A7 B7 c6⊢;clear A5 B6 b2 hd s5 s6 b0;rw[show oX [] [(Sum.inr (Str.ofString "buy"),V.ref la),(Sum.inr (Str.ofString "sell"),V.ref lb)]=(putK (putK [] (Sum.inr (Str.ofString "buy")) (V.ref la)) (Sum.inr (Str.ofString "sell")) (V.ref lb))from rfl]at c6
  (try dsimp only)
  refine jY λu hu=>?_;rw[ap_seq];unfold Lj;refine HJ (H0:=H4) [((tC (V.int 1),pw 9),1,1000000000),((tC (V.int 0),pw 18),0,1000000000000000000),((tC (V.int 0),tOp (aaj K) (tV 2) (tC (V.int 0))),0,gK a)] (oA Fq p9 (oA Fq p18 (oA Fq (λH' Q s q=>by walk_at "i";exact⟨_,fU (s _ _ br),_,gR (j:=0) rfl,q⟩) Io))) s7 (zV rfl) λlg H8 s8 G8=>?_;walk_at "i";subst hu;have ca:=s8 _ _ c6;refine⟨_,Gn (k:=Sum.inr (Str.ofString "gift")) ca (by rw[zc];exact zW (QC (QC acU)) (by decide)),?_⟩;have A9:=(A7.same s8).putD (kvs':=(putK (putK (putK [] (Sum.inr (Str.ofString "buy")) (V.ref la)) (Sum.inr (Str.ofString "sell")) (V.ref lb)) (Sum.inr (Str.ofString "gift")) (V.ref lg))) ca;have B9:=(B7.same s8).putD (kvs':=(putK (putK (putK [] (Sum.inr (Str.ofString "buy")) (V.ref la)) (Sum.inr (Str.ofString "sell")) (V.ref lb)) (Sum.inr (Str.ofString "gift")) (V.ref lg))) ca;have G9:=G8.putD (kvs':=(putK (putK (putK [] (Sum.inr (Str.ofString "buy")) (V.ref la)) (Sum.inr (Str.ofString "sell")) (V.ref lb)) (Sum.inr (Str.ofString "gift")) (V.ref lg))) ca;have s9:Same H4 (upd H8 pr (.dK (putK (putK (putK [] (Sum.inr (Str.ofString "buy")) (V.ref la)) (Sum.inr (Str.ofString "sell")) (V.ref lb)) (Sum.inr (Str.ofString "gift")) (V.ref lg)))):=(s7.trans s8).upd aw;have d5:upd H8 pr (.dK (putK (putK (putK [] (Sum.inr (Str.ofString "buy")) (V.ref la)) (Sum.inr (Str.ofString "sell")) (V.ref lb)) (Sum.inr (Str.ofString "gift")) (V.ref lg))) pr=some (.dK (putK (putK (putK [] (Sum.inr (Str.ofString "buy")) (V.ref la)) (Sum.inr (Str.ofString "sell")) (V.ref lb)) (Sum.inr (Str.ofString "gift")) (V.ref lg))):=fL;generalize upd H8 pr _=H9 at s9 d5 A9 B9 G9⊢
  (try dsimp only)
  refine jY λu hu=>?_;rw[ap_seq];unfold Lj;refine HJ (H0:=H4) [((tC (V.int 1),pw 9),1,1000000000)] (oA Fq p9 Io) s9 (zV rfl) λlv cr bd fa=>?_;walk_at "i";subst hu;have aj:=bd _ _ d5;refine⟨_,Gn (k:=Sum.inr (Str.ofString "give")) aj (by rw[zc];exact zW (QC (QC (QC acU))) (by decide)),?_⟩;have ep:=(A9.same bd).putD (kvs':=(putK (putK (putK (putK [] (Sum.inr (Str.ofString "buy")) (V.ref la)) (Sum.inr (Str.ofString "sell")) (V.ref lb)) (Sum.inr (Str.ofString "gift")) (V.ref lg)) (Sum.inr (Str.ofString "give")) (V.ref lv))) aj;have eh:=(B9.same bd).putD (kvs':=(putK (putK (putK (putK [] (Sum.inr (Str.ofString "buy")) (V.ref la)) (Sum.inr (Str.ofString "sell")) (V.ref lb)) (Sum.inr (Str.ofString "gift")) (V.ref lg)) (Sum.inr (Str.ofString "give")) (V.ref lv))) aj;have du:=(G9.same bd).putD (kvs':=(putK (putK (putK (putK [] (Sum.inr (Str.ofString "buy")) (V.ref la)) (Sum.inr (Str.ofString "sell")) (V.ref lb)) (Sum.inr (Str.ofString "gift")) (V.ref lg)) (Sum.inr (Str.ofString "give")) (V.ref lv))) aj;have d2:=fa.putD (kvs':=(putK (putK (putK (putK [] (Sum.inr (Str.ofString "buy")) (V.ref la)) (Sum.inr (Str.ofString "sell")) (V.ref lb)) (Sum.inr (Str.ofString "gift")) (V.ref lg)) (Sum.inr (Str.ofString "give")) (V.ref lv))) aj;have de:Same H4 (upd cr pr (.dK (putK (putK (putK (putK [] (Sum.inr (Str.ofString "buy")) (V.ref la)) (Sum.inr (Str.ofString "sell")) (V.ref lb)) (Sum.inr (Str.ofString "gift")) (V.ref lg)) (Sum.inr (Str.ofString "give")) (V.ref lv)))):=(s9.trans bd).upd aw;have ch:upd cr pr (.dK (putK (putK (putK (putK [] (Sum.inr (Str.ofString "buy")) (V.ref la)) (Sum.inr (Str.ofString "sell")) (V.ref lb)) (Sum.inr (Str.ofString "gift")) (V.ref lg)) (Sum.inr (Str.ofString "give")) (V.ref lv))) pr=some (.dK (putK (putK (putK (putK [] (Sum.inr (Str.ofString "buy")) (V.ref la)) (Sum.inr (Str.ofString "sell")) (V.ref lb)) (Sum.inr (Str.ofString "gift")) (V.ref lg)) (Sum.inr (Str.ofString "give")) (V.ref lv))):=fL;generalize upd cr pr _=ft at de ch ep eh du d2⊢
  (try dsimp only)
  refine jY λu hu=>?_;rw[ap_seq];unfold Lj;refine HJ (H0:=H4) [((tC (V.int 1),tC (V.int 1000)),1,1000),((tC (V.int 1),tC (V.int 1000)),1,1000)] (oA Fq Fq (oA Fq Fq Io)) de (zV rfl) λls cz av e8=>?_;walk_at "i";subst hu;have af:=av _ _ ch;refine⟨_,Gn (k:=Sum.inr (Str.ofString "split")) af (by rw[zc];exact zW (QC (QC (QC (QC acU)))) (by decide)),?_⟩;have en:=(ep.same av).putD (kvs':=(putK (putK (putK (putK (putK [] (Sum.inr (Str.ofString "buy")) (V.ref la)) (Sum.inr (Str.ofString "sell")) (V.ref lb)) (Sum.inr (Str.ofString "gift")) (V.ref lg)) (Sum.inr (Str.ofString "give")) (V.ref lv)) (Sum.inr (Str.ofString "split")) (V.ref ls))) af;have d3:=(eh.same av).putD (kvs':=(putK (putK (putK (putK (putK [] (Sum.inr (Str.ofString "buy")) (V.ref la)) (Sum.inr (Str.ofString "sell")) (V.ref lb)) (Sum.inr (Str.ofString "gift")) (V.ref lg)) (Sum.inr (Str.ofString "give")) (V.ref lv)) (Sum.inr (Str.ofString "split")) (V.ref ls))) af;have dq:=(du.same av).putD (kvs':=(putK (putK (putK (putK (putK [] (Sum.inr (Str.ofString "buy")) (V.ref la)) (Sum.inr (Str.ofString "sell")) (V.ref lb)) (Sum.inr (Str.ofString "gift")) (V.ref lg)) (Sum.inr (Str.ofString "give")) (V.ref lv)) (Sum.inr (Str.ofString "split")) (V.ref ls))) af;have ec:=(d2.same av).putD (kvs':=(putK (putK (putK (putK (putK [] (Sum.inr (Str.ofString "buy")) (V.ref la)) (Sum.inr (Str.ofString "sell")) (V.ref lb)) (Sum.inr (Str.ofString "gift")) (V.ref lg)) (Sum.inr (Str.ofString "give")) (V.ref lv)) (Sum.inr (Str.ofString "split")) (V.ref ls))) af;have di:=e8.putD (kvs':=(putK (putK (putK (putK (putK [] (Sum.inr (Str.ofString "buy")) (V.ref la)) (Sum.inr (Str.ofString "sell")) (V.ref lb)) (Sum.inr (Str.ofString "gift")) (V.ref lg)) (Sum.inr (Str.ofString "give")) (V.ref lv)) (Sum.inr (Str.ofString "split")) (V.ref ls))) af;have dg:Same H4 (upd cz pr (.dK (putK (putK (putK (putK (putK [] (Sum.inr (Str.ofString "buy")) (V.ref la)) (Sum.inr (Str.ofString "sell")) (V.ref lb)) (Sum.inr (Str.ofString "gift")) (V.ref lg)) (Sum.inr (Str.ofString "give")) (V.ref lv)) (Sum.inr (Str.ofString "split")) (V.ref ls)))):=(de.trans av).upd aw;have ck:upd cz pr (.dK (putK (putK (putK (putK (putK [] (Sum.inr (Str.ofString "buy")) (V.ref la)) (Sum.inr (Str.ofString "sell")) (V.ref lb)) (Sum.inr (Str.ofString "gift")) (V.ref lg)) (Sum.inr (Str.ofString "give")) (V.ref lv)) (Sum.inr (Str.ofString "split")) (V.ref ls))) pr=some (.dK (putK (putK (putK (putK (putK [] (Sum.inr (Str.ofString "buy")) (V.ref la)) (Sum.inr (Str.ofString "sell")) (V.ref lb)) (Sum.inr (Str.ofString "gift")) (V.ref lg)) (Sum.inr (Str.ofString "give")) (V.ref lv)) (Sum.inr (Str.ofString "split")) (V.ref ls))):=fL;generalize upd cz pr _=fx at dg ck en d3 dq ec di⊢
  (try dsimp only)
  refine jY λu hu=>?_;rw[ap_seq];unfold Lj;refine HJ (H0:=H4) [((tC (V.int 0),pw 6),0,1000000),((tC (V.int 1),pw 6),1,1000000)] (oA Fq p6' (oA Fq p6' Io)) dg (zV rfl) λlp c7 as ez=>?_;walk_at "i";subst hu;have ad:=as _ _ ck;refine⟨_,Gn (k:=Sum.inr (Str.ofString "part")) ad (by rw[zc];exact zW (QC (QC (QC (QC (QC acU))))) (by decide)),?_⟩;have c3:=(en.same as).putD (kvs':=(putK (putK (putK (putK (putK (putK [] (Sum.inr (Str.ofString "buy")) (V.ref la)) (Sum.inr (Str.ofString "sell")) (V.ref lb)) (Sum.inr (Str.ofString "gift")) (V.ref lg)) (Sum.inr (Str.ofString "give")) (V.ref lv)) (Sum.inr (Str.ofString "split")) (V.ref ls)) (Sum.inr (Str.ofString "part")) (V.ref lp))) ad;have cw:=(d3.same as).putD (kvs':=(putK (putK (putK (putK (putK (putK [] (Sum.inr (Str.ofString "buy")) (V.ref la)) (Sum.inr (Str.ofString "sell")) (V.ref lb)) (Sum.inr (Str.ofString "gift")) (V.ref lg)) (Sum.inr (Str.ofString "give")) (V.ref lv)) (Sum.inr (Str.ofString "split")) (V.ref ls)) (Sum.inr (Str.ofString "part")) (V.ref lp))) ad;have cv:=(dq.same as).putD (kvs':=(putK (putK (putK (putK (putK (putK [] (Sum.inr (Str.ofString "buy")) (V.ref la)) (Sum.inr (Str.ofString "sell")) (V.ref lb)) (Sum.inr (Str.ofString "gift")) (V.ref lg)) (Sum.inr (Str.ofString "give")) (V.ref lv)) (Sum.inr (Str.ofString "split")) (V.ref ls)) (Sum.inr (Str.ofString "part")) (V.ref lp))) ad;have cq:=(ec.same as).putD (kvs':=(putK (putK (putK (putK (putK (putK [] (Sum.inr (Str.ofString "buy")) (V.ref la)) (Sum.inr (Str.ofString "sell")) (V.ref lb)) (Sum.inr (Str.ofString "gift")) (V.ref lg)) (Sum.inr (Str.ofString "give")) (V.ref lv)) (Sum.inr (Str.ofString "split")) (V.ref ls)) (Sum.inr (Str.ofString "part")) (V.ref lp))) ad;have c8:=(di.same as).putD (kvs':=(putK (putK (putK (putK (putK (putK [] (Sum.inr (Str.ofString "buy")) (V.ref la)) (Sum.inr (Str.ofString "sell")) (V.ref lb)) (Sum.inr (Str.ofString "gift")) (V.ref lg)) (Sum.inr (Str.ofString "give")) (V.ref lv)) (Sum.inr (Str.ofString "split")) (V.ref ls)) (Sum.inr (Str.ofString "part")) (V.ref lp))) ad;have da:=ez.putD (kvs':=(putK (putK (putK (putK (putK (putK [] (Sum.inr (Str.ofString "buy")) (V.ref la)) (Sum.inr (Str.ofString "sell")) (V.ref lb)) (Sum.inr (Str.ofString "gift")) (V.ref lg)) (Sum.inr (Str.ofString "give")) (V.ref lv)) (Sum.inr (Str.ofString "split")) (V.ref ls)) (Sum.inr (Str.ofString "part")) (V.ref lp))) ad;have ax:Same H4 (upd c7 pr (.dK (putK (putK (putK (putK (putK (putK [] (Sum.inr (Str.ofString "buy")) (V.ref la)) (Sum.inr (Str.ofString "sell")) (V.ref lb)) (Sum.inr (Str.ofString "gift")) (V.ref lg)) (Sum.inr (Str.ofString "give")) (V.ref lv)) (Sum.inr (Str.ofString "split")) (V.ref ls)) (Sum.inr (Str.ofString "part")) (V.ref lp)))):=(dg.trans as).upd aw;have ai:upd c7 pr (.dK (putK (putK (putK (putK (putK (putK [] (Sum.inr (Str.ofString "buy")) (V.ref la)) (Sum.inr (Str.ofString "sell")) (V.ref lb)) (Sum.inr (Str.ofString "gift")) (V.ref lg)) (Sum.inr (Str.ofString "give")) (V.ref lv)) (Sum.inr (Str.ofString "split")) (V.ref ls)) (Sum.inr (Str.ofString "part")) (V.ref lp))) pr=some (.dK (putK (putK (putK (putK (putK (putK [] (Sum.inr (Str.ofString "buy")) (V.ref la)) (Sum.inr (Str.ofString "sell")) (V.ref lb)) (Sum.inr (Str.ofString "gift")) (V.ref lg)) (Sum.inr (Str.ofString "give")) (V.ref lv)) (Sum.inr (Str.ofString "split")) (V.ref ls)) (Sum.inr (Str.ofString "part")) (V.ref lp))):=fL
  generalize upd c7 pr _=dt at ax ai c3 cw cv cq c8 da⊢;rw[show(putK (putK (putK (putK (putK (putK [] (Sum.inr (Str.ofString "buy")) (V.ref la)) (Sum.inr (Str.ofString "sell")) (V.ref lb)) (Sum.inr (Str.ofString "gift")) (V.ref lg)) (Sum.inr (Str.ofString "give")) (V.ref lv)) (Sum.inr (Str.ofString "split")) (V.ref ls)) (Sum.inr (Str.ofString "part")) (V.ref lp))=kv6 la lb lg lv ls lp from rfl]at ai;have cc:=S4.trans ax;have dk:=ax _ _ g4;have ap:=ax _ _ br;have ef:=ax _ _ e4;have dp:=fun{x:Kx}=>abH c3 cw cv cq c8 da (x:=x);clear ax c3 cw cv cq c8 da;walk_at "n";by_cases hk:∃x∈kxs,x.wd=kk
  rotate_left
  ·refine⟨_,Dc (k:=Sum.inr kk) ai,?_⟩
   rw[abf λx hx e=>hk ⟨x,hx,e⟩,zp (show(none:Option V).isSome=false from rfl)];exact kN (λe ht=>by obtain⟨x,hx,e1,_⟩:=Oi ht;exact hk ⟨x,hx,e1⟩) dt cc
  obtain⟨x,hx,rfl⟩:=hk;obtain⟨l,hv,hA⟩:=dp hx
  have ak:(∀o,¬adN a b w rest x o)->∀H',Same H H'->Q .non H':=λc9=>kN λe ht=>by
   obtain⟨x',fc,e1,hR⟩:=Oi ht;rw[aaC fc hx e1]at hR;exact c9 _ hR
  clear dp kN;refine⟨_,Dc (k:=Sum.inr x.wd) ai,?_⟩;rw[hv,zk (λz=>nomatch z)];refine⟨⟨by decide,by decide,by decide⟩,sz,λp6 eu=>⟨⟨by decide,by decide,by decide⟩,sz,λp7 cx=>⟨sz,λp8 c0=>?_⟩⟩⟩;rw[e6]at cx c0⊢;have m1:=fO (o:=.tup [V.int 0,V.int 1000000]) eu;have m2:=fO (o:=.tup [V.int 0,V.int 1000000]) cx;have m3:=fO (o:=.lst [V.ref p6,V.ref p7]) c0;have M:=m1.trans (m2.trans m3)
  have hL:Gw (upd (upd (upd dt p6 (.tup [V.int 0,V.int 1000000])) p7 (.tup [V.int 0,V.int 1000000])) p8 (.lst [V.ref p6,V.ref p7])) [(p6,(0:Int),(1000000:Int)),(p7,0,1000000)]:=λr hr=>by
   rcases zh.mp hr with rfl|hr
   ·exact m3 _ _ (m2 _ _ fL)
   ·rw[zJ.mp hr]
    exact m3 _ _ fL
  have hW:Wth [gK a,gK b] [(p6,(0:Int),(1000000:Int)),(p7,0,1000000)]↔(0<=gK a/\gK a<=1000000)/\(0<=gK b/\gK b<=1000000):=by
   rw[Iw];exact⟨λh=>⟨h.1,h.2.1⟩,λh=>⟨h.1,h.2,True.intro⟩⟩
  refine⟨pd,p8,[gK a,gK b],[(p6,(0:Int),(1000000:Int)),(p7,0,1000000)],rfl,M _ _ ap,fL,hL,zV rfl,zV rfl,λw1 bw b5=>?_,λw1 bw b5=>⟨_,rfl,?_⟩⟩
  rotate_left
  ·rw[zp rfl]
   exact ak (λo hR=>w1 (hW.mpr ⟨hR.ha,hR.hb⟩)) bw (cc.trans (M.trans b5))
  obtain⟨er,dy⟩:=hW.mp w1;refine⟨_,rfl,?_⟩;rw[zk (λz=>nomatch z)];have aq:=M.trans b5;clear hL hW w1 m1 m2 m3 M;have ed:=cc.trans aq;have db:=aq _ _ dk;have an:=aq _ _ ap;have dn:=aq _ _ ef;have cm:=aq _ _ ai;have cl:=hA.same aq;clear dk ap ef hA cc b5 aq eu cx c0;walk_at "n";refine⟨_,fU an,_,gR (j:=0) rfl,_,fU an,_,gR (j:=1) rfl,_,fU db,_,gR (j:=3) rfl,sz,λpt dm=>?_⟩;have bb:=fO (o:=.tup [V.str x.wd,V.int (gK a),V.int (gK b),V.str w]) dm;have b1:upd bw pt (.tup [V.str x.wd,V.int (gK a),V.int (gK b),V.str w]) pt=some (.tup [V.str x.wd,V.int (gK a),V.int (gK b),V.str w]):=fL;have bu:=ed.trans bb;have ct:=bb _ _ db;have bh:=bb _ _ dn;have bn:=bb _ _ cm;have bm:=cl.same bb;generalize upd bw pt (.tup [V.str x.wd,V.int (gK a),V.int (gK b),V.str w])=d6 at bu b1 ct bh bn bm⊢;clear db an dn cm cl ed bb
  try dsimp only
  refine vU (λσ' H'=>∃q bx,σ'=[some (.str z),some (.ref p1),some (.ref pd),some (.str x.wd),some (.ref q),some (.ref pr),some (.ref bx),none,none,none]/\Same d6 H'/\H' q=some (.lst ((x.rest rest).map V.str))/\H' bx=some (.tup ([V.str x.wd,V.int (gK a),V.int (gK b),V.str w]++(if x.pt then[V.str (rest.headD (Str.ofString ""))]else[])))/\(x.pt=true->∃u r,rest=u::r/\Nm u/\u≠w)) ?_ ?_
  rotate_left
  ·intro N hN
   walk_at "i";by_cases ab:x.wd=Str.ofString "part"
   ·rw[zp ab]
    have ag:=(Er hx).mp ab;walk_at "n";refine⟨zQ _,λp9 dl=>QD ((fO dl) _ _ bh) fL (Ym _) ⟨_,rfl,?_⟩⟩;have az:=fO (o:=.lst []) dl;have au:=bu.trans az;have el:=az _ _ ct;have ar:=az _ _ bh;have bl:=az _ _ b1;generalize upd d6 p9 (.lst [])=cp at az au el ar bl⊢
    cases rest with
    |nil=>
     rw[zp (show(([]:List Str).map V.str).isEmpty=true from rfl)];exact ak (λo hR=>by obtain⟨u,r,e,_⟩:=hR.hu ag;cases e) cp au
    |cons u r=>
     rw[zk (show¬(((u::r).map V.str).isEmpty)=true from zw)];refine⟨_,fU ar,.str u,gR (j:=0) rfl,u,rfl,zF (bv u (by simp)) (by decide),λeo bp=>⟨_,rfl,?_⟩⟩;have eg:=au.trans bp;have fb:=bp _ _ el;have c5:=bp _ _ ar;have e5:=bp _ _ bl;by_cases b3:Nm u
     rotate_left
     ·rw[zB b3,zp rfl]
      exact ak (λo hR=>by obtain⟨u',r',e,h1,_⟩:=hR.hu ag;cases e;exact b3 h1) eo eg
     rw[zS b3,zk (λz=>nomatch z)];refine⟨_,fU c5,.str u,gR (j:=0) rfl,_,fU fb,.str w,gR (j:=3) rfl,rfl,?_⟩;by_cases ba:u=w
     ·rw[zp (congrArg V.str ba)]
      exact ak (λo hR=>by obtain⟨u',r',e,_,h1⟩:=hR.hu ag;cases e;exact h1 ba) eo eg
     rw[zk (λe=>ba (V.str.inj e))];walk_at "n";refine⟨_,fU c5,.str u,gR (j:=0) rfl,sz,λfy d7=>?_⟩;have dj:=fO (o:=.tup [V.str u]) d7;refine Jq (dj _ _ e5) (by simp) fL (by simp) (zV rfl) λfi c1 bt bz=>?_;have ao:=dj.trans bt;walk_at "i";refine⟨_,fU (ao _ _ c5),λq3 fh=>?_⟩;rw[show CK ((u::r).map V.str) (some 1) none=r.map V.str from by rw[show(1:Int)=((1:Nat):Int)from rfl,oh];rfl];have dr:=fO (o:=.lst (r.map V.str)) fh;refine hN _ _ ⟨q3,fi,rfl,(az.trans bp).trans (ao.trans dr),?_,?_,λ_=>⟨u,r,rfl,b3,ba⟩⟩
     ·rw[fL]
      unfold Kx.rest;rw[ag];rfl
     ·rw[dr _ _ bz,ag]
      rfl
   ·rw[zk ab]
    have ag:x.pt=false:=by rw[<-zzK];exact λh=>ab ((Er hx).mpr h)
    refine hN _ _ ⟨q2,pt,rfl,same_refl _,?_,?_,λh=>by rw[ag]at h;cases h⟩
    ·unfold Kx.rest
     rw[ag];exact bh
    ·rw[ag]
     exact b1
  rintro σ' cp ⟨q,bx,rfl,b9,ar,bl,ci⟩;have au:=bu.trans b9;have bi:=b9 _ _ bn;have co:=bm.same b9;clear b9 bn bm bh b1 ct bu dm;walk_at "n";refine⟨.ref l,by rw[<-hv];exact Dc (k:=Sum.inr x.wd) bi,?_⟩;obtain⟨rs,bq,b7,d0⟩:=co.ex;have hm:(refs rs).length=(x.rg (gK a)).length:=by rw[jL,<-b7,za]
  have e2:=acN hx (gK a);refine⟨l,_,rfl,.inl (fU bq),?_⟩;rw[hm];walk_at "n";refine⟨_,fU ar,λqs fj=>?_⟩;rw[kY,<-z8];have eq:=fO (o:=.lst (((x.rest rest).take (x.rg (gK a)).length).map V.str)) fj;have c2:upd cp qs (.lst (((x.rest rest).take (x.rg (gK a)).length).map V.str)) qs=some (.lst (((x.rest rest).take (x.rg (gK a)).length).map V.str)):=fL
  have cf:∀y∈x.rest rest,y.length<=11950:=λy hy=>bv y (by
   unfold Kx.rest at hy
   have:y∈rest:=by
    split at hy
    ·exact List.mem_of_mem_tail hy
    ·exact hy
   simp[this])
  refine⟨⟨_,fU c2⟩,QR c2 (by rw[zx];lia) (λy hy=>zF (cf y (z5 hy)) (by decide)) λpn c1 bt ay=>?_⟩;have ay:c1 pn=some (.lst ((x.ns (gK a) rest).map V.int)):=ay;have aa:=eq.trans bt;have ao:=au.trans aa;have dv:=aa _ _ ar;have bz:=aa _ _ bl;have ce:=aa _ _ bi;have cn:=aa _ _ bq;have cg:=d0.same aa;clear eq c2 bt aa au ar bl bi bq d0 co
  try dsimp only
  refine vU (λσ' H'=>σ'=[some (.str z),some (.ref p1),some (.ref pd),some (.str x.wd),some (.ref q),some (.ref pr),some (.ref bx),some (.int ((x.rg (gK a)).length:Nat)),some (.ref pn),none]/\Same c1 H'/\JZ (x.ns (gK a) rest) (x.rg (gK a))/\(x.pt=true->(x.ns (gK a) rest).getD 0 0<=(x.ns (gK a) rest).getD 1 0)) ?_ ?_
  rotate_left
  ·intro N hN
   walk_at "i";refine⟨.ref l,by rw[<-hv];exact Dc (k:=Sum.inr x.wd) ce,?_⟩;have fr:(x.ns (gK a) rest).length<=3:=by unfold Kx.ns;rw[za,zx];lia
   have f0:rs.length<=3:=by rw[<-jL,hm];exact e2
   refine⟨pn,l,x.ns (gK a) rest,rs,rfl,ay,cn,cg,by lia,by lia,λw1 cb aa=>⟨_,rfl,?_⟩,λw1 cb aa=>⟨_,rfl,?_⟩⟩
   rotate_left
   ·rw[zp rfl]
    exact ak (λo hR=>w1 (Iw.mpr (by rw[b7];exact hR.hn))) cb (ao.trans aa)
   have w2:JZ (x.ns (gK a) rest) (x.rg (gK a)):=by rw[<-b7];exact Iw.mp w1
   rw[zk (λz=>nomatch z)];by_cases ab:x.wd=Str.ofString "part"
   rotate_left
   ·rw[zk ab]
    exact hN _ _ ⟨rfl,aa,w2,λh=>absurd ((Er hx).mpr h) ab⟩
   rw[zp ab];obtain⟨n0,n1,ah⟩:∃n0 n1,x.ns (gK a) rest=[n0,n1]:=acR (by rw[lB w2];exact Yi hx ((Er hx).mp ab) _);have be:=aa _ _ ay;rw[ah]at be w2;refine⟨_,fU be,_,gR (j:=0) rfl,_,fU be,_,gR (j:=1) rfl,_,rfl,_,rfl,?_⟩;by_cases et:n1<n0
   ·rw[zp et]
    exact ak (λo hR=>by have:=hR.hp ((Er hx).mp ab);rw[ah]at this;have this:n0<=n1:=this;lia) cb (ao.trans aa)
   rw[zk et];refine hN _ _ ⟨rfl,aa,by rw[ah];exact w2,λ_=>?_⟩;rw[ah];show n0<=n1;lia
  rintro σ' cb ⟨rfl,aa,w2,d9⟩;have d1:=ao.trans aa;have dh:=aa _ _ dv;have ek:=aa _ _ bz;have al:=aa _ _ ay;clear aa ao dv bz ce cn cg ay b7 hm hv;walk_at "n"
  have bg:(x.ns (gK a) rest).map V.int≠[]:=λe=>by
   have h1:=lB w2;rw[List.map_eq_nil_iff.mp e]at h1;exact absurd h1.symm (abe hx _)
  refine⟨_,.inl ⟨fU al,λpi ej=>?_⟩⟩;have dc:=fO (o:=.tup ((x.ns (gK a) rest).map V.int)) ej;refine Jq (dc _ _ ek) (by simp) fL bg ?_ λpu fq dw bo=>?_
  ·have h1:=lB w2
   rw[zc,za,zm];have:(if x.pt=true then[V.str (rest.headD (Str.ofString ""))]else[]).length<=1:=by split<;>simp
   simp only[zy,yf];lia
  have bo:fq pu=some (.tup (x.told a b w rest)):=bo;have b4:=dc.trans dw;have bs:=d1.trans b4;have cy:=b4 _ _ dh;have cu:=b4 _ _ al;clear dc dw b4 d1 dh ek al ej
  have d4:(x.rg (gK a)).length<=(x.rest rest).length:=by
   have h1:=lB w2;unfold Kx.ns at h1;rw[za,zx]at h1;lia
  walk_at "n";by_cases ae:x.lot=true
  rotate_left
  ·rw[acw λh=>ae ((Yu hx).mp h)]
   rw[zzK]at ae;refine⟨sz,λe7 bj=>?_⟩;have ac:=fO (o:=.lst [V.ref pu,V.non]) bj;refine⟨_,.inl (fU (ac _ _ cy)),.inr ⟨_,fU fL,?_⟩⟩;rw[za];by_cases ee:(x.rest rest).length<=(x.rg (gK a)).length
   ·rw[zk (by lia)]
    refine⟨.ref pu,gR (j:=0) rfl,?_⟩;obtain⟨e,hT,am,bf⟩:=YH hx (o:=none) ⟨bc,er,dy,ci,w2,d9,λ_=>⟨ee,rfl⟩,λh=>by rw[ae]at h;cases h⟩;refine k e pu _ hT (bs.trans ac) ⟨.non,?_,by rw[am];rfl⟩;rw[bf,ae,ac _ _ bo];simp
   ·rw[zp (by lia)]
    exact⟨.non,gR (j:=1) rfl,ak (λo hR=>ee (hR.hm ae).1) _ (bs.trans ac)⟩
  rw[aaH ((Yu hx).mpr ae)];walk_at "n";refine⟨_,.inl (fU cy),?_⟩;rw[za]
  have cj:∀(o:Option Rs)(nt:V)(t:Addr) H',Same H H'->Rj ((x.rest rest).drop (x.rg (gK a)).length) (wO o)->GQ ((x.ns (gK a) rest).getD 0 0) o->H' t=some (.tup (x.told a b w rest++[nt]))->NT H' nt o->Q (.ref t) H':=λo nt t H' s h1 h2 h3 h4=>by
   obtain⟨e,hT,am,bf⟩:=YH hx (o:=o) ⟨bc,er,dy,ci,w2,d9,λh=>(by rw[ae]at h;cases h),λ_=>⟨h1,h2⟩⟩;refine k e t _ hT s ⟨nt,?_,by rw[am];exact h4⟩;rw[bf,ae];exact h3
  have bk:x.told a b w rest≠[]:=by unfold Kx.told;simp
  have ff:(x.told a b w rest).length<=9:=by
   have h1:=lB w2;unfold Kx.told;rw[zm,zm,za];have:(if x.pt=true then[V.str (rest.headD (Str.ofString ""))]else[]).length<=1:=by split<;>simp
   simp only[zy,yf];lia
  by_cases c4:(x.rest rest).length=(x.rg (gK a)).length
  ·rw[zp (by rw[c4])]
   refine⟨sz,λe7 bj=>?_⟩;have ac:=fO (o:=.tup [V.non]) bj;refine Jq (ac _ _ bo) bk fL (by simp) (by rw[zc];simp only[zy,yf];lia) λpv e0 ev fp=>?_;exact cj none .non pv e0 (bs.trans (ac.trans ev)) (List.drop_eq_nil_of_le (by lia)) True.intro fp rfl
  rw[zk (by lia)];walk_at "n";refine⟨_,fU cy,λql fo=>?_⟩;rw[oh,<-yZ];have ac:=fO (o:=.lst (((x.rest rest).drop (x.rg (gK a)).length).map V.str)) fo;obtain⟨fw,fk⟩:=WT hx ae (gK a)
  obtain ⟨n0,nr,ah⟩:∃n0 nr,x.ns (gK a) rest=n0::nr:=by
   cases e:x.ns (gK a) rest with
   |nil=>rw[e]at bg;exact absurd rfl bg
   |cons n0 nr=>exact⟨n0,nr,rfl⟩
  have fe:n0<=1000000000:=by
   rw[ah,fk]at w2;exact w2.1.2
  have d8:meas ((x.rest rest).drop (x.rg (gK a)).length)<=11951:=by
   have h1:=wk (x.rest rest) (x.rg (gK a)).length
   have h2:meas (x.rest rest)<=meas rest:=by
    unfold Kx.rest;split
    ·have:=wk rest 1
     rw[List.drop_one]at this;lia
    ·exact ze _
   have h3:=jt [a,b,x.wd,w] rest;rw[show[a,b,x.wd,w]++rest=a::b::x.wd::w::rest from rfl]at h3;lia
  refine⟨_,fU (ac _ _ cu),.int n0,gR (j:=0) (by rw[ah];rfl),?_⟩;refine⟨ql,_,n0,rfl,fL,λy hy=>zF (cf y (yV hy)) (by decide),by unfold meas at d8;lia,by unfold meas at d8;lia,fe,λdd t H' s' em hg ht hL=>?_,λc9 H' s'=>?_⟩
  ·walk_at "a"
   have ba:(x.rest rest).drop (x.rg (gK a)).length≠[]:=λe=>c4 (Nat.le_antisymm (zzP.mp e) d4);refine⟨sz,λfz dz=>?_⟩;have b6:=fO (o:=.tup [V.ref t]) dz;refine Jq (b6 _ _ (s' _ _ (ac _ _ bo))) bk fL (by simp) (by rw[zc];simp only[zy,yf];lia) λpv fg df ey=>?_;exact cj (some dd) (.ref t) pv fg (bs.trans (ac.trans (s'.trans (b6.trans df)))) ⟨ba,by rw[em,zP];rfl⟩ (by rw[ah];exact hg) ey ⟨t,rfl,df _ _ (b6 _ _ ht),(hL.same b6).same df⟩
  ·walk_at "a"
   refine ak (λo hR=>?_) H' (bs.trans (ac.trans s'));obtain⟨h1,h2⟩:=hR.hl ae
   cases o with
   |none=>exact c4 (Nat.le_antisymm (zzP.mp h1) d4)
   |some dd=>
    rw[ah]at h2;refine c9 dd ?_ h2;rw[<-h1.2,zP];rfl
def Yx(e:Ent)(q:V):atI (V.str e.word::e.args q) 2=some (.int e.num):=by cases e<;>rfl
def Wj{H:Hp}{p:Addr}{xs ys:List V}{tl:EL}(hp:H p=some (.lst xs))(h:∀r∈tl,xW H r.1 r.2):∀r∈tl,xW (upd H p (.lst ys)) r.1 r.2:=λr hr=>by
 obtain⟨nt,ht,hn⟩:=h r hr;refine⟨nt,(fX λz=>by rw[z,hp]at ht;cases ht).trans ht,?_⟩;revert hn
 cases r.2.lots with
 |none=>exact λh=>h
 |some rs=>
  rintro⟨l,e0,hl,hL⟩;exact⟨l,e0,(fX λz=>by rw[z,hp]at hl;cases hl).trans hl,λq hq=>(fX λz=>by have:=hL q hq;rw[z,hp]at this;cases this).trans (hL q hq)⟩
def RQ{H:Hp}{p:Addr}{kvs kvs':List (Key×V)}{tl:EL}(hp:H p=some (.dK kvs))(h:∀r∈tl,xW H r.1 r.2):∀r∈tl,xW (upd H p (.dK kvs')) r.1 r.2:=λr hr=>by
 obtain⟨nt,ht,hn⟩:=h r hr;refine⟨nt,(fX λz=>by rw[z,hp]at ht;cases ht).trans ht,?_⟩;revert hn
 cases r.2.lots with
 |none=>exact λh=>h
 |some rs=>
  rintro⟨l,e0,hl,hL⟩;exact⟨l,e0,(fX λz=>by rw[z,hp]at hl;cases hl).trans hl,λq hq=>(fX λz=>by have:=hL q hq;rw[z,hp]at this;cases this).trans (hL q hq)⟩
def aau(xs:List V)(x:V):atI (xs++[x]) (-1)=some x:=by
 unfold atI ixN;have e:(xs++[x]).length=xs.length+1:=by simp
 rw[zk (by decide),e,zp (by lia),show(-1+((xs.length+1:Nat):Int)).toNat=xs.length by lia];show(xs++[x])[xs.length]? =_;simp
structure Ld(H H2:Hp)(rows:List Str)(pr pe sd:Addr)(i:Nat)(tl:EL)(kvs:List (Key×V)):Prop where
 s:Same H H2
 r:pr≠pe/\pr≠sd/\pe≠sd
 p:H2 pe=some (.lst (jX tl))
 d:H2 sd=some (.dK kvs)
 k:∀r∈tl,xW H2 r.1 r.2
 t:JX (rows.take i) (tl.map (·.2))
 u:((tl.map (·.2)).map Ent.num).Nodup
 v:∀j:Int,(oF kvs (Sum.inl j)).isSome=true↔j∈(tl.map (·.2)).map Ent.num
 l:kvs.length<=i
noncomputable def Ep(K:Fg_):Sp:=λvs H Q _=>∃(z:Str)(rows:List Str)(last:Str),vs=[.str z]/\z.length<=1000000/\Txt.split z (Str.ofString "\n")=rows++[last]/\rows.length<=1000000/\(∀r∈rows,r.length<=11950)/\
 (∀p (tl:EL) H',Same H H'->H' p=some (.lst (jX tl))->(∀r∈tl,xW H' r.1 r.2)->JX rows (tl.map (·.2))->((tl.map (·.2)).map Ent.num).Nodup->last=Str.ofString "" ->Q (.ref p) H')/\
 (∀(i:Nat)(es:List Ent) H',Same H H'->JX (rows.take i) es->(es.map Ent.num).Nodup->Ln rows last i (es.map Ent.num)->Q (.int ((i+1:Nat):Int)) H')
def Ai(T:Txt w K mg A D):ji P w K mg base CX0 4 A.rB D.rB ["_law_text_here"] (Ep K):=by
 refine T.tO.F.okv lM λ_ _ _ _ H vs Q E hr h=>?_
 ·obtain⟨z,q,aa,rfl,hz,ao,hl,hR,k,kE⟩:=h
  refine ⟨_,(fK (gn (i:=1) lM.nd rfl orl (jV (K:=K) zT yF yG Bx (pvD 0) (fG fZ fM)))
   (fK (gn (i:=2) lM.nd rfl orl (iI fM))
   (fK (gn (i:=3) lM.nd rfl orl Eh)
   (fK (wj yw rfl (wY (by rfl) T.tX (fG (fW Hv (gw (gW (K:=K)) (by rfl) T.tS (by decide+kernel) (pav 1 fM)) fH) fM)) (gA (i:=4) lM.nd rfl orl)
    (fK (gn (i:=5) lM.nd rfl orl (pcg (Nr T) hr T.tN (Oh T) (fG (gF (fV (K:=K)) (pvD 1) (pvD 4) (λ_ _=>rfl)) fM)))
    (fK (iB (PW.pt (nZ (fY (Lz) (pvD 5) jJ (gk _)) (lY (fY (FP (Bg hr)) (gF (jP (K:=K)) (pvD 5) fH (λ_ _=>rfl)) (pvD 3) (by with_unfolding_all rfl))))) (fQ (gj (fW iz (pvD 4) fH))) gm)
    (fK (JV (Bg hr) (pvD 3) (gF (jP (K:=K)) (pvD 5) fH (λ_ _=>rfl)) Gz rfl)
    (fQ (gU (jV (K:=K) zY z9 ya mj (pvD 2) (pav 5 fM))))))))
   (fK (iB (fY (Hh) (gF (fV (K:=K)) (pvD 1) (Va Mp fH) (λ_ _=>rfl)) fZ (gk _)) (fQ (gj (gw (gW (K:=K)) (by rfl) T.tS (by decide+kernel) (pav 1 fM)))) gm)
   (fQ (gj (pvD 2)))))))),?_⟩
  simp only[start_eq];walk_at "n";refine⟨rfl,Bq,hz,λpr ag=>?_⟩;rw[ao];have S1:=fO (o:=.lst ((q++[aa]).map V.str)) ag;have g1:upd H pr (.lst ((q++[aa]).map V.str)) pr=some (.lst ((q++[aa]).map V.str)):=fL;generalize upd H pr (.lst ((q++[aa]).map V.str))=H1 at S1 g1⊢;walk_at "n";refine⟨zQ _,λpe ac=>?_⟩;have n2:=fO (o:=.lst []) ac;have e2:upd H1 pe (.lst []) pe=some (.lst []):=fL;have g2:=n2 _ _ g1;have aj:pr≠pe:=λe=>by rw[<-e,g1]at ac;cases ac
  have ak:=S1.free ac;have S2:=S1.trans n2;generalize upd H1 pe (.lst [])=H2 at n2 S2 e2 g2⊢;walk_at "n";intro sd ab;have n3:=fO (o:=.dK []) ab;have d3:upd H2 sd (.dK []) sd=some (.dK []):=fL;have g3:=n3 _ _ g2;have e3:=n3 _ _ e2;have ae:=S2.free ab;have an:pr≠sd:=λe=>by rw[<-e,g2]at ab;cases ab
  have au:pe≠sd:=λe=>by rw[<-e,e2]at ab;cases ab
  have S3:=S2.trans n3;generalize upd H2 sd (.dK [])=H3 at S3 d3 g3 e3⊢;clear n3 g2 e2 n2 g1 S1 S2 ag ac ab
  (try dsimp only)
  refine jY λu hu=>?_;rw[ap_seq];refine Eg λtb am=>?_;rw[ap_for];walk_at "i";refine⟨_,.inl (fU g3),?_⟩
  have af:(((q++[aa]).map V.str).length:Int) - 1=(q.length:Nat):=by
   rw[za,zm,yb];lia
  rw[af];refine⟨by lia,by lia,?_⟩;rw[yU]
  refine Dr.rangeN (lo:=0) (n:=q.length) (λi σ H5=>∃(v4 v5:Option V)(tl:EL)(kvs:List (Key×V)),σ=[some (.str z),some (.ref pr),some (.ref pe),some (.ref sd),v4,v5]/\Ld H H5 q pr pe sd i tl kvs/\H5 pr=some (.lst ((q++[aa]).map V.str)))
   ⟨_,_,[],[],rfl,⟨S3,⟨aj,an,au⟩,e3,d3,(λr hr=>(zg hr).elim),.nil,.nil,λ_=>⟨(λh=>nomatch h),(λh=>nomatch h)⟩,ze _⟩,g3⟩ ?_ ?_
  ·rintro i σ H5 hi ⟨v4,v5,tl,kvs,rfl,L,g5⟩ N hN
   subst am;rw[Int.zero_add,ap_name];have ht:q[i]? =some q[i]:=zD hi;obtain⟨y,hy⟩:∃y,y=q[i]:=⟨_,rfl⟩;rw[<-hy]at ht;walk_at "n";refine⟨_,fU g5,.str y,gR (by rw[zE,zZ hi,ht];rfl),y,rfl,hR y (zb ht),λe t H6 hT s6 ai=>?_,λap H6 s6=>?_⟩
   rotate_left
   ·walk_at "n"
    exact kE i (tl.map (·.2)) H6 (L.s.trans s6) L.t L.u (.inl ⟨y,ht,.inl ap⟩)
   have L6d:=s6 _ _ L.d;have L6p:=s6 _ _ L.p;have L6k:∀r∈tl,xW H6 r.1 r.2:=λr hr=>(L.k r hr).same s6;have g6:=s6 _ _ g5;obtain⟨nt,ah,av⟩:=id ai;walk_at "n";refine⟨_,iD ah,_,Yx e nt,_,Dc (k:=Sum.inl e.num) L6d,?_⟩;by_cases ad:(oF kvs (Sum.inl e.num)).isSome=true
   ·rw[zp ad]
    exact kE i (tl.map (·.2)) H6 (L.s.trans s6) L.t L.u (.inl ⟨y,ht,.inr ⟨e,hT,(L.v _).mp ad⟩⟩)
   rw[zk ad];have ar:e.num∉(tl.map (·.2)).map Ent.num:=λh=>ad ((L.v _).mpr h)
   (try dsimp only)
   refine jY λu2 as=>?_;rw[ap_seq];unfold Lj;walk_at "i"
   have ax:tl.length=i:=by
    have:=zzr L.t;rw[zx,za]at this;lia
   have aw:=L.l;refine⟨_,iD ah,_,Yx e nt,_,Gn (k:=Sum.inl e.num) L6d (by rw[zc];lia),?_⟩;subst as;have e7:upd H6 sd (.dK (putK kvs (Sum.inl e.num) (.bl true))) pe=some (.lst (jX tl)):=(fX L.r.2.2).trans L6p;have g7:upd H6 sd (.dK (putK kvs (Sum.inl e.num) (.bl true))) pr=some (.lst ((q++[aa]).map V.str)):=(fX L.r.2.1).trans g6
   have k7:=RQ (kvs':=putK kvs (Sum.inl e.num) (.bl true)) L6d (tl:=tl++[(t,e)]) λr hr=>by
    rcases zG.mp hr with hr|hr
    ·exact L6k r hr
    ·rw[zJ.mp hr]
     exact ai
   walk_at "i";refine⟨.inl ⟨rfl,_,fU e7⟩,_,e7,by rw[pC,zc];lia,?_⟩;have aq:H sd=none:=ae;refine hN _ _ ⟨_,_,tl++[(t,e)],putK kvs (Sum.inl e.num) (.bl true),rfl,⟨((L.s.trans s6).upd ae).upd ak,L.r,?_,?_,Wj e7 k7,?_,?_,?_,?_⟩,?_⟩
   ·rw[fL]
    unfold jX;rw[zo];rfl
   ·exact(fX L.r.2.2.symm).trans fL
   ·rw[yq,ht,zo]
    exact yym L.t hT
   ·rw[zo,zo]
    exact zzh.mpr ⟨L.u,by simp,λa ha b al z=>by
     rw[zj,yo,zj,yo,zJ]at al;exact ar (by rw[<-al,<-z];exact ha)⟩
   ·intro j
    rw[zo,zo,zG,iW,<-L.v j];by_cases e1:e.num=j
    ·subst e1
     simp
    ·rw[zk (λz=>e1 (yyl z).symm)]
     exact⟨.inl,λh=>h.elim id λh=>absurd (zJ.mp h).symm e1⟩
   ·have:=Ek kvs (Sum.inl e.num:Key) (V.bl true)
    lia
   ·exact(fX L.r.1).trans g7
  ·rintro σ H5 ⟨v4,v5,tl,kvs,rfl,L,g5⟩
   subst hu;have L':=L.t;rw[zX (ze _)]at L';walk_at "n";refine⟨_,fU g5,.str aa,by rw[zo];exact aau _ _,rfl,?_⟩;by_cases h0:aa=Str.ofString ""
   ·rw[zk (λc=>c (congrArg V.str h0))]
    walk_at "a";exact k pe tl H5 L.s L.p L.k L' L.u h0
   ·rw[zp (λc=>h0 (V.str.inj c))]
    refine⟨_,.inl (fU g5),?_⟩;rw[za,zm];exact kE q.length (tl.map (·.2)) H5 L.s L.t L.u (.inr ⟨rfl,h0⟩)
def Vz{H:Hp}{q:Addr}{es:EL}{Q:VK}{σ:L2.St}{cap:List (Option Nat)}(hc:∃a,pM σ cap=[a])(hq:H q=some (.lst (jX es)))(hE:∀r∈es,IsE A H r.1 r.2)(hl:es.length<=1000000)
  (k:∀D ts H',H D=none->Same H H'->H' D=some (.lst (jX ts))->(∀r∈ts,xW H' r.1 r.2)->ts.map (·.2)=es.map (·.2)->Q (.ref D) H'):jC cap (Itl K q) (Fy 0) Eb (tMV (adR A) (Str.ofString "told") E0 0 Ka) σ H Q:=by
 refine jC.listE (K:=K) (λσ=>∃a,σ=[a]) (λi v H'=>∃b r,es[i]? =some r/\v=.ref b/\xW H' b r.2) (fU hq) hc (by rw[pC,zc];lia) ?_ ?_
 ·rintro Da i x hx σ H5 R ⟨_,rfl⟩ sm hD ⟨acc,hA⟩ kk
  obtain⟨r,aa,rfl⟩:=BK hx;have ab:=(hE r (zb aa)).same sm;obtain⟨dx,nv,ad,af⟩:=id ab;obtain⟨ae,hk,hm⟩:=adM A r.2;walk_at "i";exact md ad hm (Vw r.2 nv) ⟨r.1,r.2,hk,rfl,ab,λt nt H6 s6 ht h6 ac=>kk (.ref t) _ H6 ⟨_,rfl⟩ s6 λH' hb=>⟨t,r,aa,rfl,XH ⟨nt,h6,ac⟩ (s6 _ _ hA) hb⟩⟩
 ·intro Da H' acc hD sm hA z hF
  rw[pC]at z;obtain⟨ts,e1,e2,e3⟩:=abX (F:=xW H') z hF;rw[e1]at hA;exact k Da ts H' hD sm hA e3 e2
def adv{z:Str}(h:z.length<=11950):abZ z:=by
 have h1:=HN z;refine⟨by lia,by unfold meas at h1;lia,λu hu=>?_⟩;have:=JK hu;lia
noncomputable def YJ:Sp:=λvs H Q _=>∃(z:Str)(rows:List Str)(last:Str),vs=[.str z]/\z.length<=1000000/\Txt.split z (Str.ofString "\n")=rows++[last]/\rows.length<=300000/\(∀r∈rows,r.length<=11950)/\
 (∀p (tl:EL) H',Same H H'->H' p=some (.lst (jX tl))->(∀r∈tl,xW H' r.1 r.2)->JX rows (tl.map (·.2))->((tl.map (·.2)).map Ent.num).Nodup->last=Str.ofString "" ->Q (.ref p) H')/\
 (∀(i:Nat)(es:List Ent) H',Same H H'->JX (rows.take i) es->(es.map Ent.num).Nodup->Ln rows last i (es.map Ent.num)->Q (.int ((i+1:Nat):Int)) H')
def wQ(T:Txt w K mg A D):ji P w K mg base CX0 10 A.rl D.rl ["_law_text_here"] YJ:=by
 refine T.tI.F.okv lZ λ_ _ _ _ H vs Q E q h=>?_
 ·obtain⟨z,ad,ac,rfl,hz,ae,hl,hR,k,kE⟩:=h
  refine ⟨_,(fK (gn (i:=1) lZ.nd rfl orl (iI fM))
   (fK (aaG (i:=2) (λpins E=>(fQ (Cg (i:=1) lZ.nd rfl rfl (cap:=[none]) (N':=["_law_entry_here"]) rfl (by walk_at "c") (lU (K:=K) (iC (Gq (K:=K) T) (q.mono (by decide)) (by rfl) T.tH.m T.tH.k (Gu T) .nil Km (pav 0 fM))) (λ_ _ _ _=>(gA (i:=0) nd1 rfl orl orr)) (λ_ _ _ _=>jD) (λ_ _ _ _=>(nJ (pv 0) (mc T.uK T.vN (Nz T) q (RN T) (mc T.uS T.vO (Mr T) q (NZ T) (mc T.u3 T.vP (MP T) q (PJ T) (mc T.vc T.vQ (Mg T) q (Oq T) (mc T.vi T.vR (Jc T) q (Mi T) (mc T.vp T.vS (Gb T) q (Hl T) .nil)))))) Jv))))) T.uG (by rfl) T.up rfl rfl lZ.nd rfl rfl (λea=>(fQ (gn (i:=1) lZ.nd rfl orl (Yj (K:=K) (pvD 2) rfl)))))
   (fQ (gj (pvD 1))))),?_⟩
  simp only[start_eq];walk_at "n";refine⟨zQ _,λp0 ag=>?_⟩;have n0:=fO (o:=.lst []) ag;generalize upd H p0 (.lst [])=H0 at n0⊢;walk_at "n";refine⟨z,ad,ac,rfl,hz,ae,hl,λr q=>adv (hR r q),λp es H1 s1 aj hp hk ht hu aa=>?_,λi es d H1 s1 ai hd ht hu hb=>?_⟩
  ·have ah:es.length<=300000:=by
    have:=zzr ht;rw[za]at this;lia
   refine⟨p,rfl,⟨_,fU hp⟩,Vz ⟨_,rfl⟩ hp (λr q=>(hk r q).isE) (by lia) λD ts H2 hD s2 h2 hK ab=>?_⟩;walk_at "a";exact k D ts H2 (n0.trans (s1.trans s2)) h2 hK (ab▸ht) (ab▸hu) aa
  ·refine⟨rfl,d,rfl,λea af=>?_⟩
   have n3:=fO (o:=Yn A.rM ea d) af;refine⟨_,_,_,.inr fL,T.uG,T.uH,T.uI,_,n3 _ _ hd,((i+1:Nat):Int),by rfl,?_⟩;walk_at "a";exact kE i es _ (n0.trans (s1.trans n3)) ht hu hb
def Tq{k:Nat}(z:0<k){i:Int}(q:0<=i)(h1:i<10^k):(jG i).length<=k:=by
 obtain⟨m,em⟩:=yk q;subst em
 have e:(jG ((m:Nat):Int)).length=(Nat.toDigits 10 m).length:=by
  show(jG ((m:Nat):Int)).cps.size=_;rw[<-zH];unfold jG;rw[zzf,za]
 rw[e];exact(zzl (by decide) z).mpr (by exact_mod_cast h1)
def i7{i:Int}(q:0<=i)(h1:i<=1000000):(jG i).length<=7:=Tq (by decide) q (by lia)
def i10{i:Int}(q:0<=i)(h1:i<=1000000000):(jG i).length<=10:=Tq (by decide) q (by lia)
def i19{i:Int}(q:0<=i)(h1:i<=1000000000000000000):(jG i).length<=19:=(ZR q h1).2
theorem Gh{n:Nat}:∀{L:List Str},(∀x∈L,x.length<=n)->meas L<=(n+1)*L.length
 |[],_=>zQ _
 |x::L,h=>by
  have h1:=h x zi;have h2:=Gh (L:=L) λy q=>h y (zr _ q);have e:=jt [x] L;rw[show x::L=[x]++L from rfl,e,zm,yb,Nat.mul_add];have z:meas [x]=x.length+1:=by show(x.length+0)+1=_;lia
  lia
def aay{e:Ent}(h:e.good):(∀v∈e.rest,(sV v).length<=19)/\e.rest.length<=3:=by
 have key:∀{l:List V},(∀v∈l,(sV v).length<=19)->∀{v:V},(sV v).length<=19->∀x∈v::l,(sV x).length<=19:=λhl _ hv x hx=>by
  rcases zh.mp hx with rfl|hx
  ·exact hv
  ·exact hl x hx
 have q:∀v∈([]:List V),(sV v).length<=19:=λv hv=>(zg hv).elim
 cases e with
 |buy d n w p r f=>
  obtain⟨_,⟨a1,a2⟩,⟨z,b2⟩,c1,c2⟩:=h;exact⟨key (key (key q (v:=V.int f) (i19 (i:=f) (by lia) (by lia))) (v:=V.int r) (i19 (i:=r) (by lia) (by lia))) (v:=V.int p) (i19 (i:=p) (by lia) (by lia)),by simp[Ent.rest]⟩
 |sell d n w p r f o=>
  obtain⟨_,⟨a1,a2⟩,⟨z,b2⟩,⟨c1,c2⟩,_⟩:=h;exact⟨key (key (key q (v:=V.int f) (i19 (i:=f) (by lia) (by lia))) (v:=V.int r) (i19 (i:=r) (by lia) (by lia))) (v:=V.int p) (i19 (i:=p) (by lia) (by lia)),by simp[Ent.rest]⟩
 |gift d n w p c s=>
  obtain⟨b,⟨a1,a2⟩,⟨z,b2⟩,c1,c2⟩:=h;have:=b.d1;exact⟨key (key (key q (v:=V.int s) (i19 (i:=s) (by lia) (by lia))) (v:=V.int c) (i19 (i:=c) (by lia) (by lia))) (v:=V.int p) (i19 (i:=p) (by lia) (by lia)),by simp[Ent.rest]⟩
 |give d n w p o=>
  obtain⟨_,⟨a1,a2⟩,_⟩:=h;exact⟨key q (v:=V.int p) (i19 (i:=p) (by lia) (by lia)),by simp[Ent.rest]⟩
 |split d n w m f=>
  obtain⟨_,⟨a1,a2⟩,z,b2⟩:=h;exact⟨key (key q (v:=V.int f) (i19 (i:=f) (by lia) (by lia))) (v:=V.int m) (i19 (i:=m) (by lia) (by lia)),by simp[Ent.rest]⟩
 |part d n w u s t=>
  obtain⟨_,hu,_,⟨a1,a2⟩,z,b2⟩:=h;exact⟨key (key (key q (v:=V.int t) (i19 (i:=t) (by lia) (by lia))) (v:=V.int s) (i19 (i:=s) (by lia) (by lia))) (show u.length<=19 from zF hu.2.1 (by decide)),by simp[Ent.rest]⟩
def Tv{e:Ent}(h:e.good5):(Bs e).length<=185:=by
 have b:=wC h.1;have d0:=b.d0;have d1:=b.d1;have n0:=b.n0;have n1:=b.n1
 obtain⟨r1,r2⟩:=aay h.1;have aa:wsE e≠[]:=by rw[YK];simp
 have e1:=Fb (sep:=Str.ofString " ") (by decide+kernel) aa;rw[show Str.join (Str.ofString " ") (wsE e)=Bs e from(StrLaws.glued_eq_join _ _).symm]at e1;rw[YK,jt,jt]at e1
 have m1:meas [jG e.day,jG e.num,e.word,e.ware]<=31:=by
  have h1:=i7 d0 d1;have h2:=i7 n0 n1;have h3:e.word.length<=5:=by cases e<;>(simp only[Ent.word];decide+kernel)
  have h4:=b.w.2.1;show((jG e.day).length+((jG e.num).length+(e.word.length+(e.ware.length+0))))+4<=31;lia
 have m2:meas (e.rest.map sV)<=60:=by
  have:=Gh (n:=19) (L:=e.rest.map sV) λx z=>by
   obtain⟨v,hv,rfl⟩:=zC.mp z;exact r1 v hv
  rw[za]at this;lia
 have m3:meas (nwO e.lots)<=95:=by
  obtain⟨p,hp,q⟩:=Qn h.1
  cases e0:e.lots with
  |none=>exact zQ _
  |some rs=>
   rw[e0]at q;have q:DQ rs p:=q;have h5:=h.2 rs e0
   have:=Gh (n:=18) (L:=rs.map WN) λx z=>by
    obtain⟨r,hr,rfl⟩:=zC.mp z;obtain⟨b0,b1,b2,b3⟩:=q.b r hr;have h1:=i7 b0 b1;have h2:=i10 (i:=r.2.2) (by lia) (by lia);have e:(Str.ofString ":").length=1:=by decide+kernel
    unfold WN;rw[str_len,str_len];lia
   rw[za]at this;show meas (rs.map WN)<=95;lia
 lia
structure PAo(X:Cx)(es:List Expr)(t:TA):Prop where
 h:PA X es t
def ZZ{X:Cx}:PAo X [] Ka:=⟨fM⟩
def jM{X:Cx}{e:Expr}{es:List Expr}{te:TE}{t:TA}(a:PEo X e te)(b:PAo X es t)(q:starEach (e::es) X.env=(false,eval e X.env)::starEach es X.env:=by rfl):PAo X (e::es) (jW te t):=⟨fG a.h b.h q⟩
def aaq{X:Cx}{es:List Expr}{t:TA}{pos:Pos}(h:PAo X es t):PEo X (.List es pos) (WM t):=⟨iI h.h⟩
noncomputable def nG(T:Txt w K mg A D)(q:Value)(A':Around)(outer:List Env)(z:Shared)(H:Hp)(E:XK)(hr:nY 1 (A'.deeper (envOfC "_law_pieces" (fP jE) z.heap.objs.size A.qj q))):
  {t:TS//PSo (pJ CX0 P w K mg base ["_law_cell", "_law_some"] "_law_pieces" (fP jE) A.qj q A' outer z H E).nox (iK jE) t}:=
 ⟨_,kJ (Wn (i:=1) xJ.nd rfl orr (aaq (jM ⟨fZ⟩ (jM ⟨fZ⟩ (jM ⟨fZ⟩ (jM ⟨fZ⟩ (jM ⟨fZ⟩ (jM ⟨fZ⟩ (jM ⟨fZ⟩ (jM ⟨fZ⟩ (jM ⟨fZ⟩ (jM ⟨fZ⟩ (jM ⟨fZ⟩ (jM ⟨fZ⟩ ZZ)))))))))))))) ⟨(fQ (gj (jV (K:=K) zT yM yN Fo fZ (fG (jA (cap:=[none,some 1]) (N':=["_law_k", "_law_some"]) rfl (by walk_at "c") (lU (K:=K) (pcg (jK T) hr T.r9 (kW T) (pav 0 (fG (fW Qe (iI (fG fH fM)) fH) fM)))) (λ_ _ _ _=>(gA (i:=0) (show(["_law_k", "_law_some"]:List Str).Nodup from by decide+kernel) rfl orl orr)) (λ_ _ _ _=>jD) (λ_ _ _ _=>(gF (fV (K:=K)) (pvD 1) (pvD 0) (λ_ _=>rfl)))) fM))))⟩⟩
set_option maxHeartbeats 400000
theorem FQ{n:Nat}:∀{acc:List V},(∀(i:Nat) v,acc[i]? =some v->∃y:Str,v=.str y/\y.length<=n)->∃ys:List Str,acc=ys.map V.str/\∀y∈ys,y.length<=n
 |[],_=>⟨[],rfl,λy h=>(zg h).elim⟩
 |v::acc,h=>by
  obtain⟨y,rfl,hy⟩:=h 0 v rfl;obtain⟨ys,e,z⟩:=FQ (acc:=acc) λi v hv=>h (i+1) v hv;refine⟨y::ys,by rw[e];rfl,λx q=>?_⟩;rcases zh.mp q with rfl|q
  ·exact hy
  ·exact z x q
noncomputable def pcs:List V:=[V.str (Str.ofString "1 "),V.str (Str.ofString "2 "),V.str (Str.ofString "buy "),V.str (Str.ofString "cup "),V.str (Str.ofString "3 "),V.str (Str.ofString "0 "),V.str (Str.ofString "\n"),V.str (Str.ofString "give "),V.str (Str.ofString "4:1"),V.str (Str.ofString "sell "),V.str (Str.ofString "1 2 split cup 2 1\n"),V.str (Str.ofString "part pot ")]
def abl:∀v∈pcs,∃y:Str,v=.str y/\y.length<=18:=λv q=>by
 simp only[pcs,zh,zg,or_false]at q;rcases q with rfl|rfl|rfl|rfl|rfl|rfl|rfl|rfl|rfl|rfl|rfl|rfl<;>exact⟨_,rfl,by decide+kernel⟩
theorem Zb:∀(k:Nat)(c:Int),∀d∈Kc c (List.replicate k 12),0<=d/\d<12
 |0,c,d,h=>by cases h
 |k+1,c,d,h=>by
  rcases zh.mp h with rfl|h
  ·lia
  ·exact Zb k _ d h
noncomputable def GJ:Sp:=λvs H Q _=>∃c:Int,vs=[.int c]/\∀z H',Same H H'->z.length<=300->Q (.str z) H'
def Hf(T:Txt w K mg A D):ji P w K mg base CX0 2 A.qj D.qj ["_law_cell"] GJ:=by
 refine T.se.F.ok xJ (by walk_at "v") (λz A' outer s0 H vs Q E hr h=>?_)
 ·obtain⟨c,rfl,k⟩:=h
  obtain⟨tt,aa⟩:∃tt,tt=nG (base:=base) T z A' outer s0 H E hr:=⟨_,rfl⟩;rcases tt with⟨t1,⟨R⟩⟩;refine⟨t1,?_,?_⟩
  ·assumption
  rw[show t1=(nG (base:=base) T z A' outer s0 H E hr).1 from congrArg Subtype.val aa];unfold nG;clear aa R;simp only[start_eq];walk_at "n";refine⟨by rw[zc];decide,λps ae=>?_⟩;generalize hG:upd H ps _=H1;have hq:H1 ps=some (.lst pcs):=by rw[<-hG];exact fL
  have n1:Same H H1:=by rw[<-hG];exact fO ae
  clear hG;walk_at "a";refine⟨rfl,sz,λp1 ad=>?_⟩;have n2:=fO (o:=.lst [V.int 12]) ad;have e2:upd H1 p1 (.lst [V.int 12]) p1=some (.lst [V.int 12]):=fL;rw[JR];refine⟨_,e2,by decide,by decide,by rw[zc];decide,λp2 ac=>?_⟩;have n3:=fO (o:=.lst (List.replicate (16:Int).toNat [V.int 12]).flatten) ac;refine⟨c,p2,List.replicate 16 12,rfl,fU (by rw[fL];rfl),λb hb=>by rw[List.eq_of_mem_replicate hb];unfold Jh;decide,by decide,λp3 H3 s3 ah h3=>?_⟩;have hd:=Zb 16 c;have ab:(Kc c (List.replicate 16 12)).length=16:=by rw[pI,zze]
  generalize Kc c (List.replicate 16 12)=ds at hd ab h3;have S3:=n2.trans (n3.trans s3);have q3:=S3 _ _ hq;refine⟨p3,rfl,⟨_,fU h3⟩,?_⟩;refine jC.listE (K:=K) (λσ=>∃a,σ=[a,some (.ref ps)]) (λi v H'=>∃y:Str,v=.str y/\y.length<=18) (fU h3) ⟨_,rfl⟩ (by rw[za,zc];lia) ?_ ?_
  ·rintro Da i x hx σ H5 R ⟨_,rfl⟩ sm hD ⟨acc,hA⟩ kk
   obtain⟨d,af,rfl⟩:=BK hx;obtain⟨d0,d1⟩:=hd d (zb af);obtain⟨dn,rfl⟩:=yk d0;obtain⟨v,hv⟩:∃v,pcs[dn]? =some v:=⟨_,zD (show dn<12 by lia)⟩;obtain⟨y,rfl,hy⟩:=abl v (zb hv);walk_at "i";exact⟨_,fU (sm _ _ q3),_,gR hv,kk _ _ H5 ⟨_,rfl⟩ (same_refl _) λH' _=>⟨y,rfl,hy⟩⟩
  ·intro Da H' acc hD sm hA q hF
   obtain⟨ys,rfl,ag⟩:=FQ hF;have e0:(Str.ofString "").length=0:=by decide+kernel
   rw[za,za,ab]at q
   have hs:(ys.map (·.length)).sum<=288:=by
    have:=Gh ag;unfold meas at this;omega
   refine⟨_,Da,ys,rfl,rfl,hA,by rw[e0];omega,k _ H' (n1.trans (S3.trans sm)) ?_⟩;have h1:=StrLaws.join_length_le (Str.ofString "") ys;rw[show Txt.join (Str.ofString "") ys=Str.join (Str.ofString "") ys from StrLaws.glued_eq_join _ _];rw[e0]at h1;omega
noncomputable def Wk(K:Fg_):Sp:=λvs H Q _=>∃(a:Addr)(ns:List Int),vs=[.ref a]/\SqL K H a (ns.map V.int)/\ns.length<=63/\∀p (cs:List Int) H',Same H H'->H p=none->H' p=some (.lst (cs.map V.int))->cs.length<=63->Q (.ref p) H'
def Ky(T:Txt w K mg A D):ji P w K mg base CX0 2 A.qq D.qq ["_law_script"] (Wk K):=by
 refine T.sq.F.okv mR λ_ _ _ _ H vs Q E hr h=>?_
 ·obtain⟨a,ns,rfl,hS,hl,k⟩:=h
  refine ⟨_,(fK (iB (PW.pt (Be (fY (xu) (gw (gW (K:=K)) (by rfl) T.tS (by decide+kernel) (pav 0 fM)) fH (gk _)) (wU (fY (jT) (fW gY (gF (fV (K:=K)) (pvD 0) fH (λ_ _=>rfl)) fH) fH (gk _))))) (fK (gn (i:=1) mR.nd rfl orl (gw (LQ rfl) (by rfl) T.tW (by decide+kernel) (fG (gw (Fi rfl) (by rfl) T.tU (by decide+kernel) (fG (gw (gW (K:=K)) (by rfl) T.tS (by decide+kernel) (pav 0 fM)) (fG fH fM))) (fG (fW iz fH (fW gY (fW je (gF (fV (K:=K)) (pvD 0) fH (λ_ _=>rfl)) fH) fH)) fM))))
    (fQ (gj (jA (cap:=[none,some 0]) (N':=["_law_k", "_law_script"]) rfl (by walk_at "c") (wY (by rfl) T.tX (pav 1 fM)) (λ_ _ _ _=>(gA (i:=0) (show(["_law_k", "_law_script"]:List Str).Nodup from by decide+kernel) rfl orl orr)) (λ_ _ _ _=>jD) (λ_ _ _ _=>(pcg (BV T) hr T.sk (Dh T) (fG (gF (fV (K:=K)) (pvD 1) (fW gY (pvD 0) (gw (gW (K:=K)) (by rfl) T.tS (by decide+kernel) (pav 1 fM))) (λ_ _=>rfl)) (pav 0 fM)))))))) gm)
   (fQ (gj (jA (cap:=[none]) (N':=["_law_cell"]) rfl (by walk_at "c") (lU (K:=K) (gQ (iG (K:=K)) (pvD 0) iJ (gZ fH))) (λ_ _ _ _=>(gA (i:=0) nd1 rfl orl orr)) (λ_ _ _ _=>jD) (λ_ _ _ _=>(fW gY (pvD 0) (fW jg fH fH))))))),?_⟩
  walk_at "a";refine⟨_,.inl hS,?_⟩;rw[za]
  have q:∃ys,SqL K H a ys/\∀p,H p=none->(∃xs,SqL K (upd H p (.lst (CK ys none (some 63)))) p xs)/\jC [none] (Itl K p) (Fy 0) Eb (tOp (rI (λx j=>0<j) λi j=>V.int (i%j)) (tV 0) (tOp (rI abp λi j=>V.int (i^j.toNat)) (tC (V.int 10)) (tC (V.int 60)))) [some (V.ref a),none] (upd H p (.lst (CK ys none (some 63)))) Q:=by
   refine⟨_,hS,λp hp=>⟨⟨_,fU fL⟩,?_⟩⟩;refine jC.list (xs:=(ns.take 63).map V.int) (λσ=>∃v,σ=[v]) (λ_=>true) (λv=>match v with|.int k=> .int (k%10^60)|_=> .non) (fU ?_) ⟨none,rfl⟩ ?_ ?_ ?_
   ·rw[fL,show(63:Int)=((63:Nat):Int)from rfl,kY,z8]
   ·rw[za,zx,zc];omega
   ·rintro x hx σ H5 R1 R2 ⟨v,rfl⟩ z k1 k2
    obtain⟨c,_,rfl⟩:=zC.mp hx;walk_at "a";refine⟨⟨by decide,by decide,by decide⟩,by decide,k1 rfl _ _ ⟨_,rfl⟩ (same_refl _)⟩
   ·intro Da H' hD z e
    rw[lu,zP]at e;exact k Da ((ns.take 63).map λk=>k%10^60) H' ((fO hp).trans z) ((fO hp).free hD) (by rw[e,zP];rfl) (by rw[za,zx];omega)
  by_cases h0:0<ns.length
  ·rw[zp (by omega)]
   have hh:(ns.map V.int)[0]? =some (.int (ns.headD 0)):=by
    cases ns with
    |nil=>simp at h0
    |cons c r=>rfl
   have ab:atI (ns.map V.int) 0=some (.int (ns.headD 0)):=gR (j:=0) hh;refine⟨_,hS,_,ab,_,rfl,by decide,?_⟩;by_cases h1:ns.headD 0%2=1
   ·rw[zp h1]
    refine⟨_,.inl hS,_,hS,_,ab,_,rfl,⟨by decide,by decide⟩,by decide,?_⟩;rw[za];generalize hm:(if 3+ns.headD 0/2%61>if 63<(ns.length:Int)then 63 else(ns.length:Int)then 3+ns.headD 0/2%61 else if 63<(ns.length:Int)then 63 else(ns.length:Int))=m;have hm:0<=m/\m<=63:=by rw[<-hm];split<;>split<;>omega
    refine⟨by omega,by omega,?_⟩;refine ach (λσ=>∃v,σ=[v,some (.ref a)]) (λi v _=>∃r,v=.int r) ⟨_,rfl⟩ (by rw[zc];omega) ?_ ?_
    ·rintro Da i hi σ H5 R ⟨v,rfl⟩ z hD _ kk
     walk_at "a";have h5:=z.seq hS;refine⟨_,.inl h5,by rw[za];omega,_,h5,?_⟩;rw[za];have e0:=zI (0+(i:Int)) (show(ns.length:Int)≠0 by omega);have e1:=zA (0+(i:Int)) (show(0:Int)<ns.length by omega);obtain⟨j,hj⟩:∃j:Nat,(0+(i:Int))%(ns.length:Int)=j:=⟨_,(Int.toNat_of_nonneg e0).symm⟩;rw[hj]at e1⊢;have ac:j<ns.length:=by omega
     exact⟨.int ns[j],gR (by rw[zE,zD ac];rfl),_,_,rfl,by omega,by omega,λr=>kk _ _ H5 ⟨_,rfl⟩ (same_refl _) λ_ _=>⟨r,rfl⟩⟩
    ·intro Da H' acc hD z hA aa hF
     obtain⟨xs,hx⟩:=ints_of hF;subst hx;rw[za]at aa;exact k Da xs H' z hD hA (by omega)
   ·rw[zk h1]
    exact q
  ·rw[zk (by omega)]
   exact q
noncomputable def Qo(K:Fg_):Sp:=λvs H Q _=>∃(a:Addr)(ns:List Int),vs=[.ref a]/\SqL K H a (ns.map V.int)/\ns.length<=63/\∀H',Q (.bl true) H'
def XR{H:Hp}{Q:VK}{p q:Addr}{tl z:EL}(h1:H p=some (.lst (jX tl)))(h2:H q=some (.lst (jX z)))(ht:∀r∈tl,xW H r.1 r.2)(hz:∀r∈z,xW H r.1 r.2)(he:(tl.map (·.2)).map Ent.dvT=(z.map (·.2)).map Ent.dvT)(k:Q (.bl false) H):acQ K (.ref p) (.ref q) H Q:=by
 obtain⟨d,r1,r2,d1,d2⟩:=Wo (K:=K) h1 h2 ht hz he;exact⟨d,d,r1,r2,d1,d2,by rw[Es];exact k⟩
structure adL(z:Str):Prop where
 ex:∃rows last,z.length<=1000000/\Txt.split z (Str.ofString "\n")=rows++[last]/\rows.length<=300000/\∀r∈rows,r.length<=11950
def aaR{z:Str}{R:Nat}(hz:z.length<=200000)(h:vY R z)(hR:R<=11950):adL z:=by
 obtain⟨ps,h1,_,_,h4⟩:=El z;have q:ps.map mkS≠[]:=by simpa using h1
 have hm:=CN z;refine⟨(ps.map mkS).dropLast,(ps.map mkS).getLast q,by omega,by rw[h4];exact(zzS q).symm,?_,λr hr=>zF (h r (by rw[h4];exact List.dropLast_subset _ hr)) hR⟩;rw[h4]at hm;unfold meas at hm;rw[List.length_dropLast];omega
def Qd{z:Str}(ok:adL z){H:Hp}{E:XK}{R:V->V->Hp->Prop}(h1:∀p q (tl zl:EL) H',Same H H'->H' p=some (.lst (jX tl))->H' q=some (.lst (jX zl))->(∀r∈tl,xW H' r.1 r.2)->(∀r∈zl,xW H' r.1 r.2)->(tl.map (·.2)).map Ent.dvT=(zl.map (·.2)).map Ent.dvT->R (.ref p) (.ref q) H')(h2:∀(i:Int) H',Same H H'->R (.int i) (.int i) H'):YJ [.str z] H (λx H1=>Ep K [.str z] H1 (λy H2=>R x y H2) E0) E:=by
 obtain⟨aa,ab,a,b,c,d⟩:=ok.ex;refine⟨z,aa,ab,rfl,a,b,c,d,λp tl H1 s1 hp hk ht hu hl=>?_,λi es H1 s1 ht hu hb=>?_⟩
 ·exact⟨z,aa,ab,rfl,a,b,by omega,d,λq zl H2 s2 hq af ad ag ah=>h1 p q tl zl H2 (s1.trans s2) (s2 _ _ hp) hq (λr hr=>(hk r hr).same s2) af (PN ad ht),λi es H2 s2 ae ai ac=>(Qs ht hu hl ae ac).elim⟩
 ·refine⟨z,aa,ab,rfl,a,b,by omega,d,λq zl H2 s2 hq af ad ag ah=>(Qs ad ag ah ht hb).elim,λi2 aj H2 s2 ae ai ac=>?_⟩
  have e:=Yp ht hu hb ae ai ac;subst e;exact h2 _ H2 (s1.trans s2)
def acC(T:Txt w K mg A D):ji P w K mg base CX0 11 A.law D.law ["_law_script"] (Qo K):=by
 refine T.tP.F.okv Mt λ_ _ _ _ H vs Q E hr h=>?_
 ·obtain⟨a,ns,rfl,hS,hl,k⟩:=h
  refine ⟨_,(fK (gn (i:=1) Mt.nd rfl orl (pcg (MF T) hr T.r6 (Ob T) (fG (pcg (Oa T) hr T.ss (RK T) (pav 0 (fG fH fM))) fM)))
   (fK (wj yw rfl (wY (by rfl) T.tX (fG fH fM)) (gA (i:=2) Mt.nd rfl orl)
    (fK (iB (fY (Te (Ue (K:=K) hr) Hh) (pcg (wQ T) hr T.tI (Al T) (pav 1 fM)) (pcg (Ai T) hr T.tO (CP T) (pav 1 fM)) (gk _)) (fQ (gj Gz)) gm)
    (fQ (gn (i:=1) Mt.nd rfl orl (pcg (GF T) hr T.su (JB T) (pav 1 (fG (fW je (gF (fV (K:=K)) (fW vW (fW Qe (pc (Ky T) hr T.sq.m T.sq.k (wN T) (pav 0 fM)) fH) (fW Qe (iI (fG fH fM)) fH)) (pvD 2) (λ_ _=>rfl)) fH) fM)))))))
   (fK (gn (i:=3) Mt.nd rfl orl (pcg (Hf T) hr T.se (Jk T) (fG (gF (fV (K:=K)) (fW vW (pc (Ky T) hr T.sq.m T.sq.k (wN T) (pav 0 fM)) (iI (fG fH fM))) fH (λ_ _=>rfl)) fM)))
   (fQ (gj (TF (Ca (Te (Ju (K:=K) hr) jT) (pcg (wQ T) hr T.tI (Al T) (pav 1 fM)) (pcg (Ai T) hr T.tO (CP T) (pav 1 fM)) (gk _)) (Vm (Ca (Te (Ju (K:=K) hr) jT) (pcg (wQ T) hr T.tI (Al T) (pav 3 fM)) (pcg (Ai T) hr T.tO (CP T) (pav 3 fM)) (gk _))))))))),?_⟩
  simp only[start_eq];walk_at "n";refine⟨a,ns,30,rfl,hS,hl,by decide,λp tl H1 s1 au hp hT aq _ _=>⟨p,tl,rfl,hp,hT,by omega,λH2 s2=>?_⟩⟩;have S2:=s1.trans s2;obtain⟨es,ac⟩:∃es,es=tl.map (·.2):=⟨_,rfl⟩;rw[<-ac]
  have hg:∀e∈es,e.good5:=λe he=>by
   rw[ac]at he;obtain⟨r,hr,rfl⟩:=zC.mp he;exact(hT r hr).2
  have ar:es.length<=30:=by rw[ac,za];exact aq
  have ag:=Rb (os:=es) λe he=>(hg e he).1
  have ae:vY 185 (wg es):=λr hr=>by
   rw[ag]at hr;rcases zG.mp hr with hr|hr
   ·obtain⟨e,he,rfl⟩:=zC.mp hr
    exact Tv (hg e he)
   ·rw[zJ.mp hr]
    decide+kernel
  have ao:(wg es).length<=5580:=by
   have hm:=CN (wg es);rw[ag,jt]at hm
   have h1:=Gh (n:=185) (L:=es.map Bs) λx hx=>by
    obtain⟨e,he,rfl⟩:=zC.mp hx;exact Tv (hg e he)
   have h2:meas [Str.ofString ""]=1:=by decide+kernel
   rw[za]at h1;omega
  generalize wg es=t0 at ae ao⊢
  (try dsimp only)
  refine jY λu hu=>?_;rw[ap_seq];refine Eg λtb ai=>?_;rw[ap_for];walk_at "i";refine⟨by decide,by decide,?_⟩;refine Dr.rangeN (lo:=0) (n:=6) (λi σ Hx=>∃(t:Str)(v2:Option V),σ=[some (.ref a),some (.str t),v2,none]/\Same H2 Hx/\vY (186*2^i - 1) t/\t.length<=5580+186*2^i+i) ⟨t0,_,rfl,same_refl _,ae,by omega⟩ ?_ ?_
  ·rintro i σ Hx hi ⟨t,v2,rfl,sx,ab,am⟩ N hN
   subst ai;rw[Int.zero_add,ap_name];have aa:2^i<=32:=Nat.pow_le_pow_right (by decide) (show i<=5 by omega);have ok:=aaR (by omega) ab (by omega)
   try dsimp only
   refine vU (λσ' H'=>σ'=[some (.ref a),some (.str t),some (.int i),none]/\Same Hx H') ?_ ?_
   rotate_left
   ·intro N' af
    walk_at "i";refine Qd ok (λp q tl zl H' s' a1 a2 a3 a4 a5=> .inl (XR a1 a2 a3 a4 a5 ⟨_,rfl,?_⟩)) (λj H' s'=> .inr ?_)
    ·rw[zk (λz=>nomatch z)]
     exact af _ _ ⟨rfl,s'⟩
    ·refine⟨rfl,?_⟩
     rw[zk (λz=>z rfl)];exact af _ _ ⟨rfl,s'⟩
   rintro σ' H3 ⟨rfl,s3⟩;walk_at "i";have S3:=S2.trans (sx.trans s3);refine⟨a,ns,rfl,S3.seq hS,hl,λp1 cs H4 s4 aj h4 ak=>?_⟩
   try dsimp only
   rw[JR];refine⟨_,h4,by decide,by decide,by rw[za,zc,show(2:Int).toNat=2 from rfl];omega,λp2 aa=>?_⟩;have n5:=fO (o:=.lst (List.replicate (2:Int).toNat (cs.map V.int)).flatten) aa
   have e5:upd H4 p2 (.lst (List.replicate (2:Int).toNat (cs.map V.int)).flatten) p2=some (.lst ((cs++cs).map V.int)):=by
    rw[fL,zo];simp[List.replicate]
   generalize upd H4 p2 _=H5 at n5 e5⊢;refine⟨sz,λp3 ad=>?_⟩;have n6:=fO (o:=.lst [V.int 5]) ad;rw[JR];refine⟨_,fL,by decide,by decide,by rw[zc];decide,λp4 an=>?_⟩;have n7:=fO (o:=.lst (List.replicate (6:Int).toNat [V.int 5]).flatten) an;refine⟨p2,p4,_,_,rfl,rfl,n7 _ _ (n6 _ _ e5),fL,?_,λp5 al=>?_⟩
   ·rw[za,zm,zc,show(List.replicate (6:Int).toNat [V.int 5]).flatten.length=6 from rfl]
    omega
   have n8:=fO (o:=.lst ((cs++cs).map V.int++(List.replicate (6:Int).toNat [V.int 5]).flatten)) al;rw[show(cs++cs).map V.int++(List.replicate (6:Int).toNat [V.int 5]).flatten=(cs++cs++[5,5,5,5,5,5]).map V.int by rw[zo (l₁:=cs++cs)];rfl]at n8⊢;obtain⟨c,hc⟩:∃c,(cs++cs++[5,5,5,5,5,5])[i]? =some c:=⟨_,zD (by rw[zm];simp only[zy,yf];omega)⟩;refine⟨p5,rfl,_,fU fL,.int c,gR (by rw[zE,hc];rfl),c,rfl,by unfold Jh;decide,?_⟩;refine⟨t,c/3,186*2^i - 1,rfl,by omega,by omega,ab,λt' H' s' as ap=>hN _ _ ⟨t',_,rfl,sx.trans (s3.trans (s4.trans (n5.trans (n6.trans (n7.trans (n8.trans s')))))),?_,?_⟩⟩
   ·have e:186*2^(i+1) - 1=2*(186*2^i - 1)+1:=by rw[Nat.pow_succ];have:=yK (show 2^i≠0 by simp);omega
    rw[e];exact ap
   ·rw[Nat.pow_succ]
    have:=yK (show 2^i≠0 by simp);omega
  ·rintro σ Hx ⟨t,v2,rfl,sx,ab,am⟩
   subst hu;have ok:=aaR (by omega) ab (by decide);walk_at "n";refine⟨a,ns,rfl,(S2.trans sx).seq hS,hl,λp1 cs H4 s4 aj h4 ak=>⟨sz,λp2 aa=>?_⟩⟩;have n5:=fO (o:=.lst [V.int 7]) aa;refine⟨p1,p2,_,_,rfl,rfl,n5 _ _ h4,fL,by rw[za,zc,yb];omega,λp3 ad=>?_⟩;have n6:=fO (o:=.lst (cs.map V.int++[V.int 7])) ad;rw[show cs.map V.int++[V.int 7]=(cs++[7]).map V.int by rw[zo];rfl]at n6⊢;obtain⟨c,hc⟩:∃c,(cs++[7])[0]? =some c:=⟨_,zD (by rw[zm];simp)⟩;refine⟨p3,rfl,_,fU fL,.int c,gR (j:=0) (by rw[zE,hc];rfl),c,rfl,λz H6 s6 hz=>?_⟩;have ah:adL z:=aaR (R:=300) (by omega) (Bk (BL.mono (by rw[zH];exact hz))) (by decide);walk_at "a";refine Qd ok (λp q tl zl H' s' a1 a2 a3 a4 a5=> .inl (Iz a1 a2 a3 a4 a5 ⟨_,rfl,?_⟩)) (λj H' s'=> .inr ⟨rfl,?_⟩)
   ·rw[zp rfl]
    exact Qd ah (λp q tl zl H' s' a1 a2 a3 a4 a5=> .inl (Iz a1 a2 a3 a4 a5 (k _))) (λj H' s'=> .inr ⟨rfl,by rw[zS rfl];exact k _⟩)
   ·rw[zp rfl]
    exact Qd ah (λp q tl zl H' s' a1 a2 a3 a4 a5=> .inl (Iz a1 a2 a3 a4 a5 (k _))) (λj H' s'=> .inr ⟨rfl,by rw[zS rfl];exact k _⟩)
end
end My
namespace My
open PySem L2 PyProof.Rows
open PySem.W (codeIn findCls findIn fnOf hasDictIn isFn keepIn makesIn mg_none_of mg_of nsIn plainGet plainOver readsIn specialIn)
abbrev Dm_(K:Fg_)(c:Addr)(x q:Str)(st:Stmt)(f:Addr)(oc:Value)(od:Option Addr)(kV dc pm:Value)(an:Option Addr)(cd ct:Value)(sl:Array (Option Value)):Prop:=findIn K (.ref c) x=some (some (.ref f))/\K.lookup f=some ⟨oc,od,.func (fnOf x q (jR st) (iK st) (fP st) .none kV dc pm an cd ct),sl⟩/\codeIn K cd q=true/\keepIn K (.ref f)=true
abbrev Df_(K:Fg_)(x:Str)(st:Stmt)(f:Addr)(oc:Value)(od:Option Addr)(kV dc pm:Value)(an:Option Addr)(cd ct:Value)(sl:Array (Option Value)):Prop:=nsIn K mainGlobals x=some (some (.ref f))/\K.lookup f=some ⟨oc,od,.func (fnOf x x (jR st) (iK st) (fP st) .none kV dc pm an cd ct),sl⟩/\codeIn K cd x=true/\keepIn K (.ref f)=true
inductive Ef_(K:Fg_)(x:Str)(st:Stmt)(f:Addr)(fd:FuncData):Prop
  |mk {oc:Value} {od:Option Addr} {kV dc pm:Value} {an:Option Addr} {cd ct:Value} {sl:Array (Option Value)} (e:fd=fnOf x x (jR st) (iK st) (fP st) .none kV dc pm an cd ct) (h:Df_ K x st f oc od kV dc pm an cd ct sl):Ef_ K x st f fd
inductive Em_(K:Fg_)(c:Addr)(x q:Str)(st:Stmt)(f:Addr)(fd:FuncData):Prop
  |mk {oc:Value} {od:Option Addr} {kV dc pm:Value} {an:Option Addr} {cd ct:Value} {sl:Array (Option Value)} (e:fd=fnOf x q (jR st) (iK st) (fP st) .none kV dc pm an cd ct) (h:Dm_ K c x q st f oc od kV dc pm an cd ct sl):Em_ K c x q st f fd
def Ef_.n{K:Fg_}{x:Str}{st:Stmt}{f:Addr}{fd:FuncData}(a:Ef_ K x st f fd):nsIn K mainGlobals x=some (some (.ref f)):=by cases a with|mk e h=>exact h.1
def Ef_.k{K:Fg_}{x:Str}{st:Stmt}{f:Addr}{fd:FuncData}(a:Ef_ K x st f fd):keepIn K (.ref f)=true:=by cases a with|mk e h=>exact h.2.2.2
def Ef_.F{K:Fg_}{x:Str}{st:Stmt}{f:Addr}{fd:FuncData}(a:Ef_ K x st f fd):Fun K x x st f fd:=by cases a with|mk e h=>exact e▸Wd h.2.1 h.2.2.1 h.2.2.2
def Ef_.g{K:Fg_}{x:Str}{st:Stmt}{f:Addr}{fd:FuncData}{h:Heap}{mg:Str->Option Value}(a:Ef_ K x st f fd)(X:K.In h)(G:h.Ns mainGlobals mg):FG K mg x st f fd:=⟨mg_of X G a.n,a.k,a.F⟩
def Em_.n{K:Fg_}{c:Addr}{x q:Str}{st:Stmt}{f:Addr}{fd:FuncData}(a:Em_ K c x q st f fd):findIn K (.ref c) x=some (some (.ref f)):=by cases a with|mk e h=>exact h.1
def Em_.k{K:Fg_}{c:Addr}{x q:Str}{st:Stmt}{f:Addr}{fd:FuncData}(a:Em_ K c x q st f fd):keepIn K (.ref f)=true:=by cases a with|mk e h=>exact h.2.2.2
def Em_.F{K:Fg_}{c:Addr}{x q:Str}{st:Stmt}{f:Addr}{fd:FuncData}(a:Em_ K c x q st f fd):Fun K x q st f fd:=by cases a with|mk e h=>exact e▸Wd h.2.1 h.2.2.1 h.2.2.2
def all_mk{l:PySem.W.OpenLaw}{w:World}{K:Fg_}{h:Heap}{mg:Str->Option Value}{fa:Addr}(X:K.In h)(G:h.Ns mainGlobals mg)(hz:mg "law" =some (.ref fa))
  {f0 f1 f2 f3 f4 f5 f6 f7 f8 f9 fi ch b2 fp br ct b0 da bs b4 bd bn ck ca e2 g4 dr ge ei bl bk hb ew fx b1 bf dl ep gt g5 e4 ec cp ga ey gh eb g1 gy d0 dp gu it:Addr}
  {iF iN:Option Addr}
  {mn:Array (Option Value)}
  {jc kn gv lT gB mh:Value}
  {z q c2 c3 c4 c5 c6 c7 c8 c9:Addr}
  {ce dC cB cO cA cF du bt cI b9:Tok}
  (eG:nsIn K mainGlobals "Buy" =some (some (.ref z)))
  (d6:nsIn K mainGlobals "Sell" =some (some (.ref q)))
  (d9:nsIn K mainGlobals "Gift" =some (some (.ref c2)))
  (d8:nsIn K mainGlobals "Give" =some (some (.ref c3)))
  (dG:nsIn K mainGlobals "Split" =some (some (.ref c4)))
  (cE:nsIn K mainGlobals "Parting" =some (some (.ref c5)))
  (cP:nsIn K mainGlobals "NoEntry" =some (some (.ref c6)))
  (dX:nsIn K mainGlobals "Entry" =some (some (.ref c7)))
  (cj:nsIn K mainGlobals "LotError" =some (some (.ref c8)))
  (di:nsIn K mainGlobals "NoText" =some (some (.ref c9)))
  {he hj ii h6 hk ij hg hd iq ip g7 gx dk d2 ef fo ek fl g6 e0 eu dd dn e1 e5 gd fy ha em dc eq d3 e3 dt gg ft g2 g0 d1 ff ez ej go e7 er g9 ev g8 gr eh gp gc:FuncData}
  (a0:Ef_ K "_law_text" xU f0 he)
  (a1:Ef_ K "_law_digits" qe f1 hj)
  (a2:Ef_ K "_law_pieces" jE f2 ii)
  (a3:Ef_ K "_law_cell_at" oK f3 h6)
  (a4:Ef_ K "_law_wares" wD f4 hk)
  (a5:Ef_ K "_law_entry" wK f5 ij)
  (a6:Ef_ K "_law_mixed" wZ f6 hg)
  (a7:Ef_ K "_law_cells" wH f7 hd)
  (a8:Ef_ K "_law_with_named" lN f8 iq)
  (a9:Ef_ K "_law_any" nj f9 ip)
  (a10:Ef_ K "_law_spoilt" pH fi g7)
  (a11:Em_ K z "word" "Buy.word" CG ch gx)
  (a12:Em_ K z "told" "Buy.told" Cm b2 dk)
  (a13:Ef_ K "named_told" wL fp d2)
  (a14:Em_ K q "word" "Sell.word" xY br ef)
  (b5:Em_ K q "told" "Sell.told" Ak ct fo)
  (bm:Em_ K c2 "word" "Gift.word" Aa b0 ek)
  (b3:Em_ K c2 "told" "Gift.told" Ad da fl)
  (cs:Em_ K c3 "word" "Give.word" Ae bs g6)
  (co:Em_ K c3 "told" "Give.told" Ac b4 e0)
  (cl:Em_ K c4 "word" "Split.word" wF bd eu)
  (cc:Em_ K c4 "told" "Split.told" wA bn dd)
  (bp:Em_ K c5 "word" "Parting.word" oN ck dn)
  (cb:Em_ K c5 "told" "Parting.told" oH ca e1)
  (hp:Ef_ K "kind_of_words" nU e2 e5)
  (ia:Ef_ K "is_whole_number" lJ g4 gd)
  (hm:Ef_ K "check_number" oW dr fy)
  (io:Ef_ K "is_name" Ga ge ha)
  (ix:Ef_ K "check_name" wX ei em)
  (hv:Em_ K c7 "__init__" "Entry.__init__" mG bl dc)
  (g3:Em_ K c5 "__init__" "Parting.__init__" kI bk eq)
  (hf:Ef_ K "check_trade" pX hb d3)
  {an:Addr} {k9 qb:Option Addr} {lq:Array (Option Value)} {lF lP gl px fh mW:Value}
  (h8:findIn K (.ref z) "__init__" =some (some (.ref an)))
  {fj:Addr} {fD:Option Addr} {fA:Value} {fE:Array (Option Value)} {iS:Nat} {eW:Tok}
  (hs:K.lookup an=some ⟨lF,k9,.func (fnOf "__init__" "Buy.__init__" (jR jq) (iK jq) (fP jq) (.ref fj) lP gl px qb fh mW),lq⟩)
  (im:codeIn K fh "Buy.__init__" =true)
  (hw:keepIn K (.ref an)=true)
  (eZ:K.lookup fj=some ⟨fA,fD,.seq #[.int 0 eW] iS,fE⟩)
  (ih:Ef_ K "check_named" qd ew e3)
  (ik:Ef_ K "named_copy" wJ fx dt)
  {al:Addr} {lE jl:Option Addr} {fJ:Array (Option Value)} {jy iP pN il fe qg:Value}
  (ic:findIn K (.ref q) "__init__" =some (some (.ref al)))
  {fg:Addr} {fq:Option Addr} {fB:Value} {fz:Array (Option Value)} {l8:Nat} {eS:Tok}
  (h7:K.lookup al=some ⟨jy,lE,.func (fnOf "__init__" "Sell.__init__" (jR jj) (iK jj) (fP jj) (.ref fg) iP pN il jl fe qg),fJ⟩)
  (hu:codeIn K fe "Sell.__init__" =true)
  (hq:keepIn K (.ref al)=true)
  (fc:K.lookup fg=some ⟨fB,fq,.seq #[.int 0 eS,.none] l8,fz⟩)
  (fr:Em_ K c2 "__init__" "Gift.__init__" nW b1 gg)
  {as:Addr} {nQ iX:Option Addr} {gJ:Array (Option Value)} {nF mF pK iT fm gz:Value}
  (hy:findIn K (.ref c3) "__init__" =some (some (.ref as)))
  {fk:Addr} {fu:Option Addr} {fC:Value} {fw:Array (Option Value)} {pW:Nat}
  (hx:K.lookup as=some ⟨nF,nQ,.func (fnOf "__init__" "Give.__init__" (jR jk) (iK jk) (fP jk) (.ref fk) mF pK iT iX fm gz),gJ⟩)
  (ho:codeIn K fm "Give.__init__" =true)
  (hl:keepIn K (.ref as)=true)
  (fb:K.lookup fk=some ⟨fC,fu,.seq #[.none] pW,fw⟩)
  (gf:Em_ K c4 "__init__" "Split.__init__" mC bf ft)
  (i0:Ef_ K "entry_that_tells" kj dl g2)
  (iv:Ef_ K "is_written_number" jO ep g0)
  (ie:Ef_ K "value_of_word" nH gt d1)
  (hn:Ef_ K "lot_of_word" pG g5 ff)
  (h0:Ef_ K "named_of_words" mD e4 ez)
  (hh:Ef_ K "entry_of_words" mK ec ej)
  (gi:Em_ K c9 "__init__" "NoText.__init__" lG cp go)
  (h5:Ef_ K "entry_in_row" oU ga e7)
  (ib:Ef_ K "read_entries" oO ey er)
  (h3:Ef_ K "_law_told" Ah gh g9)
  (ht:Ef_ K "_law_number" vV eb ev)
  (h9:Ef_ K "_law_lots" Ag g1 g8)
  (hc:Ef_ K "_law_is_ware" oM gy gr)
  (is:Ef_ K "_law_within" pP d0 eh)
  (h4:Ef_ K "_law_read" lD dp gp)
  (hr:Ef_ K "_law_due" CQ gu gc)
  (ab:Df_ K "law" WX it jc iF kn gv lT iN gB mh mn)
  (ed:nsIn K mainGlobals "list" =some none)
  (et:nsIn K mainGlobals "str" =some none)
  (eA:nsIn K mainGlobals "len" =some none)
  (eC:nsIn K mainGlobals "int" =some none)
  (eJ:nsIn K mainGlobals "min" =some none)
  (eK:nsIn K mainGlobals "max" =some none)
  (dY:nsIn K mainGlobals "range" =some none)
  (dH:nsIn K mainGlobals "tuple" =some none)
  (bU:nsIn K mainGlobals "enumerate" =some none)
  (bu:nsIn K mainGlobals "isinstance" =some none)
  (el:nsIn K mainGlobals "bool" =some none)
  (eB:nsIn K mainGlobals "all" =some none)
  (eE:nsIn K mainGlobals "sum" =some none)
  (eF:nsIn K mainGlobals "set" =some none)
  (en:nsIn K mainGlobals "zip" =some none)
  (aH:nsIn K mainGlobals "MOST_LETTERS" =some (some (.int 8 ce)))
  (cv:nsIn K mainGlobals "MOST_DAY" =some (some (.int 1000000 dC)))
  (aT:nsIn K mainGlobals "MOST_NUMBER" =some (some (.int 1000000 cB)))
  (bj:nsIn K mainGlobals "MOST_WHOLE" =some (some (.int 1000000 cO)))
  (aW:nsIn K mainGlobals "MOST_PIECES" =some (some (.int 1000000000 cA)))
  (aY:nsIn K mainGlobals "MOST_PRICE" =some (some (.int 1000000000 cF)))
  (cw:nsIn K mainGlobals "MOST_FEE" =some (some (.int 1000000000 du)))
  (ai:nsIn K mainGlobals "MOST_GIFT_COST" =some (some (.int 1000000000000000000 bt)))
  (bC:nsIn K mainGlobals "MOST_SPLIT" =some (some (.int 1000 cI)))
  (aC:nsIn K mainGlobals "MOST_FIGURES" =some (some (.int 19 b9)))
  {ad:Addr} {bz:Option Addr} {bD:Nat} {bo:Array (Option Value)} {bc:Tok} {be:Tok}
  (aa:nsIn K mainGlobals "KINDS_THAT_NAME_LOTS" =some (some (.ref ad)))
  (ac:K.lookup ad=some ⟨.type "tuple",bz,.seq #[.str "sell" bc,.str "give" be] bD,bo⟩)
  {ah:Addr} {dW:Nat} {bP:Int} {dv bM:Tok} {bK:Int} {dA bO:Tok} {bL:Int} {dw bJ:Tok} {bH:Int} {dy bE:Tok} {bN:Int} {dz bG:Tok} {bI:Int} {dB bF:Tok}
  (aE:nsIn K mainGlobals "PLAIN_WORDS" =some (some (.ref ah)))
  (aA:K.lookup ah=some ⟨.type "dict",none,.dict (List.toArray [⟨bP,.str "buy" dv,.int 7 bM⟩,⟨bK,.str "sell" dA,.int 7 bO⟩,⟨bL,.str "gift" dw,.int 7 bJ⟩,⟨bH,.str "give" dy,.int 5 bE⟩,⟨bN,.str "split" dz,.int 6 bG⟩,⟨bI,.str "part" dB,.int 7 bF⟩]) dW, #[]⟩)
  (aF:(ah==sysModules)=false)
  (az:bP=Yv w (Sum.inr "buy"))
  (av:bK=Yv w (Sum.inr "sell"))
  (aq:bL=Yv w (Sum.inr "gift"))
  (ao:bH=Yv w (Sum.inr "give"))
  (ap:bN=Yv w (Sum.inr "split"))
  (ay:bI=Yv w (Sum.inr "part"))
  (cJ:PySem.W.excIn K c6 [.type "ValueError",.type "Exception",.type "BaseException",.type "object"] "ValueError.__new__" =true)
  {eT eL:Str} {e8:Addr} {eX d4:List Value} {eY:List Str} {eo:List Value} {eQ:Bool} {eD:Option Bool} {eP:Option Addr} {eO eU eV eR eM:Option Value}
  (cM:K.lookup c9=some (excClassObj eT eL c9 e8 eX d4 true eY eo eQ eD eP eO eU eV eR eM "ValueError.__new__"))
  (cU:PySem.W.tailIn K [.type "ValueError",.type "Exception",.type "BaseException",.type "object"] d4=true)
  (cC:isFn K (.ref cp)=true)
  (cG:findIn K (.ref c9) "__setattr__" =some (some (.builtin "object.__setattr__")))
  (cS:keepIn K (.ref c9)=true)
  (cK:findIn K (.ref c9) "__class__" =some (some (.builtin "object.__class__")))
  (cH:findIn K (.ref c9) "__getattribute__" =some (some (.builtin "BaseException.__getattribute__")))
  (cN:findIn K (.ref c9) "__getattr__" =some none)
  (bq:findIn K (.ref c9) "row" =some none)
  (bR:specialIn K (.ref c8) "__getattribute__" =some (some (.builtin "type.__getattribute__")))
  (bZ:readsIn K c8 (.type "type")=true)
  (b6:findCls K (.ref c8) (.type "type") "__init__" =some (.val (.builtin "ValueError.__init__")))
  (d5:plainGet K z Str.empty=true)
  (d7:hasDictIn K z=true)
  (ee:plainOver K z=true)
  (eg:findIn K (.ref z) "__setattr__" =some (some (.builtin "object.__setattr__")))
  (cR:findIn K (.ref z) "day" =some none)
  (bA:findIn K (.ref z) "number" =some none)
  (cr:findIn K (.ref z) "ware" =some none)
  (bw:findIn K (.ref z) "pieces" =some none)
  (bV:findIn K (.ref z) "price" =some none)
  (cT:findIn K (.ref z) "fee" =some none)
  (cg:findIn K (.ref z) "cost" =some none)
  (dJ:plainGet K q Str.empty=true)
  (dQ:hasDictIn K q=true)
  (dL:plainOver K q=true)
  (dP:findIn K (.ref q) "__setattr__" =some (some (.builtin "object.__setattr__")))
  (cx:findIn K (.ref q) "day" =some none)
  (aL:findIn K (.ref q) "number" =some none)
  (bW:findIn K (.ref q) "ware" =some none)
  (aR:findIn K (.ref q) "pieces" =some none)
  (bg:findIn K (.ref q) "price" =some none)
  (ci:findIn K (.ref q) "fee" =some none)
  (aZ:findIn K (.ref q) "named" =some none)
  (au:findIn K (.ref q) "proceeds" =some none)
  (dI:plainGet K c2 Str.empty=true)
  (dZ:hasDictIn K c2=true)
  (dM:plainOver K c2=true)
  (dD:findIn K (.ref c2) "__setattr__" =some (some (.builtin "object.__setattr__")))
  (cf:findIn K (.ref c2) "day" =some none)
  (aJ:findIn K (.ref c2) "number" =some none)
  (bY:findIn K (.ref c2) "ware" =some none)
  (aS:findIn K (.ref c2) "pieces" =some none)
  (bX:findIn K (.ref c2) "cost" =some none)
  (bb:findIn K (.ref c2) "since" =some none)
  (dR:plainGet K c3 Str.empty=true)
  (dN:hasDictIn K c3=true)
  (dO:plainOver K c3=true)
  (dU:findIn K (.ref c3) "__setattr__" =some (some (.builtin "object.__setattr__")))
  (cn:findIn K (.ref c3) "day" =some none)
  (aN:findIn K (.ref c3) "number" =some none)
  (b7:findIn K (.ref c3) "ware" =some none)
  (aU:findIn K (.ref c3) "pieces" =some none)
  (ba:findIn K (.ref c3) "named" =some none)
  (dj:plainGet K c4 Str.empty=true)
  (cV:hasDictIn K c4=true)
  (cZ:plainOver K c4=true)
  (cX:findIn K (.ref c4) "__setattr__" =some (some (.builtin "object.__setattr__")))
  (bQ:findIn K (.ref c4) "day" =some none)
  (aI:findIn K (.ref c4) "number" =some none)
  (bx:findIn K (.ref c4) "ware" =some none)
  (bi:findIn K (.ref c4) "many" =some none)
  (cm:findIn K (.ref c4) "of" =some none)
  (cq:plainGet K c5 Str.empty=true)
  (cy:hasDictIn K c5=true)
  (cz:plainOver K c5=true)
  (cu:findIn K (.ref c5) "__setattr__" =some (some (.builtin "object.__setattr__")))
  (aV:findIn K (.ref c5) "day" =some none)
  (aj:findIn K (.ref c5) "number" =some none)
  (aB:findIn K (.ref c5) "ware" =some none)
  (aw:findIn K (.ref c5) "other" =some none)
  (ax:findIn K (.ref c5) "share" =some none)
  (ar:findIn K (.ref c5) "whole" =some none)
  (b8:makesIn K c5=true)
  (bS:isFn K (.ref bk)=true)
  (bT:keepIn K (.ref c5)=true)
  (dS:makesIn K z=true)
  (dF:isFn K (.ref an)=true)
  (dE:keepIn K (.ref z)=true)
  (dg:makesIn K q=true)
  (cY:isFn K (.ref al)=true)
  (dq:keepIn K (.ref q)=true)
  (dm:makesIn K c2=true)
  (df:isFn K (.ref b1)=true)
  (de:keepIn K (.ref c2)=true)
  (db:makesIn K c3=true)
  (cW:isFn K (.ref as)=true)
  (dh:keepIn K (.ref c3)=true)
  (cD:makesIn K c4=true)
  (cQ:isFn K (.ref bf)=true)
  (cL:keepIn K (.ref c4)=true)
  (bh:isFn K (.ref ch)=true)
  (aK:isFn K (.ref br)=true)
  (aO:isFn K (.ref b0)=true)
  (aM:isFn K (.ref bs)=true)
  (aD:isFn K (.ref bd)=true)
  (am:isFn K (.ref ck)=true)
  (bv:isFn K (.ref b2)=true)
  (aP:isFn K (.ref ct)=true)
  (aQ:isFn K (.ref da)=true)
  (aX:isFn K (.ref b4)=true)
  (aG:isFn K (.ref bn)=true)
  (ak:isFn K (.ref ca)=true)
  (ag:specialIn K (.ref c7) "__getattribute__" =some (some (.builtin "type.__getattribute__")))
  (af:readsIn K c7 (.type "type")=true)
  (ae:findCls K (.ref c7) (.type "type") "__init__" =some (.val (.ref bl)))
  :∃fd:FuncData,(∀(s:Shared)(v:Value),BindsTo s fd ⟨[v],[]⟩ [("_law_script",v)])/\∀base:Heap,K.In base->base.Ns mainGlobals mg->ji l.prog w K mg base CX0 11 fa fd ["_law_script"] (Qo K):=by
 have e:=hz.symm.trans (mg_of X G ab.1);cases e;have T:Txt w K mg ⟨f0,f1,f2,f3,f4,f5,f6,f7,f8,f9,fi,ch,b2,fp,br,ct,b0,da,bs,b4,bd,bn,ck,ca,e2,g4,dr,ge,ei,bl,bk,hb,an,ew,fx,al,b1,as,bf,dl,ep,gt,g5,e4,ec,cp,ga,ey,gh,eb,g1,gy,d0,dp,gu,fa,z,q,c2,c3,c4,c5,c6,c7,c8,c9,ce,dC,cB,cO,cA,cF,du,bt,cI,b9,ad,ah⟩ ⟨_,_,_,_,_,_,_,_,_,_,_,_,_,_,_,_,_,_,_,_,_,_,_,_,_,_,_,_,_,_,_,_,_,_,_,_,_,_,_,_,_,_,_,_,_,_,_,_,_,_,_,_,_,_,_,_⟩:=⟨a0.g X G,a1.g X G,a2.g X G,a3.g X G,a4.g X G,a5.g X G,a6.g X G,a7.g X G,a8.g X G,a9.g X G,a10.g X G,a11.F,a12.F,a13.g X G,a14.F,b5.F,bm.F,b3.F,cs.F,co.F,cl.F,cc.F,bp.F,cb.F,hp.g X G,ia.g X G,hm.g X G,io.g X G,ix.g X G,hv.F,g3.F,hf.g X G,Ow (st:=jq) (its:=[.int 0 eW]) hs im hw eZ rfl (.cons ⟨_,rfl⟩ .nil),ih.g X G,ik.g X G,Ow (st:=jj) (its:=[.int 0 eS,.none]) h7 hu hq fc rfl (.cons ⟨_,rfl⟩ (.cons rfl .nil)),fr.F,Ow (st:=jk) (its:=[.none]) hx ho hl fb rfl (.cons rfl .nil),gf.F,i0.g X G,iv.g X G,ie.g X G,hn.g X G,h0.g X G,hh.g X G,gi.F,h5.g X G,ib.g X G,h3.g X G,ht.g X G,h9.g X G,hc.g X G,is.g X G,h4.g X G,hr.g X G,⟨mg_of X G ab.1,ab.2.2.2,Wd (st:=WX) ab.2.1 ab.2.2.1 ab.2.2.2⟩,mg_none_of X G ed,mg_none_of X G et,mg_none_of X G eA,mg_none_of X G eC,mg_none_of X G eJ,mg_none_of X G eK,mg_none_of X G dY,mg_none_of X G dH,mg_none_of X G bU,mg_none_of X G bu,mg_none_of X G el,mg_none_of X G eB,mg_none_of X G eE,mg_none_of X G eF,mg_none_of X G en,mg_of X G eG,mg_of X G d6,mg_of X G d9,mg_of X G d8,mg_of X G dG,mg_of X G cE,mg_of X G cP,mg_of X G dX,mg_of X G cj,mg_of X G di,mg_of X G aH,mg_of X G cv,mg_of X G aT,mg_of X G bj,mg_of X G aW,mg_of X G aY,mg_of X G cw,mg_of X G ai,mg_of X G bC,mg_of X G aC,mg_of X G aa,λ_=> .inr ⟨_,_,_,ac,rfl,rfl,(by rw[zc];show 2<=16777216;decide),(.cons ⟨_,rfl⟩ (.cons ⟨_,rfl⟩ .nil))⟩,mg_of X G aE,⟨aF,_,_,[(Sum.inr "buy",.int 7 bM),(Sum.inr "sell",.int 7 bO),(Sum.inr "gift",.int 7 bJ),(Sum.inr "give",.int 5 bE),(Sum.inr "split",.int 6 bG),(Sum.inr "part",.int 7 bF)],aA,(.cons ⟨rfl,_,rfl⟩ (.cons ⟨rfl,_,rfl⟩ (.cons ⟨rfl,_,rfl⟩ (.cons ⟨rfl,_,rfl⟩ (.cons ⟨rfl,_,rfl⟩ (.cons ⟨rfl,_,rfl⟩ .nil)))))),λ_=>(.cons (jQ _ _ _ _) rfl (.cons (jQ _ _ _ _) rfl (.cons (jQ _ _ _ _) rfl (.cons (jQ _ _ _ _) rfl (.cons (jQ _ _ _ _) rfl (.cons (jQ _ _ _ _) rfl .nil)))))),yC.mpr ⟨⟨Sum.inr "buy",nA _ _,az⟩,yC.mpr ⟨⟨Sum.inr "sell",nA _ _,av⟩,yC.mpr ⟨⟨Sum.inr "gift",nA _ _,aq⟩,yC.mpr ⟨⟨Sum.inr "give",nA _ _,ao⟩,yC.mpr ⟨⟨Sum.inr "split",nA _ _,ap⟩,yC.mpr ⟨⟨Sum.inr "part",nA _ _,ay⟩,λ_ h=>nomatch h⟩⟩⟩⟩⟩⟩,show([Sum.inr "buy",Sum.inr "sell",Sum.inr "gift",Sum.inr "give",Sum.inr "split",Sum.inr "part"]:List Key).Nodup from by decide+kernel⟩,⟨cJ⟩,⟨⟨_,_,_,_,_,_,_,_,_,_,_,_,_,_,_,cM,cU⟩,gi.n,cC,cG,cS⟩,⟨cK,cH,cN⟩,bq,⟨bR,bZ,b6⟩,⟨d5,d7,ee,eg⟩,cR,bA,cr,bw,bV,cT,cg,⟨dJ,dQ,dL,dP⟩,cx,aL,bW,aR,bg,ci,aZ,au,⟨dI,dZ,dM,dD⟩,cf,aJ,bY,aS,bX,bb,⟨dR,dN,dO,dU⟩,cn,aN,b7,aU,ba,⟨dj,cV,cZ,cX⟩,bQ,aI,bx,bi,cm,⟨cq,cy,cz,cu⟩,aV,aj,aB,aw,ax,ar,⟨b8,g3.n,bS,bT⟩,⟨dS,h8,dF,dE⟩,⟨dg,ic,cY,dq⟩,⟨dm,fr.n,df,de⟩,⟨db,hy,cW,dh⟩,⟨cD,gf.n,cQ,cL⟩,⟨a11.n,bh,a11.k⟩,⟨a14.n,aK,a14.k⟩,⟨bm.n,aO,bm.k⟩,⟨cs.n,aM,cs.k⟩,⟨cl.n,aD,cl.k⟩,⟨bp.n,am,bp.k⟩,⟨a12.n,bv,a12.k⟩,⟨b5.n,aP,b5.k⟩,⟨b3.n,aQ,b3.k⟩,⟨co.n,aX,co.k⟩,⟨cc.n,aG,cc.k⟩,⟨cb.n,ak,cb.k⟩,⟨ag,af,ae⟩⟩
 exact⟨_,λs v=> .of_eq rfl,λbase _ _=>acC T⟩
def walk{l:PySem.W.OpenLaw}{q:Program}{aa:List Str}{XP:(Str->Option Value)->Heap->Prop}{YP:World->Heap->Prop}{d:DefRec}{K:Params->Fg_}(hn:l.most=some 63)(ab:d.params.defaults=[])
  (hY:∀(w:World)(h:Heap),YP w h->(K w.params).In h)
  (F:∀(w:World)(mg:Str->Option Value)(fa:Addr)(h:Heap),(K w.params).In h->h.Ns mainGlobals mg->mg d.name=some (.ref fa)->
   ∃fd:FuncData,(∀(s:Shared)(u:Value),BindsTo s fd ⟨[u],[]⟩ [("_law_script",u)])/\∀base:Heap,(K w.params).In base->base.Ns mainGlobals mg->ji l.prog w (K w.params) mg base CX0 11 fa fd ["_law_script"] (Qo (K w.params))):
  PySem.W.WalkO q aa XP YP l.row.toRowW d [] (λf vs=>PySem.call f vs):=
 L2.walk_of (n:=63) (k:=11) (x:= "_law_script") (CX:=λ_=>CX0) (sp:=λw=>Qo (K w.params)) hn (by decide) ab ⟨rfl,by decide,by decide⟩ hY F (λ_ _ a ns hl _ hS=>⟨a,ns,rfl,hS,hl,λ_=>rfl⟩) λ_ _ _ _ _ z=>z
end My
structure PySem.W.Fast:Prop where(tw10778222270827511373 tw11248522331763375166 tw3923182019048817791 tw2202212554801255813 tw3567215719803374884 tw15890072764170836154 tw16299335868274044333 tw13921491562972080669 tw13361626630263781254 tw6709808031113410154 tw10274375483219378999 tw17236887347454210476 tw13644037104640875547 tw16783403121080020699 tw5727242568522213645 tw6998562220819027838 tw14431171046739986090 tw1570166970681648335 tw17592377035494009564 tw12915588180888336490 tw6213234066562686911 tw2837800115927984961 tw4402578822212384412 tw13536567959863134390 tw4168395470002536808 tw16307065615578835134 tw2014431532771195379 tw11440148107087901652 tw13405760594420788978 tw6790745682826584119 tw10690439882028398072 tw670343336183484692 tw12898385672285340889 tw3455403093397381167 tw16801164827690045074 tw4257304232483283437 tw2348322912373150176 tw14169394838041749427 tw8284224436033992648 tw5144626447541846630 tw5183523197793696781 tw14449828135886979757 tw1234013394406131550 tw5909511623434680140 tw9006909371412704645 tw506350094753617326 tw8467932131451012091 tw17254427780682951364 tw5175682105406993874 tw8671332415221970718 tw1839607727456174750 tw7054999111390466121 tw893851025937978913 tw9729919103061431796 tw11280064127608396578 tw1263180609021786323 tw9765710258915016272 tw9333147548211068887 tw5270714478333496613 tw8618370561397695433 tw4205658859731392702 tw9580014958380374399 tw1641080548042923324 tw818090500551455493 tw6150724060565482429 tw6635356725040653684 tw2219924852228005850 tw3877377428905027512 tw1891316423002652300 tw4395568378461994662 tw5876448859671819915 tw11754893219828089791 tw1169486666006163545 tw13365766963355098334 tw15100384183811723704 tw16642173314557788597 tw9288248541954265660 tw10050579104080510924 tw15570440882202314248 tw11582614354720374040 tw11049834072025572293 tw3377303005442206767 tw8066660152924952774 tw6677833837387989532 tw17688882838832966078 tw615843140673527504 tw1462552296605623425 tw8126856358523809864 tw6328385351034602841 tw3486215958066631662 tw2635845955663506477 tw4853515461576587003 tw12948001769906077520 tw6231343057905352391 tw4988653635441339404 tw17005767766695301517 tw6728090489078840996 tw1476290678636128208 tw6525287223026506520 tw16311553212096932523 tw10321575799420741582 tw15458857603157573699 tw4919621883978462869 tw11633592237536539034 tw9192476818808715007 tw5593322523784268359 tw9824370944123177931 tw2113023943832179584 tw8419964043371390462 tw3768138607007831223 tw5299957609549884569 tw2220973820726644883 tw3046606985584982688 tw8051194573311640911 tw14594370487415063228 tw14680746639675828137 tw16942274778477039691 tw5231554019722426276 tw15456765441889838726 tw1153897227099837311 tw9367512642598239665 tw7101112873232237991 tw4259420690249997512 tw6130618300429382447 tw3576121442312578230 tw1993969725755208236 tw6379283349117981766 tw11400690816607177215 tw2028430338406097888 tw6214118809470957720 tw3040504609964081817 tw16212459927027771791 tw15117786488023876255 tw9757153219780107148 tw12027202803735823203 tw4945665284258018491 tw1653519695463559469 tw4201710815859281652 tw9246239046702706959 tw12615349567977254162 tw2880854301634085499 tw17302662901566158166 tw6073625394922973334 tw4127495317826982206 tw7983299057292023451 tw5641924975284035047 tw6412785780552391040 tw10938071735940441167 tw6758159852843263480 tw17438633681783164160 tw12034736814548681448 tw15744951807279879866 tw13129428453193285073 tw17129868346245018731 tw13311127291589157059 tw6337549113563304900 tw4495368565639568171 tw10845685350021844690 tw2023231770791206827 tw90645369778144941 tw4908929846326318282 tw15226931386202272655 tw13483391543627909586 tw11662703381043720378 tw10229721768405910321 tw8137909756431129207 tw6067810301542215966 tw11811836743217265592 tw10507015537101287934 tw11942714624481703972 tw2898928034912822802 tw8372823539737038476 tw11753076748104877407 tw15027086054921312408 tw12290114776207311683 tw1634148449175593723 tw7414039417526139860 tw9784079364892333695 tw12731742849980742710 tw5397630899837384027 tw7157479372448198732 tw2353202977446580838 tw8887180912478548033 tw14421561842059956612 tw1917278574622396575 tw3457504875377515567 tw14369092424692584020 tw14097747393349024130 tw5394219161610032592 tw12460608909893162435 tw11055035439205575800 tw15683488523809104832 tw17918597180099118870 tw15738901119215668838 tw7025151048393045611 tw16505733621235611988 tw17991140431162412048 tw5517442409400775338 tw13105519017127880403 tw6286707026811415553 tw12031771502227194020 tw18062413158151922314 tw8346356490575145130 tw7421541351295422368 tw16436214450494746870 tw3210036476384935516 tw13404527652848186545 tw1161851289948740445 tw15638633039108418196 tw7307501233061782773 tw373400908575501765 tw8249610329527726592 tw13738051958863668112 tw7288870759046664505 tw15921729388903989111 tw14991886228937322259 tw17648379410133360331 tw11011964828410612650 tw13996837986582565850 tw11025424994682813138 tw9674621393000454381 tw5462919107681264925 tw14108246158089601289 tw5492323459262618794 tw10853131579108897419 tw6303373625728346902 tw16418467886593170445 tw13396420173948284986 tw10073085627146402357 tw13695883429169495788 tw16365256706452912569 tw5003177824925768028 tw15999841744017497424 tw15014982705290543802 tw18073741058918975278 tw6576614635502262229 tw12639636017127819990 tw12487206761593298355 tw2493472759117497677 tw1405923327115715292 tw14953733289713017 tw10056368648416284530 tw16642006810268534235 tw18222937088290398379 tw11722716644858839807 tw15568045046804978546 tw10671284310107903405 tw17682246634355025545 tw13062810902136172923 tw6172880020623599205 tw8210290561802894104 tw14995525753841217632 tw7086985314683300078 tw2483243258967842562 tw3516908954298665770 tw15271505082951540927 tw4043990118214959280 tw17584937397767061877 tw3004526608667519698 tw5313287275379620277 tw2125329990277166401 tw9084931332424493622 tw12183841274262103093 tw13757872958710764143 tw15475511909611490331 tw16381135207368682894 tw8590314766334062724 tw1175474060733257300 tw15432452051341711893 tw16108089407001697981 tw5689590735397770291 tw8918050154559498714 tw16590077112497304828 tw3231527189614483529 tw16118073065180514321 tw10523129663667894440 tw11114282673335551841 tw8525367628714918305 tw541849056839028410 tw6269164587438044351 tw10876737655175827880 tw9166361537273189099 tw10806014342960008234 tw977840769146002866 tw17794865139495853327 tw5429552066241079174 tw4237428639371613955 tw2921579046010534022 tw10660227744670589498 tw11410709274127684492 tw17439271774256963564 tw787375912515671785 tw17331404061244408104 tw7071686478561860405 tw1630841692441291362 tw13918853582663172167 tw7944213265911910309 tw9482749099532369312 tw17682139684680069212 tw3048986916064718405 tw1237735134296531250 tw4558604165390959025 tw8580634177843311408 tw3600482707702307031 tw8834394080620003747 tw12160998789099598900 tw2287872917474929278 tw3030286783259890961 tw2715247667063585101 tw1888218880274377476 tw4647535336081298490 tw7431981885373764059 tw10468961717068572187 tw15698730004314028092 tw2194250177866815588 tw13500958571352467020 tw11521396879889329797 tw13310543541053820294 tw12149408033354294424 tw2559693558067370034 tw15128764035489613480 tw7527657705092121669 tw1956139639954198710 tw5115933093006107374 tw2147895774180220315 tw16561031509073396486 tw12244129380430335620 tw13170907960764338547 tw14741943516973109269 tw1992076956575122583 tw6629050476609600098 tw17147749537293530152 tw16661284425755235998 tw10917437794477318433 tw12195623141730785646 tw8227381604595726236 tw6952343096395770252 tw1546517911708810535 tw14743549165527607378 tw4944119886076524300 tw14964429701090480147 tw5618357707047138382 tw5241335743970297097:True)
open PySem PySem.W PyProof.Rows
set_option maxRecDepth 100000 in
set_option maxHeartbeats 0 in
theorem PySem.Challenge.cw_lotledger_k83_texts_read_or_refused_holds : PySem.Challenge.rw_lotledger_k83_texts_read_or_refused.Holds := by
 w_on;o_law;k_head;(case hw=>w_witness2)
 k_fill
 refine My.walk (l:=PySem.Challenge.rw_lotledger_k83_texts_read_or_refused) rfl rfl (λw h Y=>PySem.W.kIn_of Y) ?F
 case F=>
  intro w mg fa h KX G hmg;refine' My.all_mk KX G hmg ?eG ?d6 ?d9 ?d8 ?dG ?cE ?cP ?dX ?cj ?di ?a0 ?a1 ?a2 ?a3 ?a4 ?a5 ?a6 ?a7 ?a8 ?a9 ?a10 ?a11 ?a12 ?a13 ?a14 ?a15 ?a16 ?a17 ?a18 ?a19 ?a20 ?a21 ?a22 ?a23 ?a24 ?a25 ?a26 ?a27 ?a28 ?a29 ?a30 ?a31 ?a32 ?l32 ?d32 ?k32 ?eZ ?a33 ?a34 ?a35 ?l35 ?d35 ?k35 ?fc ?a36 ?a37 ?l37 ?d37 ?k37 ?fb ?a38 ?a39 ?a40 ?a41 ?a42 ?a43 ?a44 ?a45 ?a46 ?a47 ?a48 ?a49 ?a50 ?a51 ?a52 ?a53 ?a54 ?a55 ?ed ?et ?eA ?eC ?eJ ?eK ?dY ?dH ?bU ?bu ?el ?eB ?eE ?eF ?en ?aH ?cv ?aT ?bj ?aW ?aY ?cw ?ai ?bC ?aC ?aa ?ac ?aE ?aA ?aF ?az ?av ?aq ?ao ?ap ?ay ?cJ ?cM ?cU ?cC ?cG ?cS ?cK ?cH ?cN ?bq ?bR ?bZ ?b6 ?d5 ?d7 ?ee ?eg ?cR ?bA ?cr ?bw ?bV ?cT ?cg ?dJ ?dQ ?dL ?dP ?cx ?aL ?bW ?aR ?bg ?ci ?aZ ?au ?dI ?dZ ?dM ?dD ?cf ?aJ ?bY ?aS ?bX ?bb ?dR ?dN ?dO ?dU ?cn ?aN ?b7 ?aU ?ba ?dj ?cV ?cZ ?cX ?bQ ?aI ?bx ?bi ?cm ?cq ?cy ?cz ?cu ?aV ?aj ?aB ?aw ?ax ?ar ?b8 ?bS ?bT ?dS ?dF ?dE ?dg ?cY ?dq ?dm ?df ?de ?db ?cW ?dh ?cD ?cQ ?cL ?bh ?aK ?aO ?aM ?aD ?am ?bv ?aP ?aQ ?aX ?aG ?ak ?ag ?af ?ae
  (case eG|d6|d9|d8|dG|cE|cP|dX|cj|di=>k_is)
  (case a0|a1|a2|a3|a4|a5|a6|a7|a8|a9|a10|a11|a12|a13|a14|a15|a16|a17|a18|a19|a20|a21|a22|a23|a24|a25|a26|a27|a28|a29|a30|a31=>constructor;rfl;refine⟨?_,?_,?_,?_⟩<;>k_is)
  (case a32|l32|d32|k32|eZ=>k_is)
  (case a33|a34=>constructor;rfl;refine⟨?_,?_,?_,?_⟩<;>k_is)
  (case a35|l35|d35|k35|fc=>k_is)
  (case a36=>constructor;rfl;refine⟨?_,?_,?_,?_⟩<;>k_is)
  (case a37|l37|d37|k37|fb=>k_is)
  (case a38|a39|a40|a41|a42|a43|a44|a45|a46|a47|a48|a49|a50|a51|a52|a53|a54=>constructor;rfl;refine⟨?_,?_,?_,?_⟩<;>k_is)
  (case a55=>refine⟨?_,?_,?_,?_⟩<;>k_is)
  (case ed|et|eA|eC|eJ|eK|dY|dH|bU|bu|el|eB|eE|eF|en|aH|cv|aT|bj|aW|aY|cw|ai|bC|aC|aa|ac|aE|aA=>k_is)
  (case aF=>kernel_rfl)
  (case az|av|aq|ao|ap|ay=>rfl)
  (case cJ=>k_exc)
  (case cM=>k_is)
  (case cU=>kernel_rfl)
  (case cC|cG|cS|cK|cH|cN|bq|bR|bZ|b6|d5|d7|ee|eg|cR|bA|cr|bw|bV|cT|cg|dJ|dQ|dL|dP|cx|aL|bW|aR|bg|ci|aZ|au|dI|dZ|dM|dD|cf|aJ|bY|aS|bX|bb|dR|dN|dO|dU|cn|aN|b7|aU|ba|dj|cV|cZ|cX|bQ|aI|bx|bi|cm|cq|cy|cz|cu|aV|aj|aB|aw|ax|ar|b8|bS|bT|dS|dF|dE|dg|cY|dq|dm|df|de|db|cW|dh|cD|cQ|cL|bh|aK|aO|aM|aD|am|bv|aP|aQ|aX|aG|ak|ag|af|ae=>k_is)
